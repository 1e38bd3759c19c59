/-
  UU: NestPure.
-/
namespace Go.Proofs.YtbkfhndmeljlcaaGreatDoor
/-- An if or a loop that is open. -/
structure NPart where
  loop : Bool
  at_ : Nat
  waits : Nat
  left : List Nat
/-- The program's state: the innermost part first. -/
structure NSt where
  tO : List Int
  deep : Nat
  op : List NPart
/-- The part that a ~ waits in. -/
def leaveP (i : Nat) : List NPart → Option (List NPart)
  | [] => none
  | p :: r => if p.loop = true then some (⟨p.loop, p.at_, p.waits, p.left ++ [i]⟩ :: r) else (leaveP i r).map (p :: ·)
def setAll (v : Int) : List Nat → List Int → List Int
  | [], t => t
  | j :: r, t => setAll v r (t.set j v)
def nTake (i : Nat) (s : Int) (m : NSt) : Option NSt :=
  if s = 63 ∨ s = 91 then
    if m.op.length + 1 ≤ 16 then some ⟨m.tO, max m.deep (m.op.length + 1), ⟨decide (s = 91), i, i, []⟩ :: m.op⟩ else none
  else if s = 58 then match m.op with
    | p :: r => if p.loop = false ∧ p.waits = p.at_ then some ⟨m.tO.set p.at_ ((i : Int) + 1), m.deep, ⟨p.loop, p.at_, i, p.left⟩ :: r⟩ else none
    | [] => none
  else if s = 59 then match m.op with
    | p :: r => if p.loop = false then some ⟨m.tO.set p.waits (i : Int), m.deep, r⟩ else none
    | [] => none
  else if s = 93 then match m.op with
    | p :: r => if p.loop = true then some ⟨setAll ((i : Int) + 1) p.left (m.tO.set i (p.at_ : Int)), m.deep, r⟩ else none
    | [] => none
  else if s = 126 then (leaveP i m.op).map fun o => ⟨m.tO, m.deep, o⟩
  else some m
def nRun : Nat → List Int → NSt → Option NSt
  | _, [], m => some m
  | i, s :: r, m => (nTake i s ⟨m.tO.set i (-1), m.deep, m.op⟩).bind (nRun (i + 1) r)
/-- The reference's state: where each open part's last sign lies. -/
structure RSt where
  tO : List Int
  deep : Nat
  op : List Nat
def rTake (ss : List Int) (i : Nat) (s : Int) (m : RSt) : Option RSt :=
  if s = 63 ∨ s = 91 then
    if m.op.length + 1 ≤ 16 then some ⟨m.tO, max m.deep (m.op.length + 1), i :: m.op⟩ else none
  else if s = 58 then match m.op with
    | p :: r => if ss[p]? = some 63 then some ⟨m.tO.set p ((i : Int) + 1), m.deep, i :: r⟩ else none
    | [] => none
  else if s = 59 then match m.op with
    | p :: r => if ss[p]? = some 91 then none else some ⟨m.tO.set p (i : Int), m.deep, r⟩
    | [] => none
  else if s = 93 then match m.op with
    | p :: r => if ss[p]? = some 91 then some ⟨m.tO.set i (p : Int), m.deep, r⟩ else none
    | [] => none
  else some m
def rRun (ss : List Int) : Nat → List Int → RSt → Option RSt
  | _, [], m => some m
  | i, s :: r, m => (rTake ss i s ⟨m.tO.set i (-1), m.deep, m.op⟩).bind (rRun ss (i + 1) r)
/-- What is open for the program, and for the reference. -/
structure Part (ss : List Int) (n : Nat) (p : NPart) : Prop where
  lt : p.at_ < n
  ltw : p.waits < n
  le : p.at_ ≤ p.waits
  loop : p.loop = true → p.waits = p.at_ ∧ ss[p.at_]? = some 91
  if_ : p.loop = false → ss[p.at_]? = some 63 ∧ (p.waits = p.at_ ∨ ss[p.waits]? = some 58)
theorem Part.more {ss : List Int} {n k : Nat} {p : NPart} (h : Part ss n p) (hk : n ≤ k) : Part ss k p := ⟨by have := h.lt; omega, by have := h.ltw; omega, h.le, h.loop, h.if_⟩
theorem Part.is_loop {ss : List Int} {n : Nat} {p : NPart} (h : Part ss n p) : ss[p.waits]? = some 91 ↔ p.loop = true := by
  constructor
  · intro h1
    cases hl : p.loop with
    | true => rfl
    | false =>
      obtain ⟨a, b | b⟩ := h.if_ hl
      · rw [b, a] at h1; cases h1
      · rw [b] at h1; cases h1
  · intro hl
    obtain ⟨a, b⟩ := h.loop hl
    rw [a, b]
theorem Part.is_if {ss : List Int} {n : Nat} {p : NPart} (h : Part ss n p) : ss[p.waits]? = some 63 ↔ (p.loop = false ∧ p.waits = p.at_) := by
  constructor
  · intro h1
    cases hl : p.loop with
    | true =>
      obtain ⟨a, b⟩ := h.loop hl
      rw [a, b] at h1; cases h1
    | false =>
      obtain ⟨a, b | b⟩ := h.if_ hl
      · exact ⟨rfl, b⟩
      · rw [b] at h1; cases h1
  · rintro ⟨hl, e⟩
    rw [e]; exact (h.if_ hl).1
theorem leaveP_some {i : Nat} : ∀ {l : List NPart}, (∃ p ∈ l, p.loop = true) → ∃ o, leaveP i l = some o := by
  intro l
  induction l with
  | nil => rintro ⟨p, h, _⟩; cases h
  | cons p r ih =>
    rintro ⟨q, hq, hl⟩
    unfold leaveP
    by_cases h : p.loop = true
    · exact ⟨_, if_pos h⟩
    · rw [if_neg h]
      have : ∃ q ∈ r, q.loop = true := by
        rcases List.mem_cons.1 hq with rfl | hq
        · exact absurd hl h
        · exact ⟨q, hq, hl⟩
      obtain ⟨o, ho⟩ := ih this
      exact ⟨p :: o, by rw [ho]; rfl⟩
theorem leaveP_split {i : Nat} : ∀ {l o : List NPart}, leaveP i l = some o → ∃ a p r, l = a ++ p :: r ∧ (∀ q ∈ a, q.loop = false) ∧ p.loop = true ∧ o = a ++ ⟨p.loop, p.at_, p.waits, p.left ++ [i]⟩ :: r := by
  intro l
  induction l with
  | nil => intro o h; cases h
  | cons p r ih =>
    intro o h
    unfold leaveP at h
    by_cases hp : p.loop = true
    · rw [if_pos hp] at h
      injection h with h
      exact ⟨[], p, r, rfl, (fun q hq => by cases hq), hp, h.symm⟩
    · rw [if_neg hp] at h
      cases hr : leaveP i r with
      | none => rw [hr] at h; cases h
      | some o' =>
        rw [hr] at h
        injection h with h
        obtain ⟨a, q, r', e1, e2, e3, e4⟩ := ih hr
        exact ⟨p :: a, q, r', by rw [e1]; rfl, fun x hx => by rcases List.mem_cons.1 hx with rfl | hx; exact (Bool.not_eq_true _).mp hp; exact e2 x hx, e3, by rw [← h, e4]; rfl⟩
theorem leaveP_none {i : Nat} : ∀ {l : List NPart}, leaveP i l = none → ∀ p ∈ l, p.loop = false := by
  intro l h p hp
  cases hl : p.loop with
  | false => rfl
  | true =>
    obtain ⟨o, ho⟩ := leaveP_some (i := i) ⟨p, hp, hl⟩
    rw [h] at ho; cases ho
/-- A ] whose part was opened ahead of place j, or not. -/
def Behind (ss : List Int) (t : List Int) (j a b : Nat) : Prop := ∀ k, j ≤ k → a ≤ k → k < b → ss[k]? = some 93 → ∃ v, t[k]? = some v ∧ (j : Int) ≤ v
structure Sim (ss : List Int) (n : Nat) (m : NSt) (r : RSt) : Prop where
  deep : m.deep = r.deep
  op : m.op.map (·.waits) = r.op
  lenM : m.tO.length = ss.length
  lenR : r.tO.length = ss.length
  parts : ∀ p ∈ m.op, Part ss n p
  desc : m.op.Pairwise fun p q => q.waits < p.at_
  same : ∀ j : Nat, ss[j]? ≠ some 126 → m.tO[j]? = r.tO[j]?
  pend : ∀ p ∈ m.op, ∀ j ∈ p.left, p.loop = true ∧ ss[j]? = some 126 ∧ p.waits < j ∧ j < n ∧ Behind ss r.tO j 0 n ∧ ∀ q ∈ m.op, q.loop = true → p.at_ < q.at_ → j < q.at_
  done : ∀ j : Nat, j < n → ss[j]? = some 126 → (∃ p ∈ m.op, j ∈ p.left) ∨ ∃ k : Nat, j < k ∧ k < n ∧ m.tO[j]? = some ((k : Int) + 1) ∧ ss[k]? = some 93 ∧ (∃ v, r.tO[k]? = some v ∧ v < (j : Int)) ∧ Behind ss r.tO j 0 k
theorem Behind.keep {ss t u : List Int} {j a b : Nat} (h : Behind ss t j a b) (hu : ∀ k : Nat, k < b → ss[k]? = some 93 → u[k]? = t[k]?) : Behind ss u j a b := fun k h1 h2 h3 h4 => by rw [hu k h3 h4]; exact h k h1 h2 h3 h4
theorem Behind.next {ss t : List Int} {j b : Nat} (h : Behind ss t j 0 b) (hb : ss[b]? = some 93 → ∃ v, t[b]? = some v ∧ (j : Int) ≤ v) : Behind ss t j 0 (b + 1) := fun k h1 h2 h3 h4 => by
  rcases Nat.lt_or_ge k b with hk | hk
  · exact h k h1 h2 hk h4
  · obtain rfl : k = b := by omega
    exact hb h4
/-- What no sign but ] changes. -/
theorem Sim.plain {ss : List Int} {n : Nat} {m : NSt} {r : RSt} (h : Sim ss n m r) {tm tr : List Int} {dm : Nat} {om : List NPart} (hn : ss[n]? ≠ some 93) (hn2 : ss[n]? ≠ some 126) (lm : tm.length = ss.length) (lr : tr.length = ss.length)
    (hsame : ∀ j : Nat, ss[j]? ≠ some 126 → tm[j]? = tr[j]?) (h9 : ∀ k : Nat, k < n → ss[k]? = some 93 → tr[k]? = r.tO[k]?) (h6 : ∀ j : Nat, j < n → ss[j]? = some 126 → tm[j]? = m.tO[j]?)
    (hparts : ∀ p ∈ om, Part ss (n + 1) p) (hdesc : om.Pairwise fun p q => q.waits < p.at_)
    (hleft : ∀ p ∈ om, p.left = [] ∨ ∃ p0 ∈ m.op, p0.left = p.left ∧ p0.loop = p.loop ∧ p0.at_ = p.at_ ∧ p0.waits = p.waits)
    (hleft2 : ∀ p ∈ m.op, p.left ≠ [] → ∃ p0 ∈ om, p0.left = p.left)
    (hloop : ∀ q ∈ om, q.loop = true → q.at_ = n ∨ ∃ q0 ∈ m.op, q0.loop = true ∧ q0.at_ = q.at_) :
    Sim ss (n + 1) ⟨tm, dm, om⟩ ⟨tr, dm, om.map (·.waits)⟩ where
  deep := rfl
  op := rfl
  lenM := lm
  lenR := lr
  parts := hparts
  desc := hdesc
  same := hsame
  pend := fun p hp j hj => by
    rcases hleft p hp with e | ⟨p0, hp0, e1, e2, e3, e4⟩
    · rw [e] at hj; cases hj
    · rw [← e1] at hj
      obtain ⟨a1, a2, a3, a4, a5, a6⟩ := h.pend p0 hp0 j hj
      refine ⟨by rw [← e2]; exact a1, a2, by omega, by omega, (a5.keep h9).next (fun h9' => absurd h9' hn), fun q hq hl hlt => ?_⟩
      rcases hloop q hq hl with e | ⟨q0, hq0, l0, e0⟩
      · omega
      · rw [← e0] at hlt ⊢
        exact a6 q0 hq0 l0 (by omega)
  done := fun j hj hs => by
    have hjn : j < n := by
      rcases Nat.lt_or_ge j n with hk | hk
      · exact hk
      · obtain rfl : j = n := by omega
        exact absurd hs hn2
    rcases h.done j hjn hs with ⟨p, hp, hj2⟩ | ⟨k, b1, b2, b3, b4, ⟨v, b5, b6⟩, b7⟩
    · obtain ⟨p0, hp0, e⟩ := hleft2 p hp (fun e => by rw [e] at hj2; cases hj2)
      exact .inl ⟨p0, hp0, by rw [e]; exact hj2⟩
    · exact .inr ⟨k, b1, by omega, by rw [h6 j hjn hs]; exact b3, b4, ⟨v, by rw [h9 k b2 b4]; exact b5, b6⟩, b7.keep (fun k' hk' h9' => h9 k' (by omega) h9')⟩
theorem setAll_len (v : Int) : ∀ (l : List Nat) (t : List Int), (setAll v l t).length = t.length
  | [], _ => rfl
  | j :: r, t => by show (setAll v r (t.set j v)).length = _; rw [setAll_len v r, List.length_set]
theorem setAll_not (v : Int) (j : Nat) : ∀ (l : List Nat) (t : List Int), j ∉ l → (setAll v l t)[j]? = t[j]?
  | [], _, _ => rfl
  | i :: r, t, h => by
    show (setAll v r (t.set i v))[j]? = _
    rw [setAll_not v j r _ (fun e => h (List.mem_cons_of_mem _ e)), List.getElem?_set_ne (fun e => h (by rw [e]; exact List.mem_cons_self ..))]
theorem setAll_mem (v : Int) (j : Nat) : ∀ (l : List Nat) (t : List Int), j ∈ l → j < t.length → (setAll v l t)[j]? = some v
  | i :: r, t, h, ht => by
    show (setAll v r (t.set i v))[j]? = _
    by_cases hr : j ∈ r
    · exact setAll_mem v j r _ hr (by rw [List.length_set]; exact ht)
    · rw [setAll_not v j r _ hr]
      rcases List.mem_cons.1 h with e | e
      · rw [e, List.getElem?_set_self (by rw [← e]; exact ht)]
      · exact absurd e hr
theorem same_set {ss a b : List Int} (h : ∀ j : Nat, ss[j]? ≠ some 126 → a[j]? = b[j]?) (hl : a.length = b.length) (i : Nat) (v : Int) : ∀ j : Nat, ss[j]? ≠ some 126 → (a.set i v)[j]? = (b.set i v)[j]? := fun j hj => by
  rw [List.getElem?_set, List.getElem?_set, hl, h j hj]
theorem keep_set {ss a : List Int} {i : Nat} {s v x : Int} (hi : ss[i]? = some x) (hx : x ≠ s) : ∀ k : Nat, ss[k]? = some s → (a.set i v)[k]? = a[k]? := fun k hk => by
  rw [List.getElem?_set_ne (fun e => by subst e; rw [hi] at hk; injection hk with hk; exact hx hk)]
theorem sim_step {ss : List Int} {n : Nat} {m : NSt} {r : RSt} {s : Int} (h : Sim ss n m r) (hs : ss[n]? = some s) :
    (∃ m' r', nTake n s ⟨m.tO.set n (-1), m.deep, m.op⟩ = some m' ∧ rTake ss n s ⟨r.tO.set n (-1), r.deep, r.op⟩ = some r' ∧ Sim ss (n + 1) m' r') ∨
    (nTake n s ⟨m.tO.set n (-1), m.deep, m.op⟩ = none ∧ rTake ss n s ⟨r.tO.set n (-1), r.deep, r.op⟩ = none) ∨
    (s = 126 ∧ nTake n s ⟨m.tO.set n (-1), m.deep, m.op⟩ = none ∧ ∀ p ∈ m.op, p.loop = false) := by
  have hop := h.op
  have hln : n < ss.length := by
    rcases Nat.lt_or_ge n ss.length with hk | hk
    · exact hk
    · rw [List.getElem?_eq_none hk] at hs; cases hs
  have hlen : r.op.length = m.op.length := by rw [← hop, List.length_map]
  have lmr : m.tO.length = r.tO.length := by rw [h.lenM, h.lenR]
  have hs0 := same_set h.same lmr n (-1)
  have lm0 : (m.tO.set n (-1)).length = ss.length := by rw [List.length_set, h.lenM]
  have lr0 : (r.tO.set n (-1)).length = ss.length := by rw [List.length_set, h.lenR]
  have k0 : ∀ (t : List Int) (k : Nat), k < n → (t.set n (-1))[k]? = t[k]? := fun t k hk => List.getElem?_set_ne (by omega)
  have hdp := h.deep
  obtain ⟨mt, md, mo⟩ := m
  obtain ⟨rt, rd, ro⟩ := r
  simp only at *
  subst hdp hop
  unfold nTake rTake
  simp only
  by_cases c1 : s = 63 ∨ s = 91
  · rw [if_pos c1, if_pos c1, hlen]
    by_cases c2 : mo.length + 1 ≤ 16
    · rw [if_pos c2, if_pos c2]
      refine .inl ⟨_, _, rfl, rfl, ?_⟩
      have h93 : ss[n]? ≠ some 93 := by rw [hs]; intro e; injection e with e; omega
      have h126 : ss[n]? ≠ some 126 := by rw [hs]; intro e; injection e with e; omega
      refine h.plain h93 h126 lm0 lr0 hs0 (fun k hk _ => k0 rt k hk) (fun j hj _ => k0 mt j hj) ?_ ?_ ?_ ?_ ?_
      · intro p hp
        rcases List.mem_cons.1 hp with rfl | hp
        · refine ⟨by simp only; omega, by simp only; omega, Nat.le_refl _, fun hl => ⟨rfl, ?_⟩, fun hl => ⟨?_, .inl rfl⟩⟩
          · have : s = 91 := of_decide_eq_true hl
            rw [hs, this]
          · have : ¬ s = 91 := of_decide_eq_false hl
            have : s = 63 := by omega
            rw [hs, this]
        · exact (h.parts p hp).more (by omega)
      · refine List.pairwise_cons.2 ⟨fun q hq => ?_, h.desc⟩
        exact (h.parts q hq).ltw
      · intro p hp
        rcases List.mem_cons.1 hp with rfl | hp
        · exact .inl rfl
        · exact .inr ⟨p, hp, rfl, rfl, rfl, rfl⟩
      · exact fun p hp _ => ⟨p, List.mem_cons_of_mem _ hp, rfl⟩
      · intro q hq hl
        rcases List.mem_cons.1 hq with rfl | hq
        · exact .inl rfl
        · exact .inr ⟨q, hq, hl, rfl⟩
    · rw [if_neg c2, if_neg c2]
      exact .inr (.inl ⟨rfl, rfl⟩)
  · rw [if_neg c1, if_neg c1]
    by_cases c3 : s = 58
    · rw [if_pos c3, if_pos c3]
      subst c3
      cases mo with
      | nil => exact .inr (.inl ⟨rfl, rfl⟩)
      | cons p o =>
        have hP := h.parts p (List.mem_cons_self ..)
        simp only [List.map_cons]
        by_cases c4 : p.loop = false ∧ p.waits = p.at_
        · rw [if_pos c4, if_pos (hP.is_if.2 c4), c4.2]
          refine .inl ⟨_, _, rfl, rfl, ?_⟩
          have hp63 := (hP.if_ c4.1).1
          refine h.plain (by rw [hs]; decide) (by rw [hs]; decide) (by rw [List.length_set]; exact lm0) (by rw [List.length_set]; exact lr0) (same_set hs0 (by rw [lm0, lr0]) _ _) (fun k hk h9 => by rw [keep_set hp63 (by decide) k h9, k0 rt k hk]) (fun j hj h6 => by rw [keep_set hp63 (by decide) j h6, k0 mt j hj]) ?_ ?_ ?_ ?_ ?_
          · intro q hq
            rcases List.mem_cons.1 hq with rfl | hq
            · exact ⟨by have := hP.lt; simp only; omega, by simp only; omega, by have := hP.lt; simp only; omega, (fun hl => by simp only at hl; rw [c4.1] at hl; cases hl), fun _ => ⟨hp63, .inr hs⟩⟩
            · exact (h.parts q (List.mem_cons_of_mem _ hq)).more (by omega)
          · have := List.pairwise_cons.1 h.desc
            exact List.pairwise_cons.2 ⟨fun q hq => this.1 q hq, this.2⟩
          · intro q hq
            rcases List.mem_cons.1 hq with rfl | hq
            · refine .inl ?_
              simp only
              cases hl : p.left with
              | nil => rfl
              | cons j l =>
                have := (h.pend p (List.mem_cons_self ..) j (by rw [hl]; exact List.mem_cons_self ..)).1
                rw [c4.1] at this; cases this
            · exact .inr ⟨q, List.mem_cons_of_mem _ hq, rfl, rfl, rfl, rfl⟩
          · intro q hq _
            rcases List.mem_cons.1 hq with rfl | hq
            · exact ⟨_, List.mem_cons_self .., rfl⟩
            · exact ⟨q, List.mem_cons_of_mem _ hq, rfl⟩
          · intro q hq hl
            rcases List.mem_cons.1 hq with rfl | hq
            · simp only at hl; rw [c4.1] at hl; cases hl
            · exact .inr ⟨q, List.mem_cons_of_mem _ hq, hl, rfl⟩
        · rw [if_neg c4, if_neg (fun e => c4 (hP.is_if.1 e))]
          exact .inr (.inl ⟨rfl, rfl⟩)
    · rw [if_neg c3, if_neg c3]
      by_cases c5 : s = 59
      · rw [if_pos c5, if_pos c5]
        subst c5
        cases mo with
        | nil => exact .inr (.inl ⟨rfl, rfl⟩)
        | cons p o =>
          have hP := h.parts p (List.mem_cons_self ..)
          simp only [List.map_cons]
          by_cases c6 : p.loop = false
          · rw [if_pos c6, if_neg (fun e => by have := hP.is_loop.1 e; rw [c6] at this; cases this)]
            refine .inl ⟨_, _, rfl, rfl, ?_⟩
            have hw : ∃ x, ss[p.waits]? = some x ∧ x ≠ 93 ∧ x ≠ 126 := by
              obtain ⟨a, b | b⟩ := hP.if_ c6
              · exact ⟨63, by rw [b, a], by decide, by decide⟩
              · exact ⟨58, b, by decide, by decide⟩
            obtain ⟨x, hw, x1, x2⟩ := hw
            refine h.plain (by rw [hs]; decide) (by rw [hs]; decide) (by rw [List.length_set]; exact lm0) (by rw [List.length_set]; exact lr0) (same_set hs0 (by rw [lm0, lr0]) _ _) (fun k hk h9 => by rw [keep_set hw x1 k h9, k0 rt k hk]) (fun j hj h6 => by rw [keep_set hw x2 j h6, k0 mt j hj]) ?_ ?_ ?_ ?_ ?_
            · exact fun q hq => (h.parts q (List.mem_cons_of_mem _ hq)).more (by omega)
            · exact (List.pairwise_cons.1 h.desc).2
            · exact fun q hq => .inr ⟨q, List.mem_cons_of_mem _ hq, rfl, rfl, rfl, rfl⟩
            · intro q hq hne
              rcases List.mem_cons.1 hq with rfl | hq
              · exfalso
                cases hl : q.left with
                | nil => exact hne hl
                | cons j l =>
                  have := (h.pend q (List.mem_cons_self ..) j (by rw [hl]; exact List.mem_cons_self ..)).1
                  rw [c6] at this; cases this
              · exact ⟨q, hq, rfl⟩
            · exact fun q hq hl => .inr ⟨q, List.mem_cons_of_mem _ hq, hl, rfl⟩
          · have c7 : p.loop = true := (Bool.not_eq_false _).mp c6
            rw [if_neg c6, if_pos (hP.is_loop.2 c7)]
            exact .inr (.inl ⟨rfl, rfl⟩)
      · rw [if_neg c5, if_neg c5]
        by_cases c8 : s = 93
        · rw [if_pos c8, if_pos c8]
          subst c8
          cases mo with
          | nil => exact .inr (.inl ⟨rfl, rfl⟩)
          | cons p o =>
            have hP := h.parts p (List.mem_cons_self ..)
            simp only [List.map_cons]
            by_cases c9 : p.loop = true
            · rw [if_pos c9, if_pos (hP.is_loop.2 c9), (hP.loop c9).1]
              refine .inl ⟨_, _, rfl, rfl, ?_⟩
              have hd := List.pairwise_cons.1 h.desc
              have hpl := fun j hj => h.pend p (List.mem_cons_self ..) j hj
              have hr9 : ∀ k : Nat, k < n → ss[k]? = some 93 → ((rt.set n (-1)).set n (p.at_ : Int))[k]? = rt[k]? := fun k hk _ => by
                rw [List.getElem?_set_ne (by omega), k0 rt k hk]
              have hrn : ((rt.set n (-1)).set n (p.at_ : Int))[n]? = some (p.at_ : Int) := List.getElem?_set_self (by rw [lr0]; exact hln)
              refine ⟨rfl, rfl, by rw [setAll_len, List.length_set]; exact lm0, by rw [List.length_set]; exact lr0, fun q hq => (h.parts q (List.mem_cons_of_mem _ hq)).more (by omega), hd.2, fun j hj => ?_, fun q hq j hj => ?_, fun j hj hj6 => ?_⟩
              · rw [setAll_not _ _ _ _ (fun e => hj (hpl j e).2.1)]
                exact same_set hs0 (by rw [lm0, lr0]) _ _ j hj
              · obtain ⟨a1, a2, a3, a4, a5, a6⟩ := h.pend q (List.mem_cons_of_mem _ hq) j hj
                have hqp := hd.1 q hq
                have hqle := (h.parts q (List.mem_cons_of_mem _ hq)).le
                have := a6 p (List.mem_cons_self ..) c9 (by omega)
                exact ⟨a1, a2, a3, by omega, (a5.keep hr9).next (fun _ => ⟨_, hrn, by omega⟩), fun q' hq' hl' hlt' => a6 q' (List.mem_cons_of_mem _ hq') hl' hlt'⟩
              · have hjn : j < n := by
                  rcases Nat.lt_or_ge j n with hk | hk
                  · exact hk
                  · obtain rfl : j = n := by omega
                    rw [hs] at hj6; cases hj6
                by_cases hjp : j ∈ p.left
                · obtain ⟨a1, a2, a3, a4, a5, a6⟩ := hpl j hjp
                  have hle := hP.le
                  exact .inr ⟨n, hjn, by omega, setAll_mem _ _ _ _ hjp (by rw [List.length_set, lm0]; omega), hs, ⟨_, hrn, by omega⟩, a5.keep hr9⟩
                · rcases h.done j hjn hj6 with ⟨q, hq, hj2⟩ | ⟨k, b1, b2, b3, b4, ⟨v, b5, b6⟩, b7⟩
                  · rcases List.mem_cons.1 hq with rfl | hq
                    · exact absurd hj2 hjp
                    · exact .inl ⟨q, hq, hj2⟩
                  · refine .inr ⟨k, b1, by omega, ?_, b4, ⟨v, by rw [hr9 k b2 b4]; exact b5, b6⟩, b7.keep (fun k' hk' h9' => hr9 k' (by omega) h9')⟩
                    rw [setAll_not _ _ _ _ hjp, List.getElem?_set_ne (by omega), k0 mt j hjn]
                    exact b3
            · rw [if_neg c9, if_neg (fun e => c9 (hP.is_loop.1 e))]
              exact .inr (.inl ⟨rfl, rfl⟩)
        · rw [if_neg c8, if_neg c8]
          by_cases c10 : s = 126
          · rw [if_pos c10]
            subst c10
            cases hlv : leaveP n mo with
            | none => exact .inr (.inr ⟨rfl, rfl, leaveP_none hlv⟩)
            | some o =>
              obtain ⟨a, p, r0, e1, e2, e3, e4⟩ := leaveP_split hlv
              have hw : o.map (·.waits) = mo.map (·.waits) := by rw [e1, e4]; simp
              have hf : o.map (fun p => (p.at_, p.waits)) = mo.map (fun p => (p.at_, p.waits)) := by rw [e1, e4]; simp
              have hpm : p ∈ mo := by rw [e1]; simp
              have hP := h.parts p hpm
              have hin : ∀ q ∈ o, q = ⟨p.loop, p.at_, p.waits, p.left ++ [n]⟩ ∨ q ∈ mo := fun q hq => by
                rw [e4] at hq
                rw [e1]
                simp only [List.mem_append, List.mem_cons] at hq ⊢
                rcases hq with hq | hq | hq
                · exact .inr (.inl hq)
                · exact .inl hq
                · exact .inr (.inr (.inr hq))
              have hback : ∀ q ∈ mo, q = p ∨ q ∈ o := fun q hq => by
                rw [e1] at hq
                rw [e4]
                simp only [List.mem_append, List.mem_cons] at hq ⊢
                rcases hq with hq | hq | hq
                · exact .inr (.inl hq)
                · exact .inl hq
                · exact .inr (.inr (.inr hq))
              have hself : (⟨p.loop, p.at_, p.waits, p.left ++ [n]⟩ : NPart) ∈ o := by rw [e4]; simp
              have hr9 : ∀ k : Nat, k < n → ss[k]? = some 93 → (rt.set n (-1))[k]? = rt[k]? := fun k hk _ => k0 rt k hk
              have hn9 : ss[n]? ≠ some 93 := by rw [hs]; decide
              have hold : ∀ q ∈ o, q.loop = true → ∃ q0 ∈ mo, q0.loop = true ∧ q0.at_ = q.at_ := fun q hq hl => by
                rcases hin q hq with rfl | hq
                · exact ⟨p, hpm, e3, rfl⟩
                · exact ⟨q, hq, hl, rfl⟩
              have hpend : ∀ p0 ∈ mo, ∀ j ∈ p0.left, p0.loop = true ∧ ss[j]? = some 126 ∧ p0.waits < j ∧ j < n + 1 ∧ Behind ss (rt.set n (-1)) j 0 (n + 1) ∧ ∀ q ∈ o, q.loop = true → p0.at_ < q.at_ → j < q.at_ := fun p0 hp0 j hj => by
                obtain ⟨a1, a2, a3, a4, a5, a6⟩ := h.pend p0 hp0 j hj
                refine ⟨a1, a2, a3, by omega, (a5.keep hr9).next (fun h9 => absurd h9 hn9), fun q hq hl hlt => ?_⟩
                obtain ⟨q0, hq0, l0, e0⟩ := hold q hq hl
                rw [← e0] at hlt ⊢
                exact a6 q0 hq0 l0 hlt
              refine .inl ⟨⟨mt.set n (-1), md, o⟩, ⟨rt.set n (-1), md, mo.map (·.waits)⟩, rfl, rfl, ⟨rfl, hw, lm0, lr0, fun q hq => ?_, ?_, hs0, fun q hq j hj => ?_, fun j hj hj6 => ?_⟩⟩
              · rcases hin q hq with rfl | hq
                · have := hP.more (k := n + 1) (by omega)
                  exact ⟨this.lt, this.ltw, this.le, this.loop, this.if_⟩
                · exact (h.parts q hq).more (by omega)
              · have := h.desc
                have hR : (mo.map (fun p => (p.at_, p.waits))).Pairwise (fun a b => b.2 < a.1) := List.pairwise_map.2 this
                rw [← hf] at hR
                exact List.pairwise_map.1 hR
              · rcases hin q hq with rfl | hq
                · simp only [List.mem_append, List.mem_cons, List.not_mem_nil, or_false] at hj
                  rcases hj with hj | rfl
                  · exact hpend p hpm j hj
                  · refine ⟨e3, hs, hP.ltw, by omega, fun k h1 _ h3 h9 => ?_, fun q hq hl hlt => ?_⟩
                    · obtain rfl : k = j := by omega
                      exact absurd h9 hn9
                    · exfalso
                      rw [e4] at hq
                      simp only [List.mem_append, List.mem_cons] at hq
                      simp only at hlt
                      rcases hq with hq | rfl | hq
                      · rw [e2 q hq] at hl; cases hl
                      · simp only at hlt; omega
                      · have hd := h.desc
                        rw [e1] at hd
                        have := (List.pairwise_cons.1 (List.pairwise_append.1 hd).2.1).1 q hq
                        have hle := (h.parts q (by rw [e1]; simp [hq])).le
                        omega
                · exact hpend q hq j hj
              · rcases Nat.lt_or_ge j n with hjn | hjn
                · rcases h.done j hjn hj6 with ⟨q, hq, hj2⟩ | ⟨k, b1, b2, b3, b4, ⟨v, b5, b6⟩, b7⟩
                  · rcases hback q hq with rfl | hq
                    · exact .inl ⟨_, hself, by simp [hj2]⟩
                    · exact .inl ⟨q, hq, hj2⟩
                  · exact .inr ⟨k, b1, by omega, by rw [k0 mt j hjn]; exact b3, b4, ⟨v, by rw [hr9 k b2 b4]; exact b5, b6⟩, b7.keep (fun k' hk' h9' => hr9 k' (by omega) h9')⟩
                · obtain rfl : j = n := by omega
                  exact .inl ⟨_, hself, by simp⟩
          · rw [if_neg c10]
            refine .inl ⟨_, _, rfl, rfl, ?_⟩
            have h93 : ss[n]? ≠ some 93 := by rw [hs]; intro e; injection e with e; exact c8 e
            have h126 : ss[n]? ≠ some 126 := by rw [hs]; intro e; injection e with e; exact c10 e
            exact h.plain h93 h126 lm0 lr0 hs0 (fun k hk _ => k0 rt k hk) (fun j hj _ => k0 mt j hj) (fun q hq => (h.parts q hq).more (by omega)) h.desc (fun q hq => .inr ⟨q, hq, rfl, rfl, rfl, rfl⟩) (fun q hq _ => ⟨q, hq, rfl⟩) (fun q hq hl => .inr ⟨q, hq, hl, rfl⟩)
/-- A ~ at j that no loop is round: whatever comes, no ] behind it goes back ahead of it. -/
structure Dead (ss : List Int) (j n : Nat) (r : RSt) : Prop where
  lt : j < n
  len : r.tO.length = ss.length
  open_ : ∀ w ∈ r.op, w < n ∧ (ss[w]? = some 63 ∨ ss[w]? = some 58 ∨ (ss[w]? = some 91 ∧ j < w))
  behind : Behind ss r.tO j 0 n
theorem dead_step {ss : List Int} {j n : Nat} {r r' : RSt} {s : Int} (h : Dead ss j n r) (hs : ss[n]? = some s) (hr : rTake ss n s ⟨r.tO.set n (-1), r.deep, r.op⟩ = some r') : Dead ss j (n + 1) r' := by
  have hln : n < ss.length := by
    rcases Nat.lt_or_ge n ss.length with hk | hk
    · exact hk
    · rw [List.getElem?_eq_none hk] at hs; cases hs
  have hjn := h.lt
  obtain ⟨rt, rd, ro⟩ := r
  have hlen := h.len
  have hop := h.open_
  have hb := h.behind
  simp only at hlen hop hb hr
  have k0 : ∀ (k : Nat), k < n → (rt.set n (-1))[k]? = rt[k]? := fun k hk => List.getElem?_set_ne (by omega)
  have l0 : (rt.set n (-1)).length = ss.length := by rw [List.length_set]; exact hlen
  unfold rTake at hr
  simp only at hr
  by_cases c1 : s = 63 ∨ s = 91
  · rw [if_pos c1] at hr
    by_cases c2 : ro.length + 1 ≤ 16
    · rw [if_pos c2] at hr
      injection hr with hr
      subst hr
      refine ⟨by omega, l0, fun w hw => ?_, (hb.keep fun k hk _ => k0 k hk).next fun h9 => ?_⟩
      · rcases List.mem_cons.1 hw with rfl | hw
        · refine ⟨by omega, ?_⟩
          rw [hs]
          rcases c1 with rfl | rfl
          · exact .inl rfl
          · exact .inr (.inr ⟨rfl, hjn⟩)
        · exact ⟨by have := (hop w hw).1; omega, (hop w hw).2⟩
      · rw [hs] at h9; injection h9 with h9; omega
    · rw [if_neg c2] at hr; cases hr
  · rw [if_neg c1] at hr
    by_cases c3 : s = 58
    · rw [if_pos c3] at hr
      subst c3
      cases ro with
      | nil => cases hr
      | cons p o =>
        simp only at hr
        by_cases c4 : ss[p]? = some 63
        · rw [if_pos c4] at hr
          injection hr with hr
          subst hr
          refine ⟨by omega, by rw [List.length_set]; exact l0, fun w hw => ?_, (hb.keep fun k hk h9 => ?_).next fun h9 => ?_⟩
          · rcases List.mem_cons.1 hw with rfl | hw
            · exact ⟨by omega, .inr (.inl hs)⟩
            · have := hop w (List.mem_cons_of_mem _ hw); exact ⟨by have := this.1; omega, this.2⟩
          · rw [keep_set c4 (by decide) k h9, k0 k hk]
          · rw [hs] at h9; cases h9
        · rw [if_neg c4] at hr; cases hr
    · rw [if_neg c3] at hr
      by_cases c5 : s = 59
      · rw [if_pos c5] at hr
        subst c5
        cases ro with
        | nil => cases hr
        | cons p o =>
          simp only at hr
          by_cases c6 : ss[p]? = some 91
          · rw [if_pos c6] at hr; cases hr
          · rw [if_neg c6] at hr
            injection hr with hr
            subst hr
            have hw : ∃ x, ss[p]? = some x ∧ x ≠ 93 := by
              rcases (hop p (List.mem_cons_self ..)).2 with e | e | ⟨e, _⟩
              · exact ⟨_, e, by decide⟩
              · exact ⟨_, e, by decide⟩
              · exact absurd e c6
            obtain ⟨x, hw, x1⟩ := hw
            refine ⟨by omega, by rw [List.length_set]; exact l0, fun w hw => ?_, (hb.keep fun k hk h9 => ?_).next fun h9 => ?_⟩
            · have := hop w (List.mem_cons_of_mem _ hw); exact ⟨by have := this.1; omega, this.2⟩
            · rw [keep_set hw x1 k h9, k0 k hk]
            · rw [hs] at h9; cases h9
      · rw [if_neg c5] at hr
        by_cases c8 : s = 93
        · rw [if_pos c8] at hr
          cases ro with
          | nil => cases hr
          | cons p o =>
            simp only at hr
            by_cases c9 : ss[p]? = some 91
            · rw [if_pos c9] at hr
              injection hr with hr
              subst hr
              have hjp : j < p := by
                rcases (hop p (List.mem_cons_self ..)).2 with e | e | ⟨_, e⟩
                · rw [c9] at e; cases e
                · rw [c9] at e; cases e
                · exact e
              refine ⟨by omega, by rw [List.length_set]; exact l0, fun w hw => ?_, (hb.keep fun k hk h9 => ?_).next fun h9 => ?_⟩
              · have := hop w (List.mem_cons_of_mem _ hw); exact ⟨by have := this.1; omega, this.2⟩
              · rw [List.getElem?_set_ne (by omega), k0 k hk]
              · exact ⟨_, List.getElem?_set_self (by rw [l0]; exact hln), by omega⟩
            · rw [if_neg c9] at hr; cases hr
        · rw [if_neg c8] at hr
          injection hr with hr
          subst hr
          refine ⟨by omega, l0, fun w hw => ⟨by have := (hop w hw).1; omega, (hop w hw).2⟩, (hb.keep fun k hk _ => k0 k hk).next fun h9 => ?_⟩
          rw [hs] at h9; injection h9 with h9; exact absurd h9 c8
theorem dead_run {ss : List Int} {j : Nat} : ∀ (rest : List Int) (n : Nat) (r : RSt), n + rest.length = ss.length → (∀ i : Nat, rest[i]? = ss[n + i]?) → Dead ss j n r → rRun ss n rest r = none ∨ ∃ r', rRun ss n rest r = some r' ∧ Dead ss j ss.length r'
  | [], n, r, hl, _, h => .inr ⟨r, rfl, by rw [← hl]; exact h⟩
  | s :: rest, n, r, hl, hi, h => by
    have hs : ss[n]? = some s := by have := hi 0; simpa using this.symm
    unfold rRun
    cases hr : rTake ss n s ⟨r.tO.set n (-1), r.deep, r.op⟩ with
    | none => exact .inl rfl
    | some r' => exact dead_run rest (n + 1) r' (by rw [← hl]; simp only [List.length_cons]; omega) (fun i => by have := hi (i + 1); simpa [Nat.add_assoc, Nat.add_comm 1 i] using this) (dead_step h hs hr)
theorem sim_run {ss : List Int} : ∀ (rest : List Int) (n : Nat) (m : NSt) (r : RSt), n + rest.length = ss.length → (∀ i : Nat, rest[i]? = ss[n + i]?) → Sim ss n m r →
    (∃ m' r', nRun n rest m = some m' ∧ rRun ss n rest r = some r' ∧ Sim ss ss.length m' r') ∨
    (nRun n rest m = none ∧ (rRun ss n rest r = none ∨ ∃ r' j, rRun ss n rest r = some r' ∧ ss[j]? = some 126 ∧ Dead ss j ss.length r'))
  | [], n, m, r, hl, _, h => .inl ⟨m, r, rfl, rfl, by rw [← hl]; exact h⟩
  | s :: rest, n, m, r, hl, hi, h => by
    have hs : ss[n]? = some s := by have := hi 0; simpa using this.symm
    have hl' : n + 1 + rest.length = ss.length := by rw [← hl]; simp only [List.length_cons]; omega
    have hi' : ∀ i : Nat, rest[i]? = ss[n + 1 + i]? := fun i => by have := hi (i + 1); simpa [Nat.add_assoc, Nat.add_comm 1 i] using this
    rcases sim_step h hs with ⟨m', r', e1, e2, h'⟩ | ⟨e1, e2⟩ | ⟨e0, e1, e2⟩
    · unfold nRun rRun
      rw [e1, e2]
      exact sim_run rest (n + 1) m' r' hl' hi' h'
    · unfold nRun rRun
      rw [e1, e2]
      exact .inr ⟨rfl, .inl rfl⟩
    · subst e0
      unfold nRun rRun
      rw [e1]
      have er : rTake ss n 126 ⟨r.tO.set n (-1), r.deep, r.op⟩ = some ⟨r.tO.set n (-1), r.deep, r.op⟩ := rfl
      rw [er]
      have hd : Dead ss n (n + 1) ⟨r.tO.set n (-1), r.deep, r.op⟩ := by
        refine ⟨by omega, by rw [List.length_set]; exact h.lenR, fun w hw => ?_, fun k h1 _ h3 h9 => ?_⟩
        · simp only at hw
          rw [← h.op, List.mem_map] at hw
          obtain ⟨p, hp, rfl⟩ := hw
          have hP := h.parts p hp
          obtain ⟨a, b | b⟩ := hP.if_ (e2 p hp)
          · exact ⟨by have := hP.ltw; omega, .inl (by rw [b]; exact a)⟩
          · exact ⟨by have := hP.ltw; omega, .inr (.inl b)⟩
        · obtain rfl : k = n := by omega
          rw [hs] at h9; cases h9
      refine .inr ⟨rfl, ?_⟩
      rcases dead_run rest (n + 1) _ hl' hi' hd with e | ⟨r', e, hd'⟩
      · exact .inl e
      · exact .inr ⟨r', n, e, hs, hd'⟩
/-- Both at once, from nothing. -/
theorem sim_start (ss : List Int) : Sim ss 0 ⟨List.replicate ss.length 0, 0, []⟩ ⟨List.replicate ss.length 0, 0, []⟩ :=
  ⟨rfl, rfl, List.length_replicate, List.length_replicate, fun p hp => (by cases hp), List.Pairwise.nil, fun _ _ => rfl, fun p hp => (by cases hp), fun j hj => absurd hj (by omega)⟩
theorem nest_both (ss : List Int) : (∃ m r, nRun 0 ss ⟨List.replicate ss.length 0, 0, []⟩ = some m ∧ rRun ss 0 ss ⟨List.replicate ss.length 0, 0, []⟩ = some r ∧ Sim ss ss.length m r) ∨
    (nRun 0 ss ⟨List.replicate ss.length 0, 0, []⟩ = none ∧ (rRun ss 0 ss ⟨List.replicate ss.length 0, 0, []⟩ = none ∨ ∃ r' j, rRun ss 0 ss ⟨List.replicate ss.length 0, 0, []⟩ = some r' ∧ ss[j]? = some 126 ∧ Dead ss j ss.length r')) :=
  sim_run ss 0 _ _ (by omega) (fun i => by rw [Nat.zero_add]) (sim_start ss)
/-- With nothing open at the end, each ~ has its place behind the first ] that goes back ahead of it. -/
theorem Sim.leaves {ss : List Int} {m : NSt} {r : RSt} (h : Sim ss ss.length m r) (ho : m.op = []) (j : Nat) (hj : ss[j]? = some 126) :
    ∃ k : Nat, j < k ∧ k < ss.length ∧ m.tO[j]? = some ((k : Int) + 1) ∧ ss[k]? = some 93 ∧ (∃ v, r.tO[k]? = some v ∧ v < (j : Int)) ∧ Behind ss r.tO j 0 k := by
  have hln : j < ss.length := by
    rcases Nat.lt_or_ge j ss.length with hk | hk
    · exact hk
    · rw [List.getElem?_eq_none hk] at hj; cases hj
  rcases h.done j hln hj with ⟨p, hp, _⟩ | hd
  · rw [ho] at hp; cases hp
  · exact hd
/-- The reference's search for the place behind a ~'s loop. -/
def leavesV (ss t : List Int) (j : Nat) : Nat → Nat → Int
  | 0, _ => -1
  | f + 1, i => if ss[i]? = some 93 ∧ t.getD i 0 < (j : Int) then (i : Int) + 1 else leavesV ss t j f (i + 1)
theorem leavesV_found {ss t : List Int} {j k : Nat} (hk : ss[k]? = some 93) (hv : ∃ v, t[k]? = some v ∧ v < (j : Int)) (hb : Behind ss t j 0 k) : ∀ (f i : Nat), j ≤ i → i ≤ k → k < i + f → leavesV ss t j f i = (k : Int) + 1
  | 0, i, _, h1, h2 => absurd h1 (by omega)
  | f + 1, i, h0, h1, h2 => by
    unfold leavesV
    by_cases e : i = k
    · subst e
      obtain ⟨v, e1, e2⟩ := hv
      rw [if_pos ⟨hk, by rw [List.getD_eq_getElem?_getD, e1]; exact e2⟩]
    · rw [if_neg, leavesV_found hk hv hb f (i + 1) (by omega) (by omega) (by omega)]
      rintro ⟨a, b⟩
      obtain ⟨v, e1, e2⟩ := hb i h0 (by omega) (by omega) a
      rw [List.getD_eq_getElem?_getD, e1] at b
      simp only [Option.getD_some] at b
      omega
theorem leavesV_none {ss t : List Int} {j n : Nat} (hb : Behind ss t j 0 n) : ∀ (f i : Nat), j ≤ i → i + f ≤ n → leavesV ss t j f i = -1
  | 0, i, _, _ => rfl
  | f + 1, i, h0, h1 => by
    unfold leavesV
    rw [if_neg, leavesV_none hb f (i + 1) (by omega) (by omega)]
    rintro ⟨a, b⟩
    obtain ⟨v, e1, e2⟩ := hb i h0 (by omega) (by omega) a
    rw [List.getD_eq_getElem?_getD, e1] at b
    simp only [Option.getD_some] at b
    omega
/-- The reference's second pass. -/
def fillR (ss : List Int) : Nat → List Int → List Int → Option (List Int)
  | _, [], t => some t
  | i, s :: r, t => if s = 126 then (if leavesV ss t i (ss.length - i) i < 0 then none else fillR ss (i + 1) r (t.set i (leavesV ss t i (ss.length - i) i))) else fillR ss (i + 1) r t
def rNest (ss : List Int) : Option (List Int × Nat) :=
  (rRun ss 0 ss ⟨List.replicate ss.length 0, 0, []⟩).bind fun r => if r.op = [] then (fillR ss 0 ss r.tO).map fun t => (t, r.deep) else none
def nNest (ss : List Int) : Option (List Int × Nat) :=
  (nRun 0 ss ⟨List.replicate ss.length 0, 0, []⟩).bind fun m => if m.op = [] then some (m.tO, m.deep) else none
theorem fill_yes {ss : List Int} {m : NSt} {r : RSt} (h : Sim ss ss.length m r) (ho : m.op = []) : ∀ (rest : List Int) (n : Nat) (t : List Int), n + rest.length = ss.length → (∀ i : Nat, rest[i]? = ss[n + i]?) → t.length = ss.length →
    (∀ j : Nat, ss[j]? ≠ some 126 ∨ j < n → t[j]? = m.tO[j]?) → fillR ss n rest t = some m.tO
  | [], n, t, hl, _, hlt, ha => by
    show some t = _
    congr 1
    apply List.ext_getElem?
    intro j
    rcases Nat.lt_or_ge j n with hj | hj
    · exact ha j (.inr hj)
    · have hl' : n = ss.length := hl
      rw [List.getElem?_eq_none (by omega), List.getElem?_eq_none (by rw [h.lenM]; omega)]
  | s :: rest, n, t, hl, hi, hlt, ha => by
    have hs : ss[n]? = some s := by have := hi 0; simpa using this.symm
    have hl' : n + 1 + rest.length = ss.length := by rw [← hl]; simp only [List.length_cons]; omega
    have hi' : ∀ i : Nat, rest[i]? = ss[n + 1 + i]? := fun i => by have := hi (i + 1); simpa [Nat.add_assoc, Nat.add_comm 1 i] using this
    unfold fillR
    by_cases c : s = 126
    · rw [if_pos c]
      subst c
      obtain ⟨k, k1, k2, k3, k4, ⟨v, k5, k6⟩, k7⟩ := h.leaves ho n hs
      have h9 : ∀ k : Nat, ss[k]? = some 93 → t[k]? = r.tO[k]? := fun k hk => by
        have hne : ss[k]? ≠ some 126 := by rw [hk]; decide
        rw [ha k (.inl hne), h.same k hne]
      have hv : leavesV ss t n (ss.length - n) n = (k : Int) + 1 := leavesV_found k4 ⟨v, by rw [h9 k k4]; exact k5, k6⟩ (k7.keep fun k' _ hk' => h9 k' hk') _ n (Nat.le_refl _) (by omega) (by omega)
      rw [hv, if_neg (by omega)]
      refine fill_yes h ho rest (n + 1) _ hl' hi' (by rw [List.length_set]; exact hlt) (fun j hj => ?_)
      by_cases e : n = j
      · subst e
        rw [List.getElem?_set_self (by omega), k3]
      · rw [List.getElem?_set_ne e]
        exact ha j (hj.imp id fun h => by omega)
    · rw [if_neg c]
      refine fill_yes h ho rest (n + 1) t hl' hi' hlt (fun j hj => ?_)
      rcases hj with hj | hj
      · exact ha j (.inl hj)
      · by_cases e : j = n
        · subst e
          exact ha j (.inl (by rw [hs]; intro e; injection e with e; exact c e))
        · exact ha j (.inr (by omega))
theorem fill_no {ss : List Int} {r : RSt} {d : Nat} (hd : Dead ss d ss.length r) (h6 : ss[d]? = some 126) : ∀ (rest : List Int) (n : Nat) (t : List Int), n + rest.length = ss.length → (∀ i : Nat, rest[i]? = ss[n + i]?) → n ≤ d →
    (∀ k : Nat, ss[k]? = some 93 → t[k]? = r.tO[k]?) → fillR ss n rest t = none
  | [], n, t, hl, _, hn, _ => absurd hd.lt (by have : n = ss.length := hl; omega)
  | s :: rest, n, t, hl, hi, hn, ha => by
    have hs : ss[n]? = some s := by have := hi 0; simpa using this.symm
    have hl' : n + 1 + rest.length = ss.length := by rw [← hl]; simp only [List.length_cons]; omega
    have hi' : ∀ i : Nat, rest[i]? = ss[n + 1 + i]? := fun i => by have := hi (i + 1); simpa [Nat.add_assoc, Nat.add_comm 1 i] using this
    unfold fillR
    by_cases c : s = 126
    · rw [if_pos c]
      subst c
      by_cases e : n = d
      · subst e
        rw [leavesV_none (hd.behind.keep fun k _ hk => ha k hk) _ n (Nat.le_refl _) (by omega), if_pos (by omega)]
      · split
        · rfl
        · exact fill_no hd h6 rest (n + 1) _ hl' hi' (by omega) (fun k hk => by rw [List.getElem?_set_ne (fun e => by subst e; rw [hs] at hk; cases hk)]; exact ha k hk)
    · rw [if_neg c]
      have : n ≠ d := fun e => by subst e; rw [hs] at h6; injection h6 with h6; exact c h6
      exact fill_no hd h6 rest (n + 1) t hl' hi' (by omega) ha
/-- **The program's matching and the reference's are the same.** -/
theorem nest_same (ss : List Int) : nNest ss = rNest ss := by
  unfold nNest rNest
  rcases nest_both ss with ⟨m, r, e1, e2, h⟩ | ⟨e1, e2 | ⟨r, d, e2, h6, hd⟩⟩
  · rw [e1, e2]
    show (if m.op = [] then some (m.tO, m.deep) else none) = if r.op = [] then (fillR ss 0 ss r.tO).map fun t => (t, r.deep) else none
    by_cases ho : m.op = []
    · have hr : r.op = [] := by rw [← h.op, ho]; rfl
      rw [if_pos ho, if_pos hr, fill_yes h ho ss 0 r.tO (by omega) (fun i => by rw [Nat.zero_add]) h.lenR (fun j hj => (h.same j (hj.resolve_right (by omega))).symm), h.deep]
      rfl
    · have hr : ¬ r.op = [] := fun e => ho (by rw [← h.op] at e; exact List.map_eq_nil_iff.1 e)
      rw [if_neg ho, if_neg hr]
  · rw [e1, e2]; rfl
  · rw [e1, e2]
    show none = if r.op = [] then (fillR ss 0 ss r.tO).map fun t => (t, r.deep) else none
    rw [fill_no hd h6 ss 0 r.tO (by omega) (fun i => by rw [Nat.zero_add]) (by omega) (fun _ _ => rfl)]
    split <;> rfl
end Go.Proofs.YtbkfhndmeljlcaaGreatDoor
