/-
  TopRun, part 2: NestPure, Sum, Put, BsMore, Delta, MadeCh, NestMem, Fr, WordPure, CellsPure, Mm, Fe, Into, Tape, Runes, TokSigns, Tok.
-/
import Derived.Test.YtnohfdojcdhfoaaZTopRun1
import Derived.Test.YtnohfdojcdhfoaaChecked
import Derived.Deep.QuietTactic
import Derived.BigQuiet
import Derived.IntWalk
import Derived.Deep.DeepCutAuto
import Derived.RegionTactic
import Derived.ChangeAlike
import Derived.Laws.BitsLemmas
import Derived.BigRegion
import Derived.Deep.RegionWith
import Derived.Laws.RangeAny
import Derived.Lib.OthersKept
namespace Go.Proofs.Ytnohfdojcdhfoaa
/-- An if or a loop that is open. -/
structure NPart where
  loop : Bool
  at_ : Nat
  waits : Nat
  left : List Nat
/-- The program's state: the innermost part first. -/
structure NSt where
  tO : List Int
  deep : Nat
  op : List NPart
/-- The part that a ~ waits in. -/
def leaveP (i : Nat) : List NPart → Option (List NPart)
  | [] => none
  | p :: r => if p.loop = true then some (⟨p.loop, p.at_, p.waits, p.left ++ [i]⟩ :: r) else (leaveP i r).map (p :: ·)
def setAll (v : Int) : List Nat → List Int → List Int
  | [], t => t
  | j :: r, t => setAll v r (t.set j v)
def nTake (i : Nat) (s : Int) (m : NSt) : Option NSt :=
  if s = 63 ∨ s = 91 then
    if m.op.length + 1 ≤ 16 then some ⟨m.tO, max m.deep (m.op.length + 1), ⟨decide (s = 91), i, i, []⟩ :: m.op⟩ else none
  else if s = 58 then match m.op with
    | p :: r => if p.loop = false ∧ p.waits = p.at_ then some ⟨m.tO.set p.at_ ((i : Int) + 1), m.deep, ⟨p.loop, p.at_, i, p.left⟩ :: r⟩ else none
    | [] => none
  else if s = 59 then match m.op with
    | p :: r => if p.loop = false then some ⟨m.tO.set p.waits (i : Int), m.deep, r⟩ else none
    | [] => none
  else if s = 93 then match m.op with
    | p :: r => if p.loop = true then some ⟨setAll ((i : Int) + 1) p.left (m.tO.set i (p.at_ : Int)), m.deep, r⟩ else none
    | [] => none
  else if s = 126 then (leaveP i m.op).map fun o => ⟨m.tO, m.deep, o⟩
  else some m
def nRun : Nat → List Int → NSt → Option NSt
  | _, [], m => some m
  | i, s :: r, m => (nTake i s ⟨m.tO.set i (-1), m.deep, m.op⟩).bind (nRun (i + 1) r)
/-- The reference's state: where each open part's last sign lies. -/
structure RSt where
  tO : List Int
  deep : Nat
  op : List Nat
def rTake (ss : List Int) (i : Nat) (s : Int) (m : RSt) : Option RSt :=
  if s = 63 ∨ s = 91 then
    if m.op.length + 1 ≤ 16 then some ⟨m.tO, max m.deep (m.op.length + 1), i :: m.op⟩ else none
  else if s = 58 then match m.op with
    | p :: r => if ss[p]? = some 63 then some ⟨m.tO.set p ((i : Int) + 1), m.deep, i :: r⟩ else none
    | [] => none
  else if s = 59 then match m.op with
    | p :: r => if ss[p]? = some 91 then none else some ⟨m.tO.set p (i : Int), m.deep, r⟩
    | [] => none
  else if s = 93 then match m.op with
    | p :: r => if ss[p]? = some 91 then some ⟨m.tO.set i (p : Int), m.deep, r⟩ else none
    | [] => none
  else some m
def rRun (ss : List Int) : Nat → List Int → RSt → Option RSt
  | _, [], m => some m
  | i, s :: r, m => (rTake ss i s ⟨m.tO.set i (-1), m.deep, m.op⟩).bind (rRun ss (i + 1) r)
/-- What is open for the program, and for the reference. -/
structure Part (ss : List Int) (n : Nat) (p : NPart) : Prop where
  lt : p.at_ < n
  ltw : p.waits < n
  le : p.at_ ≤ p.waits
  loop : p.loop = true → p.waits = p.at_ ∧ ss[p.at_]? = some 91
  if_ : p.loop = false → ss[p.at_]? = some 63 ∧ (p.waits = p.at_ ∨ ss[p.waits]? = some 58)
theorem Part.more {ss : List Int} {n k : Nat} {p : NPart} (h : Part ss n p) (hk : n ≤ k) : Part ss k p := ⟨by have := h.lt; omega, by have := h.ltw; omega, h.le, h.loop, h.if_⟩
theorem Part.is_loop {ss : List Int} {n : Nat} {p : NPart} (h : Part ss n p) : ss[p.waits]? = some 91 ↔ p.loop = true := by
  constructor
  · intro h1
    cases hl : p.loop with
    | true => rfl
    | false =>
      obtain ⟨a, b | b⟩ := h.if_ hl
      · rw [b, a] at h1; cases h1
      · rw [b] at h1; cases h1
  · intro hl
    obtain ⟨a, b⟩ := h.loop hl
    rw [a, b]
theorem Part.is_if {ss : List Int} {n : Nat} {p : NPart} (h : Part ss n p) : ss[p.waits]? = some 63 ↔ (p.loop = false ∧ p.waits = p.at_) := by
  constructor
  · intro h1
    cases hl : p.loop with
    | true =>
      obtain ⟨a, b⟩ := h.loop hl
      rw [a, b] at h1; cases h1
    | false =>
      obtain ⟨a, b | b⟩ := h.if_ hl
      · exact ⟨rfl, b⟩
      · rw [b] at h1; cases h1
  · rintro ⟨hl, e⟩
    rw [e]; exact (h.if_ hl).1
theorem leaveP_some {i : Nat} : ∀ {l : List NPart}, (∃ p ∈ l, p.loop = true) → ∃ o, leaveP i l = some o := by
  intro l
  induction l with
  | nil => rintro ⟨p, h, _⟩; cases h
  | cons p r ih =>
    rintro ⟨q, hq, hl⟩
    unfold leaveP
    by_cases h : p.loop = true
    · exact ⟨_, if_pos h⟩
    · rw [if_neg h]
      have : ∃ q ∈ r, q.loop = true := by
        rcases List.mem_cons.1 hq with rfl | hq
        · exact absurd hl h
        · exact ⟨q, hq, hl⟩
      obtain ⟨o, ho⟩ := ih this
      exact ⟨p :: o, by rw [ho]; rfl⟩
theorem leaveP_split {i : Nat} : ∀ {l o : List NPart}, leaveP i l = some o → ∃ a p r, l = a ++ p :: r ∧ (∀ q ∈ a, q.loop = false) ∧ p.loop = true ∧ o = a ++ ⟨p.loop, p.at_, p.waits, p.left ++ [i]⟩ :: r := by
  intro l
  induction l with
  | nil => intro o h; cases h
  | cons p r ih =>
    intro o h
    unfold leaveP at h
    by_cases hp : p.loop = true
    · rw [if_pos hp] at h
      injection h with h
      exact ⟨[], p, r, rfl, (fun q hq => by cases hq), hp, h.symm⟩
    · rw [if_neg hp] at h
      cases hr : leaveP i r with
      | none => rw [hr] at h; cases h
      | some o' =>
        rw [hr] at h
        injection h with h
        obtain ⟨a, q, r', e1, e2, e3, e4⟩ := ih hr
        exact ⟨p :: a, q, r', by rw [e1]; rfl, fun x hx => by rcases List.mem_cons.1 hx with rfl | hx; exact (Bool.not_eq_true _).mp hp; exact e2 x hx, e3, by rw [← h, e4]; rfl⟩
theorem leaveP_none {i : Nat} : ∀ {l : List NPart}, leaveP i l = none → ∀ p ∈ l, p.loop = false := by
  intro l h p hp
  cases hl : p.loop with
  | false => rfl
  | true =>
    obtain ⟨o, ho⟩ := leaveP_some (i := i) ⟨p, hp, hl⟩
    rw [h] at ho; cases ho
/-- A ] whose part was opened ahead of place j, or not. -/
def Behind (ss : List Int) (t : List Int) (j a b : Nat) : Prop := ∀ k, j ≤ k → a ≤ k → k < b → ss[k]? = some 93 → ∃ v, t[k]? = some v ∧ (j : Int) ≤ v
structure Sim (ss : List Int) (n : Nat) (m : NSt) (r : RSt) : Prop where
  deep : m.deep = r.deep
  op : m.op.map (·.waits) = r.op
  lenM : m.tO.length = ss.length
  lenR : r.tO.length = ss.length
  parts : ∀ p ∈ m.op, Part ss n p
  desc : m.op.Pairwise fun p q => q.waits < p.at_
  same : ∀ j : Nat, ss[j]? ≠ some 126 → m.tO[j]? = r.tO[j]?
  pend : ∀ p ∈ m.op, ∀ j ∈ p.left, p.loop = true ∧ ss[j]? = some 126 ∧ p.waits < j ∧ j < n ∧ Behind ss r.tO j 0 n ∧ ∀ q ∈ m.op, q.loop = true → p.at_ < q.at_ → j < q.at_
  done : ∀ j : Nat, j < n → ss[j]? = some 126 → (∃ p ∈ m.op, j ∈ p.left) ∨ ∃ k : Nat, j < k ∧ k < n ∧ m.tO[j]? = some ((k : Int) + 1) ∧ ss[k]? = some 93 ∧ (∃ v, r.tO[k]? = some v ∧ v < (j : Int)) ∧ Behind ss r.tO j 0 k
theorem Behind.keep {ss t u : List Int} {j a b : Nat} (h : Behind ss t j a b) (hu : ∀ k : Nat, k < b → ss[k]? = some 93 → u[k]? = t[k]?) : Behind ss u j a b := fun k h1 h2 h3 h4 => by rw [hu k h3 h4]; exact h k h1 h2 h3 h4
theorem Behind.next {ss t : List Int} {j b : Nat} (h : Behind ss t j 0 b) (hb : ss[b]? = some 93 → ∃ v, t[b]? = some v ∧ (j : Int) ≤ v) : Behind ss t j 0 (b + 1) := fun k h1 h2 h3 h4 => by
  rcases Nat.lt_or_ge k b with hk | hk
  · exact h k h1 h2 hk h4
  · obtain rfl : k = b := by omega
    exact hb h4
/-- What no sign but ] changes. -/
theorem Sim.plain {ss : List Int} {n : Nat} {m : NSt} {r : RSt} (h : Sim ss n m r) {tm tr : List Int} {dm : Nat} {om : List NPart} (hn : ss[n]? ≠ some 93) (hn2 : ss[n]? ≠ some 126) (lm : tm.length = ss.length) (lr : tr.length = ss.length)
    (hsame : ∀ j : Nat, ss[j]? ≠ some 126 → tm[j]? = tr[j]?) (h9 : ∀ k : Nat, k < n → ss[k]? = some 93 → tr[k]? = r.tO[k]?) (h6 : ∀ j : Nat, j < n → ss[j]? = some 126 → tm[j]? = m.tO[j]?)
    (hparts : ∀ p ∈ om, Part ss (n + 1) p) (hdesc : om.Pairwise fun p q => q.waits < p.at_)
    (hleft : ∀ p ∈ om, p.left = [] ∨ ∃ p0 ∈ m.op, p0.left = p.left ∧ p0.loop = p.loop ∧ p0.at_ = p.at_ ∧ p0.waits = p.waits)
    (hleft2 : ∀ p ∈ m.op, p.left ≠ [] → ∃ p0 ∈ om, p0.left = p.left)
    (hloop : ∀ q ∈ om, q.loop = true → q.at_ = n ∨ ∃ q0 ∈ m.op, q0.loop = true ∧ q0.at_ = q.at_) :
    Sim ss (n + 1) ⟨tm, dm, om⟩ ⟨tr, dm, om.map (·.waits)⟩ where
  deep := rfl
  op := rfl
  lenM := lm
  lenR := lr
  parts := hparts
  desc := hdesc
  same := hsame
  pend := fun p hp j hj => by
    rcases hleft p hp with e | ⟨p0, hp0, e1, e2, e3, e4⟩
    · rw [e] at hj; cases hj
    · rw [← e1] at hj
      obtain ⟨a1, a2, a3, a4, a5, a6⟩ := h.pend p0 hp0 j hj
      refine ⟨by rw [← e2]; exact a1, a2, by omega, by omega, (a5.keep h9).next (fun h9' => absurd h9' hn), fun q hq hl hlt => ?_⟩
      rcases hloop q hq hl with e | ⟨q0, hq0, l0, e0⟩
      · omega
      · rw [← e0] at hlt ⊢
        exact a6 q0 hq0 l0 (by omega)
  done := fun j hj hs => by
    have hjn : j < n := by
      rcases Nat.lt_or_ge j n with hk | hk
      · exact hk
      · obtain rfl : j = n := by omega
        exact absurd hs hn2
    rcases h.done j hjn hs with ⟨p, hp, hj2⟩ | ⟨k, b1, b2, b3, b4, ⟨v, b5, b6⟩, b7⟩
    · obtain ⟨p0, hp0, e⟩ := hleft2 p hp (fun e => by rw [e] at hj2; cases hj2)
      exact .inl ⟨p0, hp0, by rw [e]; exact hj2⟩
    · exact .inr ⟨k, b1, by omega, by rw [h6 j hjn hs]; exact b3, b4, ⟨v, by rw [h9 k b2 b4]; exact b5, b6⟩, b7.keep (fun k' hk' h9' => h9 k' (by omega) h9')⟩
theorem setAll_len (v : Int) : ∀ (l : List Nat) (t : List Int), (setAll v l t).length = t.length
  | [], _ => rfl
  | j :: r, t => by show (setAll v r (t.set j v)).length = _; rw [setAll_len v r, List.length_set]
theorem setAll_not (v : Int) (j : Nat) : ∀ (l : List Nat) (t : List Int), j ∉ l → (setAll v l t)[j]? = t[j]?
  | [], _, _ => rfl
  | i :: r, t, h => by
    show (setAll v r (t.set i v))[j]? = _
    rw [setAll_not v j r _ (fun e => h (List.mem_cons_of_mem _ e)), List.getElem?_set_ne (fun e => h (by rw [e]; exact List.mem_cons_self ..))]
theorem setAll_mem (v : Int) (j : Nat) : ∀ (l : List Nat) (t : List Int), j ∈ l → j < t.length → (setAll v l t)[j]? = some v
  | i :: r, t, h, ht => by
    show (setAll v r (t.set i v))[j]? = _
    by_cases hr : j ∈ r
    · exact setAll_mem v j r _ hr (by rw [List.length_set]; exact ht)
    · rw [setAll_not v j r _ hr]
      rcases List.mem_cons.1 h with e | e
      · rw [e, List.getElem?_set_self (by rw [← e]; exact ht)]
      · exact absurd e hr
theorem same_set {ss a b : List Int} (h : ∀ j : Nat, ss[j]? ≠ some 126 → a[j]? = b[j]?) (hl : a.length = b.length) (i : Nat) (v : Int) : ∀ j : Nat, ss[j]? ≠ some 126 → (a.set i v)[j]? = (b.set i v)[j]? := fun j hj => by
  rw [List.getElem?_set, List.getElem?_set, hl, h j hj]
theorem keep_set {ss a : List Int} {i : Nat} {s v x : Int} (hi : ss[i]? = some x) (hx : x ≠ s) : ∀ k : Nat, ss[k]? = some s → (a.set i v)[k]? = a[k]? := fun k hk => by
  rw [List.getElem?_set_ne (fun e => by subst e; rw [hi] at hk; injection hk with hk; exact hx hk)]
theorem sim_step {ss : List Int} {n : Nat} {m : NSt} {r : RSt} {s : Int} (h : Sim ss n m r) (hs : ss[n]? = some s) :
    (∃ m' r', nTake n s ⟨m.tO.set n (-1), m.deep, m.op⟩ = some m' ∧ rTake ss n s ⟨r.tO.set n (-1), r.deep, r.op⟩ = some r' ∧ Sim ss (n + 1) m' r') ∨
    (nTake n s ⟨m.tO.set n (-1), m.deep, m.op⟩ = none ∧ rTake ss n s ⟨r.tO.set n (-1), r.deep, r.op⟩ = none) ∨
    (s = 126 ∧ nTake n s ⟨m.tO.set n (-1), m.deep, m.op⟩ = none ∧ ∀ p ∈ m.op, p.loop = false) := by
  have hop := h.op
  have hln : n < ss.length := by
    rcases Nat.lt_or_ge n ss.length with hk | hk
    · exact hk
    · rw [List.getElem?_eq_none hk] at hs; cases hs
  have hlen : r.op.length = m.op.length := by rw [← hop, List.length_map]
  have lmr : m.tO.length = r.tO.length := by rw [h.lenM, h.lenR]
  have hs0 := same_set h.same lmr n (-1)
  have lm0 : (m.tO.set n (-1)).length = ss.length := by rw [List.length_set, h.lenM]
  have lr0 : (r.tO.set n (-1)).length = ss.length := by rw [List.length_set, h.lenR]
  have k0 : ∀ (t : List Int) (k : Nat), k < n → (t.set n (-1))[k]? = t[k]? := fun t k hk => List.getElem?_set_ne (by omega)
  have hdp := h.deep
  obtain ⟨mt, md, mo⟩ := m
  obtain ⟨rt, rd, ro⟩ := r
  simp only at *
  subst hdp hop
  unfold nTake rTake
  simp only
  by_cases c1 : s = 63 ∨ s = 91
  · rw [if_pos c1, if_pos c1, hlen]
    by_cases c2 : mo.length + 1 ≤ 16
    · rw [if_pos c2, if_pos c2]
      refine .inl ⟨_, _, rfl, rfl, ?_⟩
      have h93 : ss[n]? ≠ some 93 := by rw [hs]; intro e; injection e with e; omega
      have h126 : ss[n]? ≠ some 126 := by rw [hs]; intro e; injection e with e; omega
      refine h.plain h93 h126 lm0 lr0 hs0 (fun k hk _ => k0 rt k hk) (fun j hj _ => k0 mt j hj) ?_ ?_ ?_ ?_ ?_
      · intro p hp
        rcases List.mem_cons.1 hp with rfl | hp
        · refine ⟨by simp only; omega, by simp only; omega, Nat.le_refl _, fun hl => ⟨rfl, ?_⟩, fun hl => ⟨?_, .inl rfl⟩⟩
          · have : s = 91 := of_decide_eq_true hl
            rw [hs, this]
          · have : ¬ s = 91 := of_decide_eq_false hl
            have : s = 63 := by omega
            rw [hs, this]
        · exact (h.parts p hp).more (by omega)
      · refine List.pairwise_cons.2 ⟨fun q hq => ?_, h.desc⟩
        exact (h.parts q hq).ltw
      · intro p hp
        rcases List.mem_cons.1 hp with rfl | hp
        · exact .inl rfl
        · exact .inr ⟨p, hp, rfl, rfl, rfl, rfl⟩
      · exact fun p hp _ => ⟨p, List.mem_cons_of_mem _ hp, rfl⟩
      · intro q hq hl
        rcases List.mem_cons.1 hq with rfl | hq
        · exact .inl rfl
        · exact .inr ⟨q, hq, hl, rfl⟩
    · rw [if_neg c2, if_neg c2]
      exact .inr (.inl ⟨rfl, rfl⟩)
  · rw [if_neg c1, if_neg c1]
    by_cases c3 : s = 58
    · rw [if_pos c3, if_pos c3]
      subst c3
      cases mo with
      | nil => exact .inr (.inl ⟨rfl, rfl⟩)
      | cons p o =>
        have hP := h.parts p (List.mem_cons_self ..)
        simp only [List.map_cons]
        by_cases c4 : p.loop = false ∧ p.waits = p.at_
        · rw [if_pos c4, if_pos (hP.is_if.2 c4), c4.2]
          refine .inl ⟨_, _, rfl, rfl, ?_⟩
          have hp63 := (hP.if_ c4.1).1
          refine h.plain (by rw [hs]; decide) (by rw [hs]; decide) (by rw [List.length_set]; exact lm0) (by rw [List.length_set]; exact lr0) (same_set hs0 (by rw [lm0, lr0]) _ _) (fun k hk h9 => by rw [keep_set hp63 (by decide) k h9, k0 rt k hk]) (fun j hj h6 => by rw [keep_set hp63 (by decide) j h6, k0 mt j hj]) ?_ ?_ ?_ ?_ ?_
          · intro q hq
            rcases List.mem_cons.1 hq with rfl | hq
            · exact ⟨by have := hP.lt; simp only; omega, by simp only; omega, by have := hP.lt; simp only; omega, (fun hl => by simp only at hl; rw [c4.1] at hl; cases hl), fun _ => ⟨hp63, .inr hs⟩⟩
            · exact (h.parts q (List.mem_cons_of_mem _ hq)).more (by omega)
          · have := List.pairwise_cons.1 h.desc
            exact List.pairwise_cons.2 ⟨fun q hq => this.1 q hq, this.2⟩
          · intro q hq
            rcases List.mem_cons.1 hq with rfl | hq
            · refine .inl ?_
              simp only
              cases hl : p.left with
              | nil => rfl
              | cons j l =>
                have := (h.pend p (List.mem_cons_self ..) j (by rw [hl]; exact List.mem_cons_self ..)).1
                rw [c4.1] at this; cases this
            · exact .inr ⟨q, List.mem_cons_of_mem _ hq, rfl, rfl, rfl, rfl⟩
          · intro q hq _
            rcases List.mem_cons.1 hq with rfl | hq
            · exact ⟨_, List.mem_cons_self .., rfl⟩
            · exact ⟨q, List.mem_cons_of_mem _ hq, rfl⟩
          · intro q hq hl
            rcases List.mem_cons.1 hq with rfl | hq
            · simp only at hl; rw [c4.1] at hl; cases hl
            · exact .inr ⟨q, List.mem_cons_of_mem _ hq, hl, rfl⟩
        · rw [if_neg c4, if_neg (fun e => c4 (hP.is_if.1 e))]
          exact .inr (.inl ⟨rfl, rfl⟩)
    · rw [if_neg c3, if_neg c3]
      by_cases c5 : s = 59
      · rw [if_pos c5, if_pos c5]
        subst c5
        cases mo with
        | nil => exact .inr (.inl ⟨rfl, rfl⟩)
        | cons p o =>
          have hP := h.parts p (List.mem_cons_self ..)
          simp only [List.map_cons]
          by_cases c6 : p.loop = false
          · rw [if_pos c6, if_neg (fun e => by have := hP.is_loop.1 e; rw [c6] at this; cases this)]
            refine .inl ⟨_, _, rfl, rfl, ?_⟩
            have hw : ∃ x, ss[p.waits]? = some x ∧ x ≠ 93 ∧ x ≠ 126 := by
              obtain ⟨a, b | b⟩ := hP.if_ c6
              · exact ⟨63, by rw [b, a], by decide, by decide⟩
              · exact ⟨58, b, by decide, by decide⟩
            obtain ⟨x, hw, x1, x2⟩ := hw
            refine h.plain (by rw [hs]; decide) (by rw [hs]; decide) (by rw [List.length_set]; exact lm0) (by rw [List.length_set]; exact lr0) (same_set hs0 (by rw [lm0, lr0]) _ _) (fun k hk h9 => by rw [keep_set hw x1 k h9, k0 rt k hk]) (fun j hj h6 => by rw [keep_set hw x2 j h6, k0 mt j hj]) ?_ ?_ ?_ ?_ ?_
            · exact fun q hq => (h.parts q (List.mem_cons_of_mem _ hq)).more (by omega)
            · exact (List.pairwise_cons.1 h.desc).2
            · exact fun q hq => .inr ⟨q, List.mem_cons_of_mem _ hq, rfl, rfl, rfl, rfl⟩
            · intro q hq hne
              rcases List.mem_cons.1 hq with rfl | hq
              · exfalso
                cases hl : q.left with
                | nil => exact hne hl
                | cons j l =>
                  have := (h.pend q (List.mem_cons_self ..) j (by rw [hl]; exact List.mem_cons_self ..)).1
                  rw [c6] at this; cases this
              · exact ⟨q, hq, rfl⟩
            · exact fun q hq hl => .inr ⟨q, List.mem_cons_of_mem _ hq, hl, rfl⟩
          · have c7 : p.loop = true := (Bool.not_eq_false _).mp c6
            rw [if_neg c6, if_pos (hP.is_loop.2 c7)]
            exact .inr (.inl ⟨rfl, rfl⟩)
      · rw [if_neg c5, if_neg c5]
        by_cases c8 : s = 93
        · rw [if_pos c8, if_pos c8]
          subst c8
          cases mo with
          | nil => exact .inr (.inl ⟨rfl, rfl⟩)
          | cons p o =>
            have hP := h.parts p (List.mem_cons_self ..)
            simp only [List.map_cons]
            by_cases c9 : p.loop = true
            · rw [if_pos c9, if_pos (hP.is_loop.2 c9), (hP.loop c9).1]
              refine .inl ⟨_, _, rfl, rfl, ?_⟩
              have hd := List.pairwise_cons.1 h.desc
              have hpl := fun j hj => h.pend p (List.mem_cons_self ..) j hj
              have hr9 : ∀ k : Nat, k < n → ss[k]? = some 93 → ((rt.set n (-1)).set n (p.at_ : Int))[k]? = rt[k]? := fun k hk _ => by
                rw [List.getElem?_set_ne (by omega), k0 rt k hk]
              have hrn : ((rt.set n (-1)).set n (p.at_ : Int))[n]? = some (p.at_ : Int) := List.getElem?_set_self (by rw [lr0]; exact hln)
              refine ⟨rfl, rfl, by rw [setAll_len, List.length_set]; exact lm0, by rw [List.length_set]; exact lr0, fun q hq => (h.parts q (List.mem_cons_of_mem _ hq)).more (by omega), hd.2, fun j hj => ?_, fun q hq j hj => ?_, fun j hj hj6 => ?_⟩
              · rw [setAll_not _ _ _ _ (fun e => hj (hpl j e).2.1)]
                exact same_set hs0 (by rw [lm0, lr0]) _ _ j hj
              · obtain ⟨a1, a2, a3, a4, a5, a6⟩ := h.pend q (List.mem_cons_of_mem _ hq) j hj
                have hqp := hd.1 q hq
                have hqle := (h.parts q (List.mem_cons_of_mem _ hq)).le
                have := a6 p (List.mem_cons_self ..) c9 (by omega)
                exact ⟨a1, a2, a3, by omega, (a5.keep hr9).next (fun _ => ⟨_, hrn, by omega⟩), fun q' hq' hl' hlt' => a6 q' (List.mem_cons_of_mem _ hq') hl' hlt'⟩
              · have hjn : j < n := by
                  rcases Nat.lt_or_ge j n with hk | hk
                  · exact hk
                  · obtain rfl : j = n := by omega
                    rw [hs] at hj6; cases hj6
                by_cases hjp : j ∈ p.left
                · obtain ⟨a1, a2, a3, a4, a5, a6⟩ := hpl j hjp
                  have hle := hP.le
                  exact .inr ⟨n, hjn, by omega, setAll_mem _ _ _ _ hjp (by rw [List.length_set, lm0]; omega), hs, ⟨_, hrn, by omega⟩, a5.keep hr9⟩
                · rcases h.done j hjn hj6 with ⟨q, hq, hj2⟩ | ⟨k, b1, b2, b3, b4, ⟨v, b5, b6⟩, b7⟩
                  · rcases List.mem_cons.1 hq with rfl | hq
                    · exact absurd hj2 hjp
                    · exact .inl ⟨q, hq, hj2⟩
                  · refine .inr ⟨k, b1, by omega, ?_, b4, ⟨v, by rw [hr9 k b2 b4]; exact b5, b6⟩, b7.keep (fun k' hk' h9' => hr9 k' (by omega) h9')⟩
                    rw [setAll_not _ _ _ _ hjp, List.getElem?_set_ne (by omega), k0 mt j hjn]
                    exact b3
            · rw [if_neg c9, if_neg (fun e => c9 (hP.is_loop.1 e))]
              exact .inr (.inl ⟨rfl, rfl⟩)
        · rw [if_neg c8, if_neg c8]
          by_cases c10 : s = 126
          · rw [if_pos c10]
            subst c10
            cases hlv : leaveP n mo with
            | none => exact .inr (.inr ⟨rfl, rfl, leaveP_none hlv⟩)
            | some o =>
              obtain ⟨a, p, r0, e1, e2, e3, e4⟩ := leaveP_split hlv
              have hw : o.map (·.waits) = mo.map (·.waits) := by rw [e1, e4]; simp
              have hf : o.map (fun p => (p.at_, p.waits)) = mo.map (fun p => (p.at_, p.waits)) := by rw [e1, e4]; simp
              have hpm : p ∈ mo := by rw [e1]; simp
              have hP := h.parts p hpm
              have hin : ∀ q ∈ o, q = ⟨p.loop, p.at_, p.waits, p.left ++ [n]⟩ ∨ q ∈ mo := fun q hq => by
                rw [e4] at hq
                rw [e1]
                simp only [List.mem_append, List.mem_cons] at hq ⊢
                rcases hq with hq | hq | hq
                · exact .inr (.inl hq)
                · exact .inl hq
                · exact .inr (.inr (.inr hq))
              have hback : ∀ q ∈ mo, q = p ∨ q ∈ o := fun q hq => by
                rw [e1] at hq
                rw [e4]
                simp only [List.mem_append, List.mem_cons] at hq ⊢
                rcases hq with hq | hq | hq
                · exact .inr (.inl hq)
                · exact .inl hq
                · exact .inr (.inr (.inr hq))
              have hself : (⟨p.loop, p.at_, p.waits, p.left ++ [n]⟩ : NPart) ∈ o := by rw [e4]; simp
              have hr9 : ∀ k : Nat, k < n → ss[k]? = some 93 → (rt.set n (-1))[k]? = rt[k]? := fun k hk _ => k0 rt k hk
              have hn9 : ss[n]? ≠ some 93 := by rw [hs]; decide
              have hold : ∀ q ∈ o, q.loop = true → ∃ q0 ∈ mo, q0.loop = true ∧ q0.at_ = q.at_ := fun q hq hl => by
                rcases hin q hq with rfl | hq
                · exact ⟨p, hpm, e3, rfl⟩
                · exact ⟨q, hq, hl, rfl⟩
              have hpend : ∀ p0 ∈ mo, ∀ j ∈ p0.left, p0.loop = true ∧ ss[j]? = some 126 ∧ p0.waits < j ∧ j < n + 1 ∧ Behind ss (rt.set n (-1)) j 0 (n + 1) ∧ ∀ q ∈ o, q.loop = true → p0.at_ < q.at_ → j < q.at_ := fun p0 hp0 j hj => by
                obtain ⟨a1, a2, a3, a4, a5, a6⟩ := h.pend p0 hp0 j hj
                refine ⟨a1, a2, a3, by omega, (a5.keep hr9).next (fun h9 => absurd h9 hn9), fun q hq hl hlt => ?_⟩
                obtain ⟨q0, hq0, l0, e0⟩ := hold q hq hl
                rw [← e0] at hlt ⊢
                exact a6 q0 hq0 l0 hlt
              refine .inl ⟨⟨mt.set n (-1), md, o⟩, ⟨rt.set n (-1), md, mo.map (·.waits)⟩, rfl, rfl, ⟨rfl, hw, lm0, lr0, fun q hq => ?_, ?_, hs0, fun q hq j hj => ?_, fun j hj hj6 => ?_⟩⟩
              · rcases hin q hq with rfl | hq
                · have := hP.more (k := n + 1) (by omega)
                  exact ⟨this.lt, this.ltw, this.le, this.loop, this.if_⟩
                · exact (h.parts q hq).more (by omega)
              · have := h.desc
                have hR : (mo.map (fun p => (p.at_, p.waits))).Pairwise (fun a b => b.2 < a.1) := List.pairwise_map.2 this
                rw [← hf] at hR
                exact List.pairwise_map.1 hR
              · rcases hin q hq with rfl | hq
                · simp only [List.mem_append, List.mem_cons, List.not_mem_nil, or_false] at hj
                  rcases hj with hj | rfl
                  · exact hpend p hpm j hj
                  · refine ⟨e3, hs, hP.ltw, by omega, fun k h1 _ h3 h9 => ?_, fun q hq hl hlt => ?_⟩
                    · obtain rfl : k = j := by omega
                      exact absurd h9 hn9
                    · exfalso
                      rw [e4] at hq
                      simp only [List.mem_append, List.mem_cons] at hq
                      simp only at hlt
                      rcases hq with hq | rfl | hq
                      · rw [e2 q hq] at hl; cases hl
                      · simp only at hlt; omega
                      · have hd := h.desc
                        rw [e1] at hd
                        have := (List.pairwise_cons.1 (List.pairwise_append.1 hd).2.1).1 q hq
                        have hle := (h.parts q (by rw [e1]; simp [hq])).le
                        omega
                · exact hpend q hq j hj
              · rcases Nat.lt_or_ge j n with hjn | hjn
                · rcases h.done j hjn hj6 with ⟨q, hq, hj2⟩ | ⟨k, b1, b2, b3, b4, ⟨v, b5, b6⟩, b7⟩
                  · rcases hback q hq with rfl | hq
                    · exact .inl ⟨_, hself, by simp [hj2]⟩
                    · exact .inl ⟨q, hq, hj2⟩
                  · exact .inr ⟨k, b1, by omega, by rw [k0 mt j hjn]; exact b3, b4, ⟨v, by rw [hr9 k b2 b4]; exact b5, b6⟩, b7.keep (fun k' hk' h9' => hr9 k' (by omega) h9')⟩
                · obtain rfl : j = n := by omega
                  exact .inl ⟨_, hself, by simp⟩
          · rw [if_neg c10]
            refine .inl ⟨_, _, rfl, rfl, ?_⟩
            have h93 : ss[n]? ≠ some 93 := by rw [hs]; intro e; injection e with e; exact c8 e
            have h126 : ss[n]? ≠ some 126 := by rw [hs]; intro e; injection e with e; exact c10 e
            exact h.plain h93 h126 lm0 lr0 hs0 (fun k hk _ => k0 rt k hk) (fun j hj _ => k0 mt j hj) (fun q hq => (h.parts q hq).more (by omega)) h.desc (fun q hq => .inr ⟨q, hq, rfl, rfl, rfl, rfl⟩) (fun q hq _ => ⟨q, hq, rfl⟩) (fun q hq hl => .inr ⟨q, hq, hl, rfl⟩)
/-- A ~ at j that no loop is round: whatever comes, no ] behind it goes back ahead of it. -/
structure Dead (ss : List Int) (j n : Nat) (r : RSt) : Prop where
  lt : j < n
  len : r.tO.length = ss.length
  open_ : ∀ w ∈ r.op, w < n ∧ (ss[w]? = some 63 ∨ ss[w]? = some 58 ∨ (ss[w]? = some 91 ∧ j < w))
  behind : Behind ss r.tO j 0 n
theorem dead_step {ss : List Int} {j n : Nat} {r r' : RSt} {s : Int} (h : Dead ss j n r) (hs : ss[n]? = some s) (hr : rTake ss n s ⟨r.tO.set n (-1), r.deep, r.op⟩ = some r') : Dead ss j (n + 1) r' := by
  have hln : n < ss.length := by
    rcases Nat.lt_or_ge n ss.length with hk | hk
    · exact hk
    · rw [List.getElem?_eq_none hk] at hs; cases hs
  have hjn := h.lt
  obtain ⟨rt, rd, ro⟩ := r
  have hlen := h.len
  have hop := h.open_
  have hb := h.behind
  simp only at hlen hop hb hr
  have k0 : ∀ (k : Nat), k < n → (rt.set n (-1))[k]? = rt[k]? := fun k hk => List.getElem?_set_ne (by omega)
  have l0 : (rt.set n (-1)).length = ss.length := by rw [List.length_set]; exact hlen
  unfold rTake at hr
  simp only at hr
  by_cases c1 : s = 63 ∨ s = 91
  · rw [if_pos c1] at hr
    by_cases c2 : ro.length + 1 ≤ 16
    · rw [if_pos c2] at hr
      injection hr with hr
      subst hr
      refine ⟨by omega, l0, fun w hw => ?_, (hb.keep fun k hk _ => k0 k hk).next fun h9 => ?_⟩
      · rcases List.mem_cons.1 hw with rfl | hw
        · refine ⟨by omega, ?_⟩
          rw [hs]
          rcases c1 with rfl | rfl
          · exact .inl rfl
          · exact .inr (.inr ⟨rfl, hjn⟩)
        · exact ⟨by have := (hop w hw).1; omega, (hop w hw).2⟩
      · rw [hs] at h9; injection h9 with h9; omega
    · rw [if_neg c2] at hr; cases hr
  · rw [if_neg c1] at hr
    by_cases c3 : s = 58
    · rw [if_pos c3] at hr
      subst c3
      cases ro with
      | nil => cases hr
      | cons p o =>
        simp only at hr
        by_cases c4 : ss[p]? = some 63
        · rw [if_pos c4] at hr
          injection hr with hr
          subst hr
          refine ⟨by omega, by rw [List.length_set]; exact l0, fun w hw => ?_, (hb.keep fun k hk h9 => ?_).next fun h9 => ?_⟩
          · rcases List.mem_cons.1 hw with rfl | hw
            · exact ⟨by omega, .inr (.inl hs)⟩
            · have := hop w (List.mem_cons_of_mem _ hw); exact ⟨by have := this.1; omega, this.2⟩
          · rw [keep_set c4 (by decide) k h9, k0 k hk]
          · rw [hs] at h9; cases h9
        · rw [if_neg c4] at hr; cases hr
    · rw [if_neg c3] at hr
      by_cases c5 : s = 59
      · rw [if_pos c5] at hr
        subst c5
        cases ro with
        | nil => cases hr
        | cons p o =>
          simp only at hr
          by_cases c6 : ss[p]? = some 91
          · rw [if_pos c6] at hr; cases hr
          · rw [if_neg c6] at hr
            injection hr with hr
            subst hr
            have hw : ∃ x, ss[p]? = some x ∧ x ≠ 93 := by
              rcases (hop p (List.mem_cons_self ..)).2 with e | e | ⟨e, _⟩
              · exact ⟨_, e, by decide⟩
              · exact ⟨_, e, by decide⟩
              · exact absurd e c6
            obtain ⟨x, hw, x1⟩ := hw
            refine ⟨by omega, by rw [List.length_set]; exact l0, fun w hw => ?_, (hb.keep fun k hk h9 => ?_).next fun h9 => ?_⟩
            · have := hop w (List.mem_cons_of_mem _ hw); exact ⟨by have := this.1; omega, this.2⟩
            · rw [keep_set hw x1 k h9, k0 k hk]
            · rw [hs] at h9; cases h9
      · rw [if_neg c5] at hr
        by_cases c8 : s = 93
        · rw [if_pos c8] at hr
          cases ro with
          | nil => cases hr
          | cons p o =>
            simp only at hr
            by_cases c9 : ss[p]? = some 91
            · rw [if_pos c9] at hr
              injection hr with hr
              subst hr
              have hjp : j < p := by
                rcases (hop p (List.mem_cons_self ..)).2 with e | e | ⟨_, e⟩
                · rw [c9] at e; cases e
                · rw [c9] at e; cases e
                · exact e
              refine ⟨by omega, by rw [List.length_set]; exact l0, fun w hw => ?_, (hb.keep fun k hk h9 => ?_).next fun h9 => ?_⟩
              · have := hop w (List.mem_cons_of_mem _ hw); exact ⟨by have := this.1; omega, this.2⟩
              · rw [List.getElem?_set_ne (by omega), k0 k hk]
              · exact ⟨_, List.getElem?_set_self (by rw [l0]; exact hln), by omega⟩
            · rw [if_neg c9] at hr; cases hr
        · rw [if_neg c8] at hr
          injection hr with hr
          subst hr
          refine ⟨by omega, l0, fun w hw => ⟨by have := (hop w hw).1; omega, (hop w hw).2⟩, (hb.keep fun k hk _ => k0 k hk).next fun h9 => ?_⟩
          rw [hs] at h9; injection h9 with h9; exact absurd h9 c8
theorem dead_run {ss : List Int} {j : Nat} : ∀ (rest : List Int) (n : Nat) (r : RSt), n + rest.length = ss.length → (∀ i : Nat, rest[i]? = ss[n + i]?) → Dead ss j n r → rRun ss n rest r = none ∨ ∃ r', rRun ss n rest r = some r' ∧ Dead ss j ss.length r'
  | [], n, r, hl, _, h => .inr ⟨r, rfl, by rw [← hl]; exact h⟩
  | s :: rest, n, r, hl, hi, h => by
    have hs : ss[n]? = some s := by have := hi 0; simpa using this.symm
    unfold rRun
    cases hr : rTake ss n s ⟨r.tO.set n (-1), r.deep, r.op⟩ with
    | none => exact .inl rfl
    | some r' => exact dead_run rest (n + 1) r' (by rw [← hl]; simp only [List.length_cons]; omega) (fun i => by have := hi (i + 1); simpa [Nat.add_assoc, Nat.add_comm 1 i] using this) (dead_step h hs hr)
theorem sim_run {ss : List Int} : ∀ (rest : List Int) (n : Nat) (m : NSt) (r : RSt), n + rest.length = ss.length → (∀ i : Nat, rest[i]? = ss[n + i]?) → Sim ss n m r →
    (∃ m' r', nRun n rest m = some m' ∧ rRun ss n rest r = some r' ∧ Sim ss ss.length m' r') ∨
    (nRun n rest m = none ∧ (rRun ss n rest r = none ∨ ∃ r' j, rRun ss n rest r = some r' ∧ ss[j]? = some 126 ∧ Dead ss j ss.length r'))
  | [], n, m, r, hl, _, h => .inl ⟨m, r, rfl, rfl, by rw [← hl]; exact h⟩
  | s :: rest, n, m, r, hl, hi, h => by
    have hs : ss[n]? = some s := by have := hi 0; simpa using this.symm
    have hl' : n + 1 + rest.length = ss.length := by rw [← hl]; simp only [List.length_cons]; omega
    have hi' : ∀ i : Nat, rest[i]? = ss[n + 1 + i]? := fun i => by have := hi (i + 1); simpa [Nat.add_assoc, Nat.add_comm 1 i] using this
    rcases sim_step h hs with ⟨m', r', e1, e2, h'⟩ | ⟨e1, e2⟩ | ⟨e0, e1, e2⟩
    · unfold nRun rRun
      rw [e1, e2]
      exact sim_run rest (n + 1) m' r' hl' hi' h'
    · unfold nRun rRun
      rw [e1, e2]
      exact .inr ⟨rfl, .inl rfl⟩
    · subst e0
      unfold nRun rRun
      rw [e1]
      have er : rTake ss n 126 ⟨r.tO.set n (-1), r.deep, r.op⟩ = some ⟨r.tO.set n (-1), r.deep, r.op⟩ := rfl
      rw [er]
      have hd : Dead ss n (n + 1) ⟨r.tO.set n (-1), r.deep, r.op⟩ := by
        refine ⟨by omega, by rw [List.length_set]; exact h.lenR, fun w hw => ?_, fun k h1 _ h3 h9 => ?_⟩
        · simp only at hw
          rw [← h.op, List.mem_map] at hw
          obtain ⟨p, hp, rfl⟩ := hw
          have hP := h.parts p hp
          obtain ⟨a, b | b⟩ := hP.if_ (e2 p hp)
          · exact ⟨by have := hP.ltw; omega, .inl (by rw [b]; exact a)⟩
          · exact ⟨by have := hP.ltw; omega, .inr (.inl b)⟩
        · obtain rfl : k = n := by omega
          rw [hs] at h9; cases h9
      refine .inr ⟨rfl, ?_⟩
      rcases dead_run rest (n + 1) _ hl' hi' hd with e | ⟨r', e, hd'⟩
      · exact .inl e
      · exact .inr ⟨r', n, e, hs, hd'⟩
/-- Both at once, from nothing. -/
theorem sim_start (ss : List Int) : Sim ss 0 ⟨List.replicate ss.length 0, 0, []⟩ ⟨List.replicate ss.length 0, 0, []⟩ :=
  ⟨rfl, rfl, List.length_replicate, List.length_replicate, fun p hp => (by cases hp), List.Pairwise.nil, fun _ _ => rfl, fun p hp => (by cases hp), fun j hj => absurd hj (by omega)⟩
theorem nest_both (ss : List Int) : (∃ m r, nRun 0 ss ⟨List.replicate ss.length 0, 0, []⟩ = some m ∧ rRun ss 0 ss ⟨List.replicate ss.length 0, 0, []⟩ = some r ∧ Sim ss ss.length m r) ∨
    (nRun 0 ss ⟨List.replicate ss.length 0, 0, []⟩ = none ∧ (rRun ss 0 ss ⟨List.replicate ss.length 0, 0, []⟩ = none ∨ ∃ r' j, rRun ss 0 ss ⟨List.replicate ss.length 0, 0, []⟩ = some r' ∧ ss[j]? = some 126 ∧ Dead ss j ss.length r')) :=
  sim_run ss 0 _ _ (by omega) (fun i => by rw [Nat.zero_add]) (sim_start ss)
/-- With nothing open at the end, each ~ has its place behind the first ] that goes back ahead of it. -/
theorem Sim.leaves {ss : List Int} {m : NSt} {r : RSt} (h : Sim ss ss.length m r) (ho : m.op = []) (j : Nat) (hj : ss[j]? = some 126) :
    ∃ k : Nat, j < k ∧ k < ss.length ∧ m.tO[j]? = some ((k : Int) + 1) ∧ ss[k]? = some 93 ∧ (∃ v, r.tO[k]? = some v ∧ v < (j : Int)) ∧ Behind ss r.tO j 0 k := by
  have hln : j < ss.length := by
    rcases Nat.lt_or_ge j ss.length with hk | hk
    · exact hk
    · rw [List.getElem?_eq_none hk] at hj; cases hj
  rcases h.done j hln hj with ⟨p, hp, _⟩ | hd
  · rw [ho] at hp; cases hp
  · exact hd
/-- The reference's search for the place behind a ~'s loop. -/
def leavesV (ss t : List Int) (j : Nat) : Nat → Nat → Int
  | 0, _ => -1
  | f + 1, i => if ss[i]? = some 93 ∧ t.getD i 0 < (j : Int) then (i : Int) + 1 else leavesV ss t j f (i + 1)
theorem leavesV_found {ss t : List Int} {j k : Nat} (hk : ss[k]? = some 93) (hv : ∃ v, t[k]? = some v ∧ v < (j : Int)) (hb : Behind ss t j 0 k) : ∀ (f i : Nat), j ≤ i → i ≤ k → k < i + f → leavesV ss t j f i = (k : Int) + 1
  | 0, i, _, h1, h2 => absurd h1 (by omega)
  | f + 1, i, h0, h1, h2 => by
    unfold leavesV
    by_cases e : i = k
    · subst e
      obtain ⟨v, e1, e2⟩ := hv
      rw [if_pos ⟨hk, by rw [List.getD_eq_getElem?_getD, e1]; exact e2⟩]
    · rw [if_neg, leavesV_found hk hv hb f (i + 1) (by omega) (by omega) (by omega)]
      rintro ⟨a, b⟩
      obtain ⟨v, e1, e2⟩ := hb i h0 (by omega) (by omega) a
      rw [List.getD_eq_getElem?_getD, e1] at b
      simp only [Option.getD_some] at b
      omega
theorem leavesV_none {ss t : List Int} {j n : Nat} (hb : Behind ss t j 0 n) : ∀ (f i : Nat), j ≤ i → i + f ≤ n → leavesV ss t j f i = -1
  | 0, i, _, _ => rfl
  | f + 1, i, h0, h1 => by
    unfold leavesV
    rw [if_neg, leavesV_none hb f (i + 1) (by omega) (by omega)]
    rintro ⟨a, b⟩
    obtain ⟨v, e1, e2⟩ := hb i h0 (by omega) (by omega) a
    rw [List.getD_eq_getElem?_getD, e1] at b
    simp only [Option.getD_some] at b
    omega
/-- The reference's second pass. -/
def fillR (ss : List Int) : Nat → List Int → List Int → Option (List Int)
  | _, [], t => some t
  | i, s :: r, t => if s = 126 then (if leavesV ss t i (ss.length - i) i < 0 then none else fillR ss (i + 1) r (t.set i (leavesV ss t i (ss.length - i) i))) else fillR ss (i + 1) r t
def rNest (ss : List Int) : Option (List Int × Nat) :=
  (rRun ss 0 ss ⟨List.replicate ss.length 0, 0, []⟩).bind fun r => if r.op = [] then (fillR ss 0 ss r.tO).map fun t => (t, r.deep) else none
def nNest (ss : List Int) : Option (List Int × Nat) :=
  (nRun 0 ss ⟨List.replicate ss.length 0, 0, []⟩).bind fun m => if m.op = [] then some (m.tO, m.deep) else none
theorem fill_yes {ss : List Int} {m : NSt} {r : RSt} (h : Sim ss ss.length m r) (ho : m.op = []) : ∀ (rest : List Int) (n : Nat) (t : List Int), n + rest.length = ss.length → (∀ i : Nat, rest[i]? = ss[n + i]?) → t.length = ss.length →
    (∀ j : Nat, ss[j]? ≠ some 126 ∨ j < n → t[j]? = m.tO[j]?) → fillR ss n rest t = some m.tO
  | [], n, t, hl, _, hlt, ha => by
    show some t = _
    congr 1
    apply List.ext_getElem?
    intro j
    rcases Nat.lt_or_ge j n with hj | hj
    · exact ha j (.inr hj)
    · have hl' : n = ss.length := hl
      rw [List.getElem?_eq_none (by omega), List.getElem?_eq_none (by rw [h.lenM]; omega)]
  | s :: rest, n, t, hl, hi, hlt, ha => by
    have hs : ss[n]? = some s := by have := hi 0; simpa using this.symm
    have hl' : n + 1 + rest.length = ss.length := by rw [← hl]; simp only [List.length_cons]; omega
    have hi' : ∀ i : Nat, rest[i]? = ss[n + 1 + i]? := fun i => by have := hi (i + 1); simpa [Nat.add_assoc, Nat.add_comm 1 i] using this
    unfold fillR
    by_cases c : s = 126
    · rw [if_pos c]
      subst c
      obtain ⟨k, k1, k2, k3, k4, ⟨v, k5, k6⟩, k7⟩ := h.leaves ho n hs
      have h9 : ∀ k : Nat, ss[k]? = some 93 → t[k]? = r.tO[k]? := fun k hk => by
        have hne : ss[k]? ≠ some 126 := by rw [hk]; decide
        rw [ha k (.inl hne), h.same k hne]
      have hv : leavesV ss t n (ss.length - n) n = (k : Int) + 1 := leavesV_found k4 ⟨v, by rw [h9 k k4]; exact k5, k6⟩ (k7.keep fun k' _ hk' => h9 k' hk') _ n (Nat.le_refl _) (by omega) (by omega)
      rw [hv, if_neg (by omega)]
      refine fill_yes h ho rest (n + 1) _ hl' hi' (by rw [List.length_set]; exact hlt) (fun j hj => ?_)
      by_cases e : n = j
      · subst e
        rw [List.getElem?_set_self (by omega), k3]
      · rw [List.getElem?_set_ne e]
        exact ha j (hj.imp id fun h => by omega)
    · rw [if_neg c]
      refine fill_yes h ho rest (n + 1) t hl' hi' hlt (fun j hj => ?_)
      rcases hj with hj | hj
      · exact ha j (.inl hj)
      · by_cases e : j = n
        · subst e
          exact ha j (.inl (by rw [hs]; intro e; injection e with e; exact c e))
        · exact ha j (.inr (by omega))
theorem fill_no {ss : List Int} {r : RSt} {d : Nat} (hd : Dead ss d ss.length r) (h6 : ss[d]? = some 126) : ∀ (rest : List Int) (n : Nat) (t : List Int), n + rest.length = ss.length → (∀ i : Nat, rest[i]? = ss[n + i]?) → n ≤ d →
    (∀ k : Nat, ss[k]? = some 93 → t[k]? = r.tO[k]?) → fillR ss n rest t = none
  | [], n, t, hl, _, hn, _ => absurd hd.lt (by have : n = ss.length := hl; omega)
  | s :: rest, n, t, hl, hi, hn, ha => by
    have hs : ss[n]? = some s := by have := hi 0; simpa using this.symm
    have hl' : n + 1 + rest.length = ss.length := by rw [← hl]; simp only [List.length_cons]; omega
    have hi' : ∀ i : Nat, rest[i]? = ss[n + 1 + i]? := fun i => by have := hi (i + 1); simpa [Nat.add_assoc, Nat.add_comm 1 i] using this
    unfold fillR
    by_cases c : s = 126
    · rw [if_pos c]
      subst c
      by_cases e : n = d
      · subst e
        rw [leavesV_none (hd.behind.keep fun k _ hk => ha k hk) _ n (Nat.le_refl _) (by omega), if_pos (by omega)]
      · split
        · rfl
        · exact fill_no hd h6 rest (n + 1) _ hl' hi' (by omega) (fun k hk => by rw [List.getElem?_set_ne (fun e => by subst e; rw [hs] at hk; cases hk)]; exact ha k hk)
    · rw [if_neg c]
      have : n ≠ d := fun e => by subst e; rw [hs] at h6; injection h6 with h6; exact c h6
      exact fill_no hd h6 rest (n + 1) t hl' hi' (by omega) ha
/-- **The program's matching and the reference's are the same.** -/
theorem nest_same (ss : List Int) : nNest ss = rNest ss := by
  unfold nNest rNest
  rcases nest_both ss with ⟨m, r, e1, e2, h⟩ | ⟨e1, e2 | ⟨r, d, e2, h6, hd⟩⟩
  · rw [e1, e2]
    show (if m.op = [] then some (m.tO, m.deep) else none) = if r.op = [] then (fillR ss 0 ss r.tO).map fun t => (t, r.deep) else none
    by_cases ho : m.op = []
    · have hr : r.op = [] := by rw [← h.op, ho]; rfl
      rw [if_pos ho, if_pos hr, fill_yes h ho ss 0 r.tO (by omega) (fun i => by rw [Nat.zero_add]) h.lenR (fun j hj => (h.same j (hj.resolve_right (by omega))).symm), h.deep]
      rfl
    · have hr : ¬ r.op = [] := fun e => ho (by rw [← h.op] at e; exact List.map_eq_nil_iff.1 e)
      rw [if_neg ho, if_neg hr]
  · rw [e1, e2]; rfl
  · rw [e1, e2]
    show none = if r.op = [] then (fillR ss 0 ss r.tO).map fun t => (t, r.deep) else none
    rw [fill_no hd h6 ss 0 r.tO (by omega) (fun i => by rw [Nat.zero_add]) (by omega) (fun _ _ => rfl)]
    split <;> rfl
end Go.Proofs.Ytnohfdojcdhfoaa
namespace Go.Proofs.Ytnohfdojcdhfoaa
open Go.RowKit

theorem ret_int {k : IntKind} {a b : Int} (h : a = b) : Ending.returned (.int k a) = .returned (.int k b) := by rw [h]
/-- One byte more; all of them. -/
def stp (h : Int) (b : UInt8) : Int := bits .xor .u32 h ((b.toNat : Int) % 4294967296) * 16777619 % 4294967296
theorem ret_stp (h : Int) (b : UInt8) : Ending.returned (.int .u32 (bits .xor .u32 h ((b.toNat : Int) % 4294967296) * 16777619 % 4294967296)) = .returned (.int .u32 (stp h b)) := by unfold stp; rfl
def sumL (h : Int) (l : List UInt8) : Int := l.foldl stp h
theorem sumL_snoc (h : Int) (l : List UInt8) (b : UInt8) : sumL h (l ++ [b]) = stp (sumL h l) b := by simp [sumL]
theorem sumL_app (h : Int) (l m : List UInt8) : sumL h (l ++ m) = sumL (sumL h l) m := by simp [sumL]
theorem take_next {α : Type} (l : List α) (k : Nat) (h : k < l.length) : l.take (k + 1) = l.take k ++ [l[k]] := List.take_succ_eq_append_getElem h
theorem sumL_next (h : Int) (l : List UInt8) (k : Nat) (hk : k < l.length) : sumL h (l.take (k + 1)) = stp (sumL h (l.take k)) l[k] := by rw [take_next l k hk, sumL_snoc]

section
variable {w : World}
variable {A : Option Addr} {n c : Nat} {l : List UInt8}
end
end Go.Proofs.Ytnohfdojcdhfoaa
namespace Go.Proofs.Ytnohfdojcdhfoaa
open Go.RowKit
theorem info_byte : (Try.prog.info? 5).map (fun i => (i.zero, i.size, i.bytes)) = some (some (.int .u8 0), 1, 1) := by kernel_rfl
/-- A number's four bytes. -/
def be4 (k : Nat) : List UInt8 := [UInt8.ofNat (k / 16777216), UInt8.ofNat (k / 65536), UInt8.ofNat (k / 256), UInt8.ofNat k]
theorem be4_len (k : Nat) : (be4 k).length = 4 := rfl
theorem bts_be4 (k : Nat) (hk : k < 4294967296) : bts (be4 k) = [.int .u8 ((k : Int) / 16777216), .int .u8 ((k : Int) / 65536 % 256), .int .u8 ((k : Int) / 256 % 256), .int .u8 ((k : Int) % 256)] := by
  have h : ∀ x : Nat, (((UInt8.ofNat x).toNat : Nat) : Int) = ((x % 256 : Nat) : Int) := fun x => by rw [UInt8.toNat_ofNat']
  have h2 : ((k / 16777216 % 256 : Nat) : Int) = (k : Int) / 16777216 := by omega
  simp only [bts, be4, List.map_cons, List.map_nil, B8, h, h2, Int.natCast_emod, Int.natCast_ediv, Int.cast_ofNat_Int]

/-- What a call that makes bytes answers. -/
def BytesPost (w : World) (l : List UInt8) (e : Ending) (w' : World) : Prop := ∃ v, e = .returned v ∧ w'.ownsRow w.heap.size 5 1 v l.length (bts l) ∧ Chg [] w w'

section
variable {w : World} {A : Option Addr} {n c : Nat} {l : List UInt8}
end
end Go.Proofs.Ytnohfdojcdhfoaa
namespace Go.Proofs.Ytnohfdojcdhfoaa
open Go.RowKit
section
variable {w : World} {A : Option Addr} {n c : Nat} {l : List UInt8}
theorem Bs.take (h : Bs w A n c l) {m : Nat} (hm : m ≤ n) : Bs w A m c (l.take m) :=
  ⟨by rw [List.length_take, h.len]; omega, src_pre m h.src, Nat.le_trans hm h.cap, h.max, fun h0 => h.spot (by omega)⟩
where
  src_pre (m : Nat) {w : World} {A : Option Addr} {l : List UInt8} (hs : Src w A (bts l)) : Src w A (bts (l.take m)) := fun hp => by
    obtain ⟨ad, e, hb, hx⟩ := hs (by simp [bts] at hp ⊢; omega)
    refine ⟨ad, e, hb, fun j v hj => hx j v ?_⟩
    unfold bts at hj ⊢
    rw [List.map_take, List.getElem?_take] at hj
    split at hj
    · exact hj
    · cases hj

end
theorem bts_app (l m : List UInt8) : bts (l ++ m) = bts l ++ bts m := by simp [bts]
theorem add0 (A : Option Addr) : Option.map (fun x : Addr => x.add 0) A = A := by cases A <;> simp [Addr.add]
/-- An own row that is not empty: its block, whole. -/
theorem own_whole {w : World} {B n : Nat} {e : TypeId} {v : Value} {xs : List Value} (h : w.ownsRow B e 1 v n xs) (hn : 0 < n) :
    ∃ g r, v = .slice (some ⟨g, 0, none⟩) n (n + r.length) ∧ B ≤ g ∧ Whole w g e (xs ++ r) ∧ n + r.length ≤ maxLen := by
  rcases h.2 with ⟨_, h0⟩ | ⟨g, cap, cur, rfl, hb, hg, hc, hm, hs, ht⟩
  · omega
  · have hl : cur.toList.length = cap := by rw [Array.length_toList]; omega
    have h1 : n * 1 = n := Nat.mul_one n
    rw [h1] at ht
    have e1 : cap = n + (cur.toList.drop n).length := by rw [List.length_drop, hl]; omega
    refine ⟨g, cur.toList.drop n, by rw [← e1], hb, ?_, by omega⟩
    unfold Whole
    rw [← ht, List.take_append_drop]
    exact hg

end Go.Proofs.Ytnohfdojcdhfoaa
namespace Go.Proofs.Ytnohfdojcdhfoaa
open Go.RowKit
/-- A change as it lies in memory: two cells, one of them a slice. -/
structure ChV where
  page : Int
  bA : Option Addr
  bn : Nat
  bc : Nat
  B : List UInt8
def chC (a : ChV) : List Value := [.int .i64 a.page, .slice a.bA a.bn a.bc]
structure ChOk (w : World) (a : ChV) : Prop where
  p0 : -9223372036854775808 ≤ a.page
  p1 : a.page ≤ 9223372036854775807
  bs : Bs w a.bA a.bn a.bc a.B
/-- The slice at A reads as the changes l. -/
structure Chs (w : World) (A : Option Addr) (l : List ChV) : Prop where
  cells : 0 < l.length → ∃ g o, A = some ⟨g, o, none⟩ ∧ g < w.heap.size ∧ ∀ k a, l[k]? = some a → w.cell? ⟨g, o + k * 2, none⟩ = some (.int .i64 a.page) ∧ w.cell? ⟨g, o + k * 2 + 1, none⟩ = some (.slice a.bA a.bn a.bc)
  ok : ∀ a ∈ l, ChOk w a
/-- A change that Bytes can write. -/
def Small (a : ChV) : Prop := 0 ≤ a.page ∧ a.page < 65536 ∧ a.bn = 64
theorem ChOk.keep {w w' : World} {a : ChV} (h : ChOk w a) (hc : Chg [] w w') : ChOk w' a := { h with bs := h.bs.keep hc }
theorem Chs.nil (w : World) (A : Option Addr) : Chs w A [] := ⟨fun h => absurd h (by simp), fun a ha => by simp at ha⟩
theorem Chs.keep {w w' : World} {A : Option Addr} {l : List ChV} (h : Chs w A l) (hc : Chg [] w w') : Chs w' A l := by
  refine ⟨fun h0 => ?_, fun a ha => (h.ok a ha).keep hc⟩
  obtain ⟨g, o, e, hg, hx⟩ := h.cells h0
  refine ⟨g, o, e, Nat.lt_of_lt_of_le hg hc.size, fun k a ha => ?_⟩
  obtain ⟨h1, h2⟩ := hx k a ha
  have hk : ∀ j, w'.cell? ⟨g, j, none⟩ = w.cell? ⟨g, j, none⟩ := fun j => World.cell?_of_block (w := w) (hc.block g hg (by simp))
  exact ⟨(hk _).trans h1, (hk _).trans h2⟩
/-- append as a step of a region that draws. -/
theorem step_append_src {P : Program} {w : World} {ops : Array Oper} {o : Oper} {a : Act} {K : Act → World → Prop} {Q : Exit → Act → World → Prop} {E : Prop} (hgd : o.guard = none) (s x : Operand) (t : TypeId)
    (ho : o.op = .call { callee := .builtin .append, args := #[s, x], argTypes := #[t, t] })
    (base : Nat) (e : TypeId) (i : TypeInfo) (z : Value) (bytes : Nat) (ht : P.underlying t = some (.slice e)) (hi : P.info? e = some i) (hz : i.zero = some z)
    (hsize : i.size = 1) (hby : i.bytes = bytes) (hzs : z.cells.size = 1)
    (v : Value) (n : Nat) (xs : List Value) (hse : a.eval s = v) (hown : w.ownsRow base e 1 v n xs)
    (A : Option Addr) (m c : Nat) (news : List Value) (hxe : a.eval x = .slice A m c) (hl : news.length = m) (hs : Src w A news) (h1 : ∀ u ∈ news, u.oneCell' = true)
    (h63 : n + m ≤ maxLen) (hbytes : (n + m) * bytes ≤ 140737488355328) (hbase : base ≤ w.heap.size)
    (h : ∀ v' w', w'.ownsRow base e 1 v' (n + m) (xs ++ news) → w.grownBy w' v.ownBlock → K (a.put o.dst v') w') :
    if Region.wanted o (yielded ops a.tmps) = true then Oper.wp P o a w K Q else E := by
  have hw : Region.wanted o (yielded ops a.tmps) = true := by simp [Region.wanted, hgd]
  rw [if_pos hw]
  obtain ⟨v', w', hrun, h2, h3, _⟩ := run_append_src (P := P) w base t o.type e i z bytes ht hi hz hsize hby hzs v n xs hown A m c news hl hs h1 h63 hbytes hbase
  unfold Oper.wp execOp
  simp only [ho, resolve, invoke, builtin, Sem.run_bind, Sem.run_pure, Result.andThen_ok, List.map_toArray, List.map_cons, List.map_nil, hse, hxe, hrun]
  exact h v' w' h2 h3
/-- Two bytes, the higher one first. -/
def be2 (k : Nat) : List UInt8 := [UInt8.ofNat (k / 256), UInt8.ofNat k]
theorem bts_be2 (k : Nat) (hk : k < 65536) : bts (be2 k) = [.int .u8 ((k : Int) / 256), .int .u8 ((k : Int) % 256)] := by
  unfold be2 bts
  simp only [List.map_cons, List.map_nil, B8, UInt8.toNat_ofNat']
  have h1 : k / 256 % 2 ^ 8 = k / 256 := Nat.mod_eq_of_lt (by omega)
  rw [h1]
  congr 2
/-- What of Right is asked of the pages, one behind the other. -/
def rightS (last pages : Int) : List ChV → Bool
  | [] => true
  | a :: l => !(decide (a.page ≤ last) || decide (pages ≤ a.page) || decide (a.bn ≠ 64)) && rightS a.page pages l
def rightB (pages : Int) (l : List ChV) : Bool := decide (pages ≤ 64) && rightS (-1) pages l
section
variable {w : World} {A : Option Addr} {n c : Nat}
end
end Go.Proofs.Ytnohfdojcdhfoaa
namespace Go.Proofs.Ytnohfdojcdhfoaa
open Go.RowKit
/-- The cells of changes. -/
def chCs : List ChV → List Value
  | [] => []
  | a :: l => chC a ++ chCs l
theorem chCs_len : ∀ l, (chCs l).length = l.length * 2
  | [] => rfl
  | a :: l => by rw [chCs, List.length_append, chCs_len l]; simp [chC]; omega
theorem chCs_app : ∀ l m, chCs (l ++ m) = chCs l ++ chCs m
  | [], _ => rfl
  | a :: l, m => by rw [List.cons_append, chCs, chCs, chCs_app l m, List.append_assoc]
theorem chCs_one (a : ChV) : chCs [a] = chC a := by simp [chCs]
theorem chCs_get : ∀ (l : List ChV) (k : Nat) (a : ChV) (j : Nat), l[k]? = some a → j < 2 → (chCs l)[k * 2 + j]? = (chC a)[j]?
  | [], k, a, j, h, hj => by simp at h
  | b :: l, 0, a, j, h, hj => by
    simp at h; subst h
    rw [chCs, List.getElem?_append_left (by simp [chC]; omega)]
    congr 1; omega
  | b :: l, k + 1, a, j, h, hj => by
    simp at h
    rw [chCs, List.getElem?_append_right (by simp [chC]; omega)]
    rw [← chCs_get l k a j h hj]
    congr 1; simp [chC]; omega
/-- A change whose bytes lie in a block of their own, from B0 on. -/
structure MadeCh (w : World) (B0 : Nat) (a : ChV) : Prop where
  b : ∃ g, a.bA = some ⟨g, 0, none⟩ ∧ B0 ≤ g ∧ Whole w g 5 (bts a.B)
  bl : a.B.length = 64
  bn : a.bn = 64
  bc : a.bc = 64
  p : 0 ≤ a.page ∧ a.page < 65536
theorem MadeCh.ok {w : World} {B0 : Nat} {a : ChV} (h : MadeCh w B0 a) : ChOk w a := by
  obtain ⟨g, hg, _, hW⟩ := h.b
  refine ⟨by have := h.p; omega, by have := h.p; omega, ?_⟩
  rw [hg, h.bn, h.bc]
  have := Bs.of_all hW (by rw [h.bl]; omega)
  rwa [h.bl] at this
theorem MadeCh.small {w : World} {B0 : Nat} {a : ChV} (h : MadeCh w B0 a) : Small a := ⟨h.p.1, h.p.2, h.bn⟩
theorem MadeCh.chg {w w' : World} {B0 : Nat} {a : ChV} {T : List Nat} (h : MadeCh w B0 a) (hc : Chg T w w') (hT : ∀ i ∈ T, i < B0 ∨ w.heap.size ≤ i) : MadeCh w' B0 a := by
  obtain ⟨g, hg, hB, hW⟩ := h.b
  exact { h with b := ⟨g, hg, hB, hW.chg hc fun hm => by have := hT g hm; have := hW.lt; omega⟩ }
theorem rown_chg {w w' : World} {B n k : Nat} {e : TypeId} {v : Value} {xs : List Value} {T : List Nat} (h : w.ownsRow B e k v n xs) (hc : Chg T w w') (hT : ∀ i ∈ T, i < B ∨ w.heap.size ≤ i) : w'.ownsRow B e k v n xs := by
  refine ⟨h.1, h.2.imp id ?_⟩
  rintro ⟨g, cap, cur, rfl, hb, hg, r⟩
  refine ⟨g, cap, cur, rfl, hb, ?_, r⟩
  have hgl : g < w.heap.size := by
    rcases Nat.lt_or_ge g w.heap.size with hlt | hge
    · exact hlt
    · rw [Array.getElem?_eq_none hge] at hg; cases hg
  rw [hc.block g hgl (fun hm => by have := hT g hm; omega)]
  exact hg
/-- An own row of changes, as a list of changes is taken. -/
theorem chs_own {w : World} {B B0 n : Nat} {e : TypeId} {v : Value} {l : List ChV} (h : w.ownsRow B e 2 v n (chCs l)) (hok : ∀ a ∈ l, MadeCh w B0 a) :
    ∃ A c, v = .slice A n c ∧ l.length = n ∧ Chs w A l ∧ n ≤ 9223372036854775807 ∧ n ≤ c ∧ (∀ ad, A = some ad → ad.spot = none) := by
  have hl : l.length = n := by have := h.1; rw [chCs_len] at this; omega
  rcases h.2 with ⟨rfl, rfl⟩ | ⟨g, cap, cur, rfl, hb, hg, hn, hc, hs, ht⟩
  · exact ⟨none, 0, rfl, hl, ⟨fun h => absurd h (by omega), fun a ha => (hok a ha).ok⟩, by omega, Nat.le_refl _, fun ad e => by cases e⟩
  · have hgl : g < w.heap.size := by
      rcases Nat.lt_or_ge g w.heap.size with hlt | hge
      · exact hlt
      · rw [Array.getElem?_eq_none hge] at hg; cases hg
    refine ⟨_, cap, rfl, hl, ⟨fun _ => ⟨g, 0, rfl, hgl, fun k a ha => ?_⟩, fun a ha => (hok a ha).ok⟩, by unfold maxLen at hc; omega, hn, fun ad e => by injection e with e; subst e; rfl⟩
    have hx : ∀ j u, (chCs l)[j]? = some u → w.cell? ((⟨g, 0, none⟩ : Addr).add j) = some u := h.cells rfl
    have q : ∀ j, j < 2 → ∀ u, (chC a)[j]? = some u → w.cell? ⟨g, k * 2 + j, none⟩ = some u := fun j hj u hu => by
      have := hx (k * 2 + j) u ((chCs_get l k a j ha hj).trans hu)
      rwa [add_plain, Nat.zero_add] at this
    simp only [Nat.zero_add]
    exact ⟨q 0 (by omega) _ rfl, q 1 (by omega) _ rfl⟩
theorem cells_page (w : World) (xs : List Value) (t : Nat) : ∀ (j : Nat) (u : Value), xs[j]? = some u → (w.alloc (.cells xs.toArray t)).cell? ((⟨w.heap.size, 0, none⟩ : Addr).add j) = some u := fun j u hj => by
  rw [add_plain, Nat.zero_add, (Whole.new w t xs).cell]; exact hj
/-- A change whose bytes begin a block of their own, from B0 on. -/
structure RMade (w : World) (B0 : Nat) (a : ChV) : Prop where
  b : ∃ g r, a.bA = some ⟨g, 0, none⟩ ∧ B0 ≤ g ∧ Whole w g 5 (bts a.B ++ r) ∧ a.bc = 64 + r.length ∧ 64 + r.length ≤ 9223372036854775807
  bl : a.B.length = 64
  bn : a.bn = 64
  p : 0 ≤ a.page ∧ a.page < 65536
theorem RMade.ok {w : World} {B0 : Nat} {a : ChV} (h : RMade w B0 a) : ChOk w a := by
  obtain ⟨g, r, hg, _, hW, hc, hm⟩ := h.b
  refine ⟨by have := h.p; omega, by have := h.p; omega, ?_⟩
  rw [hg, h.bn, hc]
  exact Bs.of_whole hW h.bl (by rw [List.take_left' (by rw [bts_len, h.bl])]) (by omega) hm
theorem RMade.chg {w w' : World} {B0 : Nat} {a : ChV} {T : List Nat} (h : RMade w B0 a) (hc : Chg T w w') (hT : ∀ i ∈ T, i < B0 ∨ w.heap.size ≤ i) : RMade w' B0 a := by
  obtain ⟨g, r, hg, hB, hW, hr⟩ := h.b
  exact { h with b := ⟨g, r, hg, hB, hW.chg hc (fun hm => by have := hT g hm; have := hW.lt; omega), hr⟩ }
theorem chs_own' {w : World} {B n : Nat} {e : TypeId} {v : Value} {l : List ChV} (h : w.ownsRow B e 2 v n (chCs l)) (hok : ∀ a ∈ l, ChOk w a) :
    ∃ A c, v = .slice A n c ∧ l.length = n ∧ Chs w A l ∧ n ≤ 9223372036854775807 ∧ n ≤ c ∧ (∀ ad, A = some ad → ad.spot = none) := by
  have hl : l.length = n := by have := h.1; rw [chCs_len] at this; omega
  rcases h.2 with ⟨rfl, rfl⟩ | ⟨g, cap, cur, rfl, hb, hg, hn, hc, hs, ht⟩
  · exact ⟨none, 0, rfl, hl, ⟨fun h => absurd h (by omega), hok⟩, by omega, Nat.le_refl _, fun ad e => by cases e⟩
  · have hgl : g < w.heap.size := by
      rcases Nat.lt_or_ge g w.heap.size with hlt | hge
      · exact hlt
      · rw [Array.getElem?_eq_none hge] at hg; cases hg
    refine ⟨_, cap, rfl, hl, ⟨fun _ => ⟨g, 0, rfl, hgl, fun k a ha => ?_⟩, hok⟩, by unfold maxLen at hc; omega, hn, fun ad e => by injection e with e; subst e; rfl⟩
    have hx : ∀ j u, (chCs l)[j]? = some u → w.cell? ((⟨g, 0, none⟩ : Addr).add j) = some u := h.cells rfl
    have q : ∀ j, j < 2 → ∀ u, (chC a)[j]? = some u → w.cell? ⟨g, k * 2 + j, none⟩ = some u := fun j hj u hu => by
      have := hx (k * 2 + j) u ((chCs_get l k a j ha hj).trans hu)
      rwa [add_plain, Nat.zero_add] at this
    simp only [Nat.zero_add]
    exact ⟨q 0 (by omega) _ rfl, q 1 (by omega) _ rfl⟩
theorem MadeCh.rmade {w : World} {B0 : Nat} {a : ChV} (h : MadeCh w B0 a) : RMade w B0 a := by
  obtain ⟨g, hg, hB, hW⟩ := h.b
  exact ⟨⟨g, [], hg, hB, by rw [List.append_nil]; exact hW, by rw [h.bc]; rfl, by simp⟩, h.bl, h.bn, h.p⟩
end Go.Proofs.Ytnohfdojcdhfoaa
namespace Go.Proofs.Ytnohfdojcdhfoaa
open Go.RowKit
/-- What lies below B stays, but for the blocks of T. -/
structure Lo (B : Nat) (T : List Nat) (a b : World) : Prop where
  os : b.os = a.os
  tape : b.tape = a.tape
  output : b.output = a.output
  size : a.heap.size ≤ b.heap.size
  block : ∀ k, k < B → k < a.heap.size → k ∉ T → b.heap[k]? = a.heap[k]?
theorem Lo.of_chg {B : Nat} {T T' : List Nat} {a b : World} (h : Chg T' a b) (hT : ∀ i ∈ T', B ≤ i ∨ i ∈ T) : Lo B T a b :=
  ⟨h.os, h.tape, h.output, h.size, fun k hB hk hn => h.block k hk fun hm => by rcases hT k hm with h | h; omega; exact hn h⟩
theorem Lo.refl (B : Nat) (T : List Nat) (a : World) : Lo B T a a := Lo.of_chg (Chg.refl [] a) fun i hi => by cases hi
theorem Lo.trans {B : Nat} {T : List Nat} {a b c : World} (h : Lo B T a b) (k : Lo B T b c) : Lo B T a c :=
  ⟨k.os.trans h.os, k.tape.trans h.tape, k.output.trans h.output, Nat.le_trans h.size k.size, fun i hB hi hn => (k.block i hB (Nat.lt_of_lt_of_le hi h.size) hn).trans (h.block i hB hi hn)⟩
theorem Lo.chg {B : Nat} {T : List Nat} {w a b : World} (h0 : Chg [] w a) (h : Lo B T a b) (hB : w.heap.size ≤ B) (hT : ∀ i ∈ T, w.heap.size ≤ i) : Chg [] w b :=
  ⟨h.os.trans h0.os, h.tape.trans h0.tape, h.output.trans h0.output, Nat.le_trans h0.size h.size, fun k hk _ => (h.block k (by omega) (Nat.lt_of_lt_of_le hk h0.size) fun hm => by have := hT k hm; omega).trans (h0.block k hk (by simp))⟩
theorem Lo.of_grown {B B2 e k n : Nat} {T : List Nat} {v : Value} {xs : List Value} {a b : World} (ho : a.ownsRow B2 e k v n xs) (hB : B ≤ B2) (hg : a.grownBy b v.ownBlock) : Lo B T a b :=
  ⟨hg.os, hg.tape, hg.output, hg.size, fun i hi hk _ => hg.block i hk fun hc => by have := (ho.lt i hc.symm).1; omega⟩
/-- Numbers, as cells. -/
def nts (l : List Nat) : List Value := l.map fun k : Nat => Value.int .i64 (k : Int)
theorem nts_len (l : List Nat) : (nts l).length = l.length := by simp [nts]
theorem nts_app (l m : List Nat) : nts (l ++ m) = nts l ++ nts m := by simp [nts]
theorem nms_set (l : List Int) (i : Nat) (x : Int) : (nms l).set i (.int .i64 x) = nms (l.set i x) := by simp [nms]
/-- A part, and the row of its left ones. -/
structure PV where
  p : NPart
  v : Value
def pvC (x : PV) : List Value := [.bool x.p.loop, .int .i64 (x.p.at_ : Int), .int .i64 (x.p.waits : Int), x.v]
def pvCs : List PV → List Value
  | [] => []
  | x :: l => pvC x ++ pvCs l
theorem pvCs_len : ∀ l, (pvCs l).length = l.length * 4
  | [] => rfl
  | x :: l => by rw [pvCs, List.length_append, pvCs_len l]; simp [pvC]; omega
theorem pvCs_app : ∀ l m, pvCs (l ++ m) = pvCs l ++ pvCs m
  | [], _ => rfl
  | x :: l, m => by rw [List.cons_append, pvCs, pvCs, pvCs_app l m, List.append_assoc]
theorem pvCs_one (x : PV) : pvCs [x] = pvC x := by simp [pvCs]
theorem pvCs_get : ∀ (l : List PV) (k : Nat) (x : PV) (j : Nat), l[k]? = some x → j < 4 → (pvCs l)[k * 4 + j]? = (pvC x)[j]?
  | [], k, x, j, h, hj => by simp at h
  | y :: l, 0, x, j, h, hj => by
    simp at h; subst h
    rw [pvCs, List.getElem?_append_left (by simp [pvC]; omega)]
    congr 1; omega
  | y :: l, k + 1, x, j, h, hj => by
    simp at h
    rw [pvCs, List.getElem?_append_right (by simp [pvC]; omega)]
    rw [← pvCs_get l k x j h hj]
    congr 1; simp [pvC]; omega
/-- What a match has in memory: the outer parts first. -/
structure Mt (W : World) (gm gt B n : Nat) (m : NSt) (vo : Value) (xs : List PV) : Prop where
  rec_ : Whole W gm 157 [.slice (some ⟨gt, 0, none⟩) n n, .int .i64 (m.deep : Int), vo]
  to_ : Whole W gt 3 (nms m.tO)
  len : m.tO.length = n
  op : m.op = (xs.map (·.p)).reverse
  own : W.ownsRow B 169 4 vo xs.length (pvCs xs)
  left : ∀ x ∈ xs, W.ownsRow B 3 1 x.v x.p.left.length (nts x.p.left)
  apart : xs.Pairwise fun x y => x.v.ownBlock = none ∨ x.v.ownBlock ≠ y.v.ownBlock
  lo : gm < B ∧ gt < B ∧ gm ≠ gt
  few : xs.length ≤ 16
  deep : m.deep ≤ 16
  wf : ∀ x ∈ xs, x.p.at_ < n ∧ x.p.waits < n ∧ x.p.left.length ≤ n ∧ ∀ j ∈ x.p.left, j < n
  big : n ≤ 100000
  room : B ≤ W.heap.size
theorem size_set (W : World) (p : Addr) (u : Value) : (W.setCell p u).heap.size = W.heap.size := by simp [World.setCell]
section
variable {W W' : World} {gm gt B n : Nat} {m : NSt} {vo : Value} {xs : List PV}
theorem Mt.keep (h : Mt W gm gt B n m vo xs) (hc : Chg [] W W') : Mt W' gm gt B n m vo xs :=
  { h with rec_ := h.rec_.keep hc, to_ := h.to_.keep hc, own := rown_keep h.own hc, left := fun x hx => own_keep (h.left x hx) hc, room := Nat.le_trans h.room hc.size }
theorem rown_set {e k q g c j : Nat} {u : Value} {cs : List Value} (h : W.ownsRow B e k (.slice (some ⟨g, 0, none⟩) q c) q cs) : (W.setCell ⟨g, j, none⟩ u).ownsRow B e k (.slice (some ⟨g, 0, none⟩) q c) q (cs.set j u) := by
  refine ⟨by rw [List.length_set]; exact h.1, ?_⟩
  rcases h.2 with ⟨h', _⟩ | ⟨g', cap, cur, h', hb, hg, hn, hc, hs, ht⟩
  · cases h'
  · injection h' with h1 _ h3
    injection h1 with h1
    injection h1 with h1
    subst h1
    subst h3
    refine .inr ⟨g, c, cur.setIfInBounds j u, rfl, hb, ?_, hn, hc, by simpa using hs, ?_⟩
    · have := heap_setCell_same W g j cur e u hg
      simpa using this
    · rw [Array.toList_setIfInBounds, List.take_set, ht]
theorem rown_frozen {e k q g c j : Nat} {cs : List Value} (h : W.ownsRow B e k (.slice (some ⟨g, 0, none⟩) q c) q cs) : W.frozen? ⟨g, j, none⟩ = false := by
  rcases h.2 with ⟨h', _⟩ | ⟨g', cap, cur, h', hb, hg, hn, hc, hs, ht⟩
  · cases h'
  · injection h' with h1 _ h3
    injection h1 with h1
    injection h1 with h1
    subst h1
    exact frozen_of_row W g j cur e hg
theorem rown_far {e k q : Nat} {v u : Value} {cs : List Value} {p : Addr} (h : W.ownsRow B e k v q cs) (hp : v.ownBlock ≠ some p.block) : (W.setCell p u).ownsRow B e k v q cs := by
  refine ⟨h.1, h.2.imp id ?_⟩
  rintro ⟨g, cap, cur, rfl, hb, hg, r⟩
  exact ⟨g, cap, cur, rfl, hb, (Below.heap_setCell W p u g (fun hc => hp (by rw [← hc]; rfl))).trans hg, r⟩
theorem own_ne {B2 e k q e2 k2 q2 : Nat} {v v2 : Value} {cs cs2 : List Value} (h : W.ownsRow B e k v q cs) (h2 : W.ownsRow B2 e2 k2 v2 q2 cs2) (hne : e ≠ e2) {g : Nat} (hg : v.ownBlock = some g) : v2.ownBlock ≠ some g := by
  intro hg2
  rcases h.2 with ⟨rfl, _⟩ | ⟨a, cap, cur, rfl, _, ha, _⟩
  · cases hg
  rcases h2.2 with ⟨rfl, _⟩ | ⟨b, cap2, cur2, rfl, _, hb, _⟩
  · cases hg2
  injection hg with hg
  injection hg2 with hg2
  simp only at hg hg2
  rw [hg] at ha
  rw [hg2] at hb
  rw [ha] at hb
  injection hb with hb
  injection hb with _ hb _
  exact hne hb
theorem rown_take {e k q q' : Nat} {A : Option Addr} {c : Nat} {cs : List Value} (h : W.ownsRow B e k (.slice A q c) q cs) (hq : q' ≤ q) (h0 : A ≠ none) : W.ownsRow B e k (.slice A q' c) q' (cs.take (q' * k)) := by
  have hl := h.1
  refine ⟨by rw [List.length_take, hl]; exact Nat.min_eq_left (Nat.mul_le_mul_right _ hq), ?_⟩
  rcases h.2 with ⟨h', _⟩ | ⟨g', cap, cur, h', hb, hg, hn, hc, hs, ht⟩
  · injection h' with h1; exact absurd h1 h0
  · injection h' with h1 _ h3
    subst h1
    subst h3
    exact .inr ⟨g', c, cur, rfl, hb, hg, by omega, hc, hs, by rw [← ht, List.take_take, Nat.min_eq_left (Nat.mul_le_mul_right _ hq)]⟩
/-- A place of 'to' is written. -/
theorem Mt.poke (h : Mt W gm gt B n m vo xs) (j : Nat) (x : Int) : Mt (W.setCell ⟨gt, j, none⟩ (.int .i64 x)) gm gt B n ⟨m.tO.set j x, m.deep, m.op⟩ vo xs := by
  have hown : ∀ {e k q : Nat} {v : Value} {cs : List Value}, W.ownsRow B e k v q cs → v.ownBlock ≠ some gt := fun ho hc => by
    have := (ho.lt gt hc).1; have := h.lo; omega
  refine { h with rec_ := h.rec_.far (by simpa using h.lo.2.2) _, to_ := ?_, len := by rw [List.length_set]; exact h.len, own := rown_far h.own (hown h.own), left := fun y hy => rown_far (h.left y hy) (hown (h.left y hy)), room := by rw [size_set]; exact h.room }
  have := h.to_.set_ j (.int .i64 x)
  rwa [nms_set] at this
/-- The innermost part waits elsewhere. -/
theorem Mt.waits {ys : List PV} {x : PV} {g c q : Nat} (h : Mt W gm gt B n m vo (ys ++ [x])) (hv : vo = .slice (some ⟨g, 0, none⟩) q c) (i : Nat) (hi : i < n) :
    Mt (W.setCell ⟨g, ys.length * 4 + 2, none⟩ (.int .i64 (i : Int))) gm gt B n ⟨m.tO, m.deep, ⟨x.p.loop, x.p.at_, i, x.p.left⟩ :: (ys.map (·.p)).reverse⟩ vo (ys ++ [⟨⟨x.p.loop, x.p.at_, i, x.p.left⟩, x.v⟩]) := by
  subst hv
  have hq : q = (ys ++ [x]).length := by
    rcases h.own.2 with ⟨e, _⟩ | ⟨_, _, _, e, _⟩
    · cases e
    · injection e
  subst hq
  have hB := (h.own.lt g rfl).1
  have hlo := h.lo
  refine ⟨h.rec_.far (by simp only; omega) _, h.to_.far (by simp only; omega) _, h.len, by simp, ?_, fun y hy => ?_, ?_, h.lo, by have := h.few; simpa using this, h.deep, fun y hy => ?_, h.big, by rw [size_set]; exact h.room⟩
  · have ho := rown_set (j := ys.length * 4 + 2) (u := .int .i64 (i : Int)) h.own
    have e1 : (ys ++ [(⟨⟨x.p.loop, x.p.at_, i, x.p.left⟩, x.v⟩ : PV)]).length = (ys ++ [x]).length := by simp
    have e2 : (pvCs (ys ++ [x])).set (ys.length * 4 + 2) (.int .i64 (i : Int)) = pvCs (ys ++ [⟨⟨x.p.loop, x.p.at_, i, x.p.left⟩, x.v⟩]) := by
      rw [pvCs_app, pvCs_app, pvCs_one, pvCs_one, List.set_append_right _ _ (by rw [pvCs_len]; omega), pvCs_len]
      rw [show ys.length * 4 + 2 - ys.length * 4 = 2 by omega]
      rfl
    rw [e1, ← e2]
    exact ho
  · rcases List.mem_append.1 hy with hy | hy
    · exact rown_far (h.left y (List.mem_append_left _ hy)) (own_ne h.own (h.left y (List.mem_append_left _ hy)) (by decide) rfl)
    · simp only [List.mem_cons, List.not_mem_nil, or_false] at hy
      subst hy
      have hx := h.left x (by simp)
      exact rown_far hx (own_ne h.own hx (by decide) rfl)
  · have := h.apart
    rw [List.pairwise_append] at this ⊢
    refine ⟨this.1, List.pairwise_singleton _ _, fun y hy z hz => ?_⟩
    simp only [List.mem_cons, List.not_mem_nil, or_false] at hz
    subst hz
    exact this.2.2 y hy x (by simp)
  · rcases List.mem_append.1 hy with hy | hy
    · exact h.wf y (List.mem_append_left _ hy)
    · simp only [List.mem_cons, List.not_mem_nil, or_false] at hy
      subst hy
      have := h.wf x (by simp)
      exact ⟨this.1, hi, this.2.2⟩
/-- The innermost part is taken away. -/
theorem Mt.drop {ys : List PV} {x : PV} {A : Option Addr} {c q : Nat} (h : Mt W gm gt B n m vo (ys ++ [x])) (hv : vo = .slice A q c) :
    Mt (W.setCell ⟨gm, 2, none⟩ (.slice A ys.length c)) gm gt B n ⟨m.tO, m.deep, (ys.map (·.p)).reverse⟩ (.slice A ys.length c) ys := by
  subst hv
  have hq : q = (ys ++ [x]).length := by
    rcases h.own.2 with ⟨e, e2⟩ | ⟨_, _, _, e, _⟩
    · injection e with _ e _; rw [e2, e]
    · injection e
  subst hq
  have hA : A ≠ none := by
    rintro rfl
    rcases h.own.2 with ⟨e, _⟩ | ⟨_, _, _, e, _⟩
    · injection e with _ e _; simp at e
    · injection e with e _; cases e
  have hown : ∀ {e k q : Nat} {v : Value} {cs : List Value}, W.ownsRow B e k v q cs → v.ownBlock ≠ some gm := fun ho hc => by
    have := (ho.lt gm hc).1; have := h.lo; omega
  have ht := rown_take (q' := ys.length) h.own (by simp) hA
  have e2 : (pvCs (ys ++ [x])).take (ys.length * 4) = pvCs ys := by rw [pvCs_app, ← pvCs_len, List.take_left]
  rw [e2] at ht
  refine ⟨?_, h.to_.far (by simpa using Ne.symm h.lo.2.2) _, h.len, rfl, rown_far ht (hown ht), fun y hy => ?_, ?_, h.lo, by have := h.few; simp at this; omega, h.deep, fun y hy => h.wf y (List.mem_append_left _ hy), h.big, by rw [size_set]; exact h.room⟩
  · have := h.rec_.set_ 2 (.slice A ys.length c)
    simpa using this
  · have := h.left y (List.mem_append_left _ hy)
    exact rown_far this (hown this)
  · exact (List.pairwise_append.1 h.apart).1
end
end Go.Proofs.Ytnohfdojcdhfoaa
namespace Go.Proofs.Ytnohfdojcdhfoaa
open Go.RowKit
structure Fr (B : Nat) (TS : List TypeId) (a b : World) : Prop where
  os : b.os = a.os
  tape : b.tape = a.tape
  output : b.output = a.output
  size : a.heap.size ≤ b.heap.size
  block : ∀ k, k < a.heap.size → (k < B ∨ ∀ cs t fz, a.heap[k]? = some (.cells cs t fz) → t ∉ TS) → b.heap[k]? = a.heap[k]?
section
variable {B : Nat} {TS : List TypeId} {a b c : World}
theorem Fr.refl (B : Nat) (TS : List TypeId) (a : World) : Fr B TS a a := ⟨rfl, rfl, rfl, Nat.le_refl _, fun _ _ _ => rfl⟩
theorem Fr.trans (h : Fr B TS a b) (k : Fr B TS b c) : Fr B TS a c := by
  refine ⟨k.os.trans h.os, k.tape.trans h.tape, k.output.trans h.output, Nat.le_trans h.size k.size, fun i hi hc => ?_⟩
  have h1 := h.block i hi hc
  rw [← h1]
  refine k.block i (Nat.lt_of_lt_of_le hi h.size) ?_
  rw [h1]
  exact hc
theorem Fr.of_chg (h : Chg [] a b) : Fr B TS a b := ⟨h.os, h.tape, h.output, h.size, fun k hk _ => h.block k hk (by simp)⟩
theorem Fr.new (h : Fr B TS a b) (k : Chg [] b c) : Fr B TS a c := h.trans (Fr.of_chg k)
theorem Fr.sub {B' : Nat} {TS' : List TypeId} (h : Fr B TS a b) (hB : B' ≤ B) (hT : ∀ t, t ∈ TS → t ∈ TS') : Fr B' TS' a b :=
  ⟨h.os, h.tape, h.output, h.size, fun k hk hc => h.block k hk (hc.imp (fun h => Nat.lt_of_lt_of_le h hB) (fun h cs t fz e ht => h cs t fz e (hT t ht)))⟩
theorem Fr.chg (h : Fr B TS a b) (hB : a.heap.size ≤ B) : Chg [] a b := ⟨h.os, h.tape, h.output, h.size, fun k hk _ => h.block k hk (.inl (Nat.lt_of_lt_of_le hk hB))⟩
theorem Fr.set (h : Fr B TS a b) {p : Addr} (hp : B ≤ p.block) {cs : Array Value} {t : TypeId} {fz : Nat × Nat} (hb : b.heap[p.block]? = some (.cells cs t fz)) (ht : t ∈ TS) (u : Value) : Fr B TS a (b.setCell p u) := by
  refine h.trans ⟨rfl, rfl, rfl, ?_, fun k hk hc => ?_⟩
  · rw [size_set]; exact Nat.le_refl _
  · refine Below.heap_setCell b p u k (fun e => ?_)
    subst e
    rcases hc with h1 | h1
    · omega
    · exact h1 cs t fz hb ht
theorem Fr.setw (h : Fr B TS a b) {g j t : Nat} {cs : List Value} (hW : Whole b g t cs) (hp : B ≤ g) (ht : t ∈ TS) (u : Value) : Fr B TS a (b.setCell ⟨g, j, none⟩ u) := h.set (p := ⟨g, j, none⟩) hp hW ht u
theorem Fr.seto (h : Fr B TS a b) {g j B2 k n m e : Nat} {xs : List Value} {cap : Nat} (ho : b.ownsRow B2 e k (.slice (some ⟨g, 0, none⟩) n cap) m xs) (hB : B ≤ B2) (ht : e ∈ TS) (u : Value) : Fr B TS a (b.setCell ⟨g, j, none⟩ u) := by
  rcases ho.2 with ⟨e', _⟩ | ⟨g', cap', cur, e', hb, hg, _⟩
  · cases e'
  · injection e' with e1 _ _
    injection e1 with e1
    injection e1 with e1
    subst e1
    exact h.set (p := ⟨g, j, none⟩) (Nat.le_trans hB hb) hg ht u
theorem Fr.grown (h : Fr B TS a b) {B2 k n e : Nat} {v : Value} {xs : List Value} (ho : b.ownsRow B2 e k v n xs) (hB : B ≤ B2) (ht : e ∈ TS) (hg : b.grownBy c v.ownBlock) : Fr B TS a c := by
  refine h.trans ⟨hg.os, hg.tape, hg.output, hg.size, fun i hi hc => hg.block i hi (fun hr => ?_)⟩
  rcases ho.2 with ⟨rfl, _⟩ | ⟨g', cap', cur, rfl, hb, hgb, _⟩
  · simp [Value.ownBlock] at hr
  · simp [Value.ownBlock] at hr
    subst hr
    rcases hc with h1 | h1
    · omega
    · exact h1 _ _ _ hgb ht
theorem Fr.whole (h : Fr B TS a b) {g t : Nat} {cs : List Value} (hW : Whole a g t cs) (ht : t ∉ TS) : Whole b g t cs :=
  (h.block g hW.lt (.inr fun _ _ _ e => by rw [show a.heap[g]? = _ from hW] at e; injection e with e; injection e with _ e2 _; subst e2; exact ht)).trans hW
theorem Fr.wholeB (h : Fr B TS a b) {g t : Nat} {cs : List Value} (hW : Whole a g t cs) (hg : g < B) : Whole b g t cs := (h.block g hW.lt (.inl hg)).trans hW
theorem Fr.obj (h : Fr B TS a b) {k : Nat} {o : Obj} (ho : a.heap[k]? = some o) (hn : ∀ cs t fz, o ≠ .cells cs t fz) : b.heap[k]? = some o := by
  have hk : k < a.heap.size := by
    rcases Nat.lt_or_ge k a.heap.size with h | h
    · exact h
    · rw [Array.getElem?_eq_none h] at ho; cases ho
  rw [h.block k hk (.inr fun cs t fz e => by rw [ho] at e; injection e with e; exact absurd e (hn cs t fz)), ho]
theorem Fr.own (h : Fr B TS a b) {B2 k n e : Nat} {v : Value} {xs : List Value} (ho : a.ownsRow B2 e k v n xs) (ht : e ∉ TS) : b.ownsRow B2 e k v n xs := by
  refine ⟨ho.1, ?_⟩
  rcases ho.2 with h1 | ⟨g, cap, cur, rfl, hb, hg, r⟩
  · exact .inl h1
  · refine .inr ⟨g, cap, cur, rfl, hb, ?_, r⟩
    have hlt : g < a.heap.size := by
      rcases Nat.lt_or_ge g a.heap.size with h | h
      · exact h
      · rw [Array.getElem?_eq_none h] at hg; cases hg
    exact (h.block g hlt (.inr fun _ _ _ e => by rw [hg] at e; injection e with e; injection e with _ e2 _; subst e2; exact ht)).trans hg
end
end Go.Proofs.Ytnohfdojcdhfoaa
namespace Go.Proofs.Ytnohfdojcdhfoaa
open Go.RowKit

theorem i64_and63 (n : Int) : bits .and .i64 n 63 = n % 64 := by
  have h127 : (BitVec.ofInt 64 63).toNat = 2 ^ 6 - 1 := by decide
  have key : (BitVec.ofInt 64 n &&& BitVec.ofInt 64 63).toNat = (n % ((2 ^ 64 : Nat) : Int)).toNat % 2 ^ 6 := by
    rw [BitVec.toNat_and, BitVec.toNat_ofInt, h127, Nat.and_two_pow_sub_one_eq_mod]
  show IntKind.i64.wrap ((BitVec.ofInt 64 n &&& BitVec.ofInt 64 63).toNat : Nat) = n % 64
  rw [key, IntKind.wrap_i64]
  omega
theorem i64_and255 (n : Int) : bits .and .i64 n 255 = n % 256 := by
  have h127 : (BitVec.ofInt 64 255).toNat = 2 ^ 8 - 1 := by decide
  have key : (BitVec.ofInt 64 n &&& BitVec.ofInt 64 255).toNat = (n % ((2 ^ 64 : Nat) : Int)).toNat % 2 ^ 8 := by
    rw [BitVec.toNat_and, BitVec.toNat_ofInt, h127, Nat.and_two_pow_sub_one_eq_mod]
  show IntKind.i64.wrap ((BitVec.ofInt 64 n &&& BitVec.ofInt 64 255).toNat : Nat) = n % 256
  rw [key, IntKind.wrap_i64]
  omega
theorem i64_and7 (n : Int) : bits .and .i64 n 7 = n % 8 := by
  have h127 : (BitVec.ofInt 64 7).toNat = 2 ^ 3 - 1 := by decide
  have key : (BitVec.ofInt 64 n &&& BitVec.ofInt 64 7).toNat = (n % ((2 ^ 64 : Nat) : Int)).toNat % 2 ^ 3 := by
    rw [BitVec.toNat_and, BitVec.toNat_ofInt, h127, Nat.and_two_pow_sub_one_eq_mod]
  show IntKind.i64.wrap ((BitVec.ofInt 64 n &&& BitVec.ofInt 64 7).toNat : Nat) = n % 8
  rw [key, IntKind.wrap_i64]
  omega

/-- A number's bits. -/
def U (n : Int) : BitVec 64 := BitVec.ofInt 64 n
theorem toInt_wrap (x : BitVec 64) : IntKind.i64.wrap (x.toNat : Int) = x.toInt := by
  have h := x.isLt
  rw [IntKind.wrap_i64, BitVec.toInt_eq_toNat_cond]
  split <;> omega
theorem and_U (a b : Int) : bits .and .i64 a b = (U a &&& U b).toInt := toInt_wrap _
theorem or_U (a b : Int) : bits .or .i64 a b = (U a ||| U b).toInt := toInt_wrap _
theorem xor_U (a b : Int) : bits .xor .i64 a b = (U a ^^^ U b).toInt := toInt_wrap _
theorem U_toInt (x : BitVec 64) : U x.toInt = x := BitVec.ofInt_toInt
def In64 (a : Int) : Prop := -9223372036854775808 ≤ a ∧ a ≤ 9223372036854775807
theorem toInt_U {a : Int} (h : In64 a) : (U a).toInt = a := by
  obtain ⟨h1, h2⟩ := h
  unfold U
  rw [BitVec.toInt_ofInt, Int.bmod_def]
  split <;> omega
theorem toInt_in (x : BitVec 64) : In64 x.toInt := by
  have h := x.isLt
  unfold In64
  rw [BitVec.toInt_eq_toNat_cond]
  split <;> omega
theorem xor_back {a b : Int} (h : In64 a) : bits .xor .i64 (bits .xor .i64 a b) b = a := by
  rw [xor_U, xor_U, U_toInt, BitVec.xor_assoc, BitVec.xor_self, BitVec.xor_zero, toInt_U h]

theorem wrap64_mod (x : Int) : wrap64 x % 18446744073709551616 = x % 18446744073709551616 := by unfold wrap64; omega
theorem wrap64_congr {x y : Int} (h : x % 18446744073709551616 = y % 18446744073709551616) : wrap64 x = wrap64 y := by unfold wrap64; omega
theorem wrap64_in64 (x : Int) : In64 (wrap64 x) := by unfold In64 wrap64; omega
theorem wrap64_id {x : Int} (h : In64 x) : wrap64 x = x := IntWalk.wrap64_in x h
theorem U_mod {x y : Int} (h : x % 18446744073709551616 = y % 18446744073709551616) : U x = U y := by
  unfold U
  apply BitVec.eq_of_toNat_eq
  rw [BitVec.toNat_ofInt, BitVec.toNat_ofInt]
  show (x % 18446744073709551616).toNat = (y % 18446744073709551616).toNat
  rw [h]
/-- What + takes, - gives back. -/
theorem sub_back {a : Int} (b : Int) (h : In64 a) : wrap64 (wrap64 (a + b) - b) = a := by
  rw [wrap64_congr (y := a) (by have := wrap64_mod (a + b); omega), wrap64_id h]
/-- Quotient and rest give the number back. -/
theorem quo_back {a : Int} (b : Int) (h : In64 a) : wrap64 (wrap64 (wrap64 (a.tdiv b) * b) + a.tmod b) = a := by
  have e1 : (wrap64 (a.tdiv b) * b) % 18446744073709551616 = (a.tdiv b * b) % 18446744073709551616 := by
    rw [Int.mul_emod, wrap64_mod, ← Int.mul_emod]
  have e2 := wrap64_mod (wrap64 (a.tdiv b) * b)
  have e3 : a.tdiv b * b + a.tmod b = a := Int.tdiv_mul_add_tmod a b
  generalize wrap64 (wrap64 (a.tdiv b) * b) = X at *
  generalize wrap64 (a.tdiv b) * b = Y at *
  generalize a.tdiv b * b = Z at *
  rw [wrap64_congr (y := a) (by omega), wrap64_id h]
theorem tmod_bd (a : Int) : -1000 < a.tmod 1000 ∧ a.tmod 1000 < 1000 := ⟨Int.lt_tmod_of_pos a (by omega), Int.tmod_lt_of_pos a (by omega)⟩
theorem shift_back (a : Int) : wrap64 (a.tmod 1000 * 1099511627776) / 1099511627776 = a.tmod 1000 := by
  obtain ⟨h1, h2⟩ := tmod_bd a
  generalize a.tmod 1000 = r at *
  rw [wrap64_id (by unfold In64; omega)]
  omega
theorem bv_and_or (x y : BitVec 64) : (x &&& y) + (x ||| y) = x + y := by
  have h1 : x ||| y = x + (y &&& ~~~x) := by
    rw [BitVec.add_eq_or_of_and_eq_zero x (y &&& ~~~x) (by ext i; simp; intro a b; exact a)]
    ext i hi
    simp
    cases x[i] <;> simp
  have h2 : y = (x &&& y) + (y &&& ~~~x) := by
    rw [BitVec.add_eq_or_of_and_eq_zero (x &&& y) (y &&& ~~~x) (by ext i; simp; intro a b; exact a)]
    ext i hi
    simp
    cases x[i] <;> cases y[i] <;> rfl
  rw [h1, ← BitVec.add_assoc, BitVec.add_comm (x &&& y) x, BitVec.add_assoc, ← h2]
/-- and, or: together the sum. -/
theorem and_or (a b : Int) : wrap64 (bits .and .i64 a b + bits .or .i64 a b) = wrap64 (a + b) := by
  have key : (U a &&& U b) + (U a ||| U b) = U a + U b := by
    exact bv_and_or _ _
  have h1 : ∀ x y : BitVec 64, wrap64 (x.toInt + y.toInt) = (x + y).toInt := by
    intro x y
    rw [BitVec.toInt_add, Int.bmod_def]; unfold wrap64
    split <;> omega
  have h2 : ∀ n : Int, (U n).toInt = wrap64 n := by
    intro n; rw [U_mod (x := n) (y := wrap64 n) (wrap64_mod n).symm, toInt_U (wrap64_in64 n)]
  rw [and_U, or_U, h1, key, ← h1, h2, h2]
  apply wrap64_congr
  have := wrap64_mod a; have := wrap64_mod b
  omega
/-- A bit. -/
def bitI (n : Int) (k : Nat) : Int := if (U n).getLsbD k then 1 else 0
theorem bitI_is (n : Int) (k : Nat) : (n % 18446744073709551616) / 2 ^ k % 2 = bitI n k := by
  have e : (U n).getLsbD k = (n % 18446744073709551616).toNat.testBit k := by
    unfold U; rw [BitVec.getLsbD, BitVec.toNat_ofInt]; rfl
  unfold bitI
  rw [e]
  obtain ⟨X, hX⟩ := Int.eq_ofNat_of_zero_le (Int.emod_nonneg n (show (18446744073709551616 : Int) ≠ 0 by decide))
  rw [hX, Int.toNat_natCast, Nat.testBit_eq_decide_div_mod_eq]
  have hd : ((X : Int) / 2 ^ k % 2) = ((X / 2 ^ k % 2 : Nat) : Int) := by simp
  rw [hd]
  have h2 : X / 2 ^ k % 2 = 0 ∨ X / 2 ^ k % 2 = 1 := by omega
  rcases h2 with h2 | h2 <;> simp [h2]
theorem bitI_01 (n : Int) (k : Nat) : bitI n k = 0 ∨ bitI n k = 1 := by unfold bitI; split <;> simp
theorem bitI_and (a b : Int) (k : Nat) : bitI (bits .and .i64 a b) k = bitI a k * bitI b k := by
  unfold bitI; rw [and_U, U_toInt, BitVec.getLsbD_and]
  cases (U a).getLsbD k <;> cases (U b).getLsbD k <;> rfl
theorem bitI_or (a b : Int) (k : Nat) : bitI (bits .or .i64 a b) k = max (bitI a k) (bitI b k) := by
  unfold bitI; rw [or_U, U_toInt, BitVec.getLsbD_or]
  cases (U a).getLsbD k <;> cases (U b).getLsbD k <;> decide
theorem bitI_xor (a b : Int) (k : Nat) : bitI (bits .xor .i64 a b) k = (bitI a k + bitI b k) % 2 := by
  unfold bitI; rw [xor_U, U_toInt, BitVec.getLsbD_xor]
  cases (U a).getLsbD k <;> cases (U b).getLsbD k <;> rfl
theorem u64_and1 (n : Int) : bits .and .u64 n 1 = n % 2 := by
  have h1 : (BitVec.ofInt 64 1).toNat = 2 ^ 1 - 1 := by decide
  have key : (BitVec.ofInt 64 n &&& BitVec.ofInt 64 1).toNat = (n % ((2 ^ 64 : Nat) : Int)).toNat % 2 ^ 1 := by
    rw [BitVec.toNat_and, BitVec.toNat_ofInt, h1, Nat.and_two_pow_sub_one_eq_mod]
  show IntKind.u64.wrap ((BitVec.ofInt 64 n &&& BitVec.ofInt 64 1).toNat : Nat) = n % 2
  rw [key]
  simp [IntKind.wrap, IntKind.bits, IntKind.signed]
  omega
/-- What Do answers: the number, the trap. -/
def doR (s a b : Int) : Int × Int :=
  if s = 43 then (wrap64 (a + b), 0) else if s = 45 then (wrap64 (a - b), 0) else if s = 42 then (wrap64 (a * b), 0)
  else if s = 47 then (if b = 0 then (0, 3) else if a = -9223372036854775808 ∧ b = -1 then (0, 4) else (wrap64 (a.tdiv b), 0))
  else if s = 37 then (if b = 0 then (0, 3) else (a.tmod b, 0))
  else if s = 38 then (bits .and .i64 a b, 0) else if s = 124 then (bits .or .i64 a b, 0) else if s = 94 then (bits .xor .i64 a b, 0)
  else if s = 60 then (if a < b then 1 else 0, 0) else if s = 61 then (if a = b then 1 else 0, 0)
  else if s = 171 then (wrap64 (a * 2 ^ (b % 64).toNat), 0) else if s = 187 then (a / 2 ^ (b % 64).toNat, 0)
  else if s = 33 then (if a = 0 then 1 else 0, 0) else (0, 2)
theorem doR_none {s : Int} (a b : Int) (h : s ≠ 43 ∧ s ≠ 45 ∧ s ≠ 42 ∧ s ≠ 47 ∧ s ≠ 37 ∧ s ≠ 38 ∧ s ≠ 124 ∧ s ≠ 94 ∧ s ≠ 60 ∧ s ≠ 61 ∧ s ≠ 171 ∧ s ≠ 187 ∧ s ≠ 33) : doR s a b = (0, 2) := by
  obtain ⟨h1, h2, h3, h4, h5, h6, h7, h8, h9, h10, h11, h12, h13⟩ := h
  simp [doR, h1, h2, h3, h4, h5, h6, h7, h8, h9, h10, h11, h12, h13]
end Go.Proofs.Ytnohfdojcdhfoaa
namespace Go.Proofs.Ytnohfdojcdhfoaa
open Go.RowKit

/-- Byte i of a number. -/
def byteN (n : Int) (i : Nat) : UInt8 := UInt8.ofNat (n / 2 ^ (8 * i) % 256).toNat
theorem byteN_int (n : Int) (i : Nat) : ((byteN n i).toNat : Int) = n / 2 ^ (8 * i) % 256 := by
  unfold byteN
  rw [UInt8.toNat_ofNat']
  have h1 := Int.emod_nonneg (n / 2 ^ (8 * i)) (show (256 : Int) ≠ 0 by omega)
  have h2 := Int.emod_lt_of_pos (n / 2 ^ (8 * i)) (show (0 : Int) < 256 by omega)
  omega
/-- m bytes of n from k on. -/
def stL (L : List UInt8) (k : Nat) (n : Int) : Nat → List UInt8
  | 0 => L
  | m + 1 => (stL L k n m).set (k + m) (byteN n m)
def stV (V : List Bool) (k : Nat) : Nat → List Bool
  | 0 => V
  | m + 1 => (stV V k m).set ((k + m) / 64) true
theorem stL_len (L : List UInt8) (k : Nat) (n : Int) (m : Nat) : (stL L k n m).length = L.length := by
  induction m with
  | zero => rfl
  | succ m ih => rw [stL, List.length_set, ih]
theorem stV_len (V : List Bool) (k m : Nat) : (stV V k m).length = V.length := by
  induction m with
  | zero => rfl
  | succ m ih => rw [stV, List.length_set, ih]
theorem stL_get (L : List UInt8) (k : Nat) (n : Int) (m i : Nat) (hi : i < m) (h : k + m ≤ L.length) : (stL L k n m)[k + i]? = some (byteN n i) := by
  induction m with
  | zero => omega
  | succ m ih =>
    rw [stL, List.getElem?_set]
    by_cases e : m = i
    · subst e
      rw [if_pos rfl, if_pos (by rw [stL_len]; omega)]
    · rw [if_neg (by omega)]
      exact ih (by omega) (by omega)
/-- The number that bytes are, the lowest first. -/
def ldN : List UInt8 → Nat
  | [] => 0
  | b :: l => b.toNat + 256 * ldN l
theorem ldN_lt (l : List UInt8) : ldN l < 256 ^ l.length := by
  induction l with
  | nil => simp [ldN]
  | cons b l ih =>
    have h := b.toNat_lt
    rw [ldN, List.length_cons, Nat.pow_succ]
    omega
theorem ldN_next (L : List UInt8) (k j m : Nat) (h : k + j < L.length) (hm : 0 < m) : ldN ((L.drop (k + j)).take m) = (L[k + j]).toNat + 256 * ldN ((L.drop (k + j + 1)).take (m - 1)) := by
  obtain ⟨q, rfl⟩ : ∃ q, m = q + 1 := ⟨m - 1, by omega⟩
  rw [List.drop_eq_getElem_cons h, List.take_succ_cons, ldN]
  rfl
/-- What a Load tells. -/
def ldI (L : List UInt8) (k s : Nat) : Int := IntKind.i64.wrap (ldN ((L.drop k).take s) : Nat)
theorem ldI_one (L : List UInt8) (k : Nat) (b : UInt8) (h : L[k]? = some b) : ldI L k 1 = (b.toNat : Int) := by
  have hk := (List.getElem?_eq_some_iff.1 h).1
  have hb := (List.getElem?_eq_some_iff.1 h).2
  have e : ldN ((L.drop k).take 1) = L[k].toNat + 256 * ldN ((L.drop (k + 1)).take 0) := ldN_next L k 0 1 hk (by omega)
  have h0 : ldN ((L.drop (k + 1)).take 0) = 0 := rfl
  have hlt := b.toNat_lt
  unfold ldI
  rw [e, h0, hb, IntKind.wrap_i64]
  omega
theorem take8 (L : List UInt8) (k : Nat) (b0 b1 b2 b3 b4 b5 b6 b7 : UInt8) (h0 : L[k]? = some b0) (h1 : L[k + 1]? = some b1) (h2 : L[k + 2]? = some b2) (h3 : L[k + 3]? = some b3)
    (h4 : L[k + 4]? = some b4) (h5 : L[k + 5]? = some b5) (h6 : L[k + 6]? = some b6) (h7 : L[k + 7]? = some b7) : (L.drop k).take 8 = [b0, b1, b2, b3, b4, b5, b6, b7] := by
  apply List.ext_getElem?
  intro i
  rw [List.getElem?_take, List.getElem?_drop]
  match i with
  | 0 => simpa using h0
  | 1 => simpa using h1
  | 2 => simpa using h2
  | 3 => simpa using h3
  | 4 => simpa using h4
  | 5 => simpa using h5
  | 6 => simpa using h6
  | 7 => simpa using h7
  | i + 8 => simp; omega
/-- A wide number that was stored is loaded. -/
theorem ldI_st (L : List UInt8) (k : Nat) (n : Int) (hn : In64 n) (h : k + 8 ≤ L.length) : ldI (stL L k n 8) k 8 = n := by
  have g := fun i hi => stL_get L k n 8 i hi h
  have e := take8 (stL L k n 8) k _ _ _ _ _ _ _ _ (g 0 (by omega)) (g 1 (by omega)) (g 2 (by omega)) (g 3 (by omega)) (g 4 (by omega)) (g 5 (by omega)) (g 6 (by omega)) (g 7 (by omega))
  have q := byteN_int n
  have q0 := q 0; have q1 := q 1; have q2 := q 2; have q3 := q 3; have q4 := q 4; have q5 := q 5; have q6 := q 6; have q7 := q 7
  simp only [Nat.mul_zero, Nat.mul_one, Nat.reduceMul, Int.pow_zero, Int.ediv_one, Int.reducePow] at q0 q1 q2 q3 q4 q5 q6 q7
  obtain ⟨n1, n2⟩ := hn
  unfold ldI
  rw [e]
  simp only [ldN]
  rw [IntKind.wrap_i64]
  generalize (byteN n 0).toNat = c0 at *
  generalize (byteN n 1).toNat = c1 at *
  generalize (byteN n 2).toNat = c2 at *
  generalize (byteN n 3).toNat = c3 at *
  generalize (byteN n 4).toNat = c4 at *
  generalize (byteN n 5).toNat = c5 at *
  generalize (byteN n 6).toNat = c6 at *
  generalize (byteN n 7).toNat = c7 at *
  omega
theorem u64_shl_or (a : Nat) (b : UInt8) (ha : a < 72057594037927936) : bits .or .u64 ((a : Int) * 256) (b.toNat : Int) = ((b.toNat + 256 * a : Nat) : Int) := by
  have hb := b.toNat_lt
  have e := bits_or_u64_nat (a * 256) b.toNat (by omega) (by omega)
  have e1 : ((a * 256 : Nat) : Int) = (a : Int) * 256 := by omega
  rw [e1] at e
  rw [e]
  congr 1
  have h := Nat.shiftLeft_add_eq_or_of_lt (i := 8) (b := b.toNat) (by omega) a
  rw [Nat.shiftLeft_eq] at h
  have h256 : (2 : Nat) ^ 8 = 256 := rfl
  rw [h256] at h
  rw [← h]
  omega
end Go.Proofs.Ytnohfdojcdhfoaa
namespace Go.Proofs.Ytnohfdojcdhfoaa
open Go.RowKit

/-- A memory: its struct lies in block p, its bytes L in gC, what is dirty (V) in gD; X and Y are the spare room. -/
structure Mm (w : World) (p gC gD : Nat) (L : List UInt8) (X : List Value) (V : List Bool) (Y : List Value) (most : Nat) : Prop where
  rec_ : Whole w p 83 [.slice (some ⟨gC, 0, none⟩) L.length (L.length + X.length), .int .i64 (most : Int), .slice (some ⟨gD, 0, none⟩) V.length (V.length + Y.length)]
  cel : Whole w gC 5 (bts L ++ X)
  dir : Whole w gD 4 (bls V ++ Y)
  len : L.length = 64 * V.length
  le : V.length ≤ most
  top : most ≤ 64
  capX : L.length + X.length ≤ maxLen
  capY : V.length + Y.length ≤ maxLen

section
variable {w w' : World} {p gC gD : Nat} {L : List UInt8} {X : List Value} {V : List Bool} {Y : List Value} {most : Nat}
theorem Mm.keep (h : Mm w p gC gD L X V Y most) (hc : Chg [] w w') : Mm w' p gC gD L X V Y most :=
  ⟨h.rec_.keep hc, h.cel.keep hc, h.dir.keep hc, h.len, h.le, h.top, h.capX, h.capY⟩
theorem Mm.away {T : List Nat} (h : Mm w p gC gD L X V Y most) (hc : Chg T w w') (h0 : p ∉ T) (h1 : gC ∉ T) (h2 : gD ∉ T) : Mm w' p gC gD L X V Y most :=
  ⟨h.rec_.chg hc h0, h.cel.chg hc h1, h.dir.chg hc h2, h.len, h.le, h.top, h.capX, h.capY⟩
theorem Mm.small (h : Mm w p gC gD L X V Y most) : L.length ≤ 4096 := by have := h.len; have := h.le; have := h.top; omega
theorem Mm.smallV (h : Mm w p gC gD L X V Y most) : V.length ≤ 64 := by have := h.le; have := h.top; omega
theorem Mm.byte (h : Mm w p gC gD L X V Y most) (k : Nat) (hk : k < L.length) : w.cell? ⟨gC, k, none⟩ = some (B8 L[k]) := by
  rw [h.cel.cell, List.getElem?_append_left (by rw [bts_len]; exact hk)]
  exact bts_get L k hk
theorem Mm.bit (h : Mm w p gC gD L X V Y most) (k : Nat) (hk : k < V.length) : w.cell? ⟨gD, k, none⟩ = some (.bool V[k]) := by
  rw [h.dir.cell, List.getElem?_append_left (by rw [bls_len]; exact hk)]
  exact bls_get V k hk
theorem Mm.src (h : Mm w p gC gD L X V Y most) : Src w (some ⟨gC, 0, none⟩) (bts L) := by
  have := Src.of_whole h.cel 0 (bts L).length
  rwa [List.drop_zero, List.take_left' rfl] at this

theorem ret_i {x y : Int} (h : x = y) : Ending.returned (.int .i64 x) = .returned (.int .i64 y) := by rw [h]
set_option maxHeartbeats 400000 in
theorem width_any (b : Bool) : Calls Try.prog 64 #[.bool b] w fun e w' => e = .returned (.int .i64 (if b then 8 else 1)) ∧ w = w' := by
  cases b <;>
  · go_enter Try.func64, Try.ntmps64
    go_wp2_with fail
    go_ret
    exact ⟨rfl, rfl⟩
set_option maxHeartbeats 400000 in
theorem pages_any (h : Mm w p gC gD L X V Y most) : Calls Try.prog 107 #[.pointer (some ⟨p, 0, none⟩)] w fun e w' => e = .returned (.int .i64 (V.length : Int)) ∧ w = w' := by
  have c0 := h.rec_.cell 0
  have hl := Lib.hid h.len
  have b1 := h.small
  go_enter Try.func107, Try.ntmps107
  go_wp2_with fail
  go_ret
  exact ⟨ret_i (by have := hl.out; omega), rfl⟩
set_option maxHeartbeats 400000 in
theorem within_yes (h : Mm w p gC gD L X V Y most) (k s : Nat) (hs : s ≤ 8) (hk : k + s ≤ L.length) :
    Calls Try.prog 65 #[.pointer (some ⟨p, 0, none⟩), .int .i64 (k : Int), .int .i64 (s : Int)] w fun e w' => e = .returned (.bool true) ∧ w = w' := by
  have c0 := h.rec_.cell 0
  have b1 := h.small
  have hd : decide ((k : Int) ≤ (L.length : Int) - (s : Int)) = true := by simp; omega
  go_enter Try.func65, Try.ntmps65
  go_wp2_with fail
  go_ret
  exact ⟨rfl, rfl⟩
set_option maxHeartbeats 400000 in
theorem within_no (h : Mm w p gC gD L X V Y most) (k : Int) (s : Nat) (hs : s ≤ 8) (hk : k < 0 ∨ (L.length : Int) - s < k) :
    Calls Try.prog 65 #[.pointer (some ⟨p, 0, none⟩), .int .i64 k, .int .i64 (s : Int)] w fun e w' => e = .returned (.bool false) ∧ w = w' := by
  have c0 := h.rec_.cell 0
  have b1 := h.small
  by_cases h0 : 0 ≤ k
  · have hd : decide (k ≤ (L.length : Int) - (s : Int)) = false := by simp; omega
    clear hk
    go_enter Try.func65, Try.ntmps65
    go_wp2_with fail
    go_ret
    exact ⟨rfl, rfl⟩
  · have hd : decide (0 ≤ k) = false := by simpa using h0
    clear hk h0
    go_enter Try.func65, Try.ntmps65
    go_wp2_with fail
    go_ret
    exact ⟨rfl, rfl⟩
theorem ret2_eq {x y : Int} {b : Bool} (h : x = y) : Ending.returned (.tuple #[.int .i64 x, .bool b]) = .returned (.tuple #[.int .i64 y, .bool b]) := by rw [h]
set_option maxHeartbeats 400000 in
theorem load_no (h : Mm w p gC gD L X V Y most) (k : Int) (wide : Bool) (s : Nat) (hw : s = if wide then 8 else 1) (hk : k < 0 ∨ (L.length : Int) - s < k) :
    Calls Try.prog 45 #[.pointer (some ⟨p, 0, none⟩), .int .i64 k, .bool wide] w fun e w' => e = .returned (.tuple #[.int .i64 0, .bool false]) ∧ w = w' := by
  cases wide
  · simp only [Bool.false_eq_true, if_false] at hw
    subst hw
    go_enter Try.func45, Try.ntmps45
    go_wp2_with (first
      | (go_at_call 64; refine (width_any false).mono ?_; rintro e w' ⟨rfl, rfl⟩)
      | (go_at_call 65; refine (within_no h k 1 (by omega) hk).mono ?_; rintro e w' ⟨rfl, rfl⟩))
    go_ret2
    exact ⟨rfl, rfl⟩
  · simp only [if_true] at hw
    subst hw
    go_enter Try.func45, Try.ntmps45
    go_wp2_with (first
      | (go_at_call 64; refine (width_any true).mono ?_; rintro e w' ⟨rfl, rfl⟩)
      | (go_at_call 65; refine (within_no h k 8 (by omega) hk).mono ?_; rintro e w' ⟨rfl, rfl⟩))
    go_ret2
    exact ⟨rfl, rfl⟩
set_option maxHeartbeats 1000000 in
theorem load_yes (h : Mm w p gC gD L X V Y most) (k : Nat) (wide : Bool) (s : Nat) (hw : s = if wide then 8 else 1) (hk : k + s ≤ L.length) :
    Calls Try.prog 45 #[.pointer (some ⟨p, 0, none⟩), .int .i64 (k : Int), .bool wide] w fun e w' => e = .returned (.tuple #[.int .i64 (ldI L k s), .bool true]) ∧ w = w' := by
  have c0 := h.rec_.cell 0
  have b1 := h.small
  have s1 : s ≤ 8 := by subst hw; split <;> omega
  have s2 : 1 ≤ s := by subst hw; split <;> omega
  have HW := Lib.hid (show (if wide then (8 : Int) else 1) = (s : Int) by subst hw; cases wide <;> rfl)
  clear hw
  go_enter Try.func45, Try.ntmps45
  go_wp2_with (first
    | (go_at_call 64; refine (width_any wide).mono ?_; rintro e w' ⟨rfl, rfl⟩; rw [HW.out])
    | (go_at_call 65; refine (within_yes h k s s1 hk).mono ?_; rintro e w' ⟨rfl, rfl⟩))
  go_loop [9, 10] (fun a i => ∃ j : Nat, j ≤ s ∧ i = .int .i64 ((j : Int) - 1) ∧ a = .int .u64 (ldN ((L.drop (k + j)).take (s - j)) : Nat)) (fun _ i => (intOf i + 1).toNat)
  case atStart => exact ⟨s, Nat.le_refl _, rfl, by simp [ldN]⟩
  case round =>
    obtain ⟨j, hj, rfl, rfl⟩ := hrel
    by_cases h0 : 0 < j
    · obtain ⟨i, rfl⟩ : ∃ i, j = i + 1 := ⟨j - 1, by omega⟩
      have hki : k + i < L.length := by omega
      have hx := h.byte (k + i) hki
      unfold B8 at hx
      have hnx := ldN_next L k i (s - i) hki (by omega)
      have hlt := ldN_lt ((L.drop (k + i + 1)).take (s - (i + 1)))
      have hp : ldN ((L.drop (k + i + 1)).take (s - (i + 1))) < 72057594037927936 := by
        refine Nat.lt_of_lt_of_le hlt ?_
        have e7 : (256 : Nat) ^ 7 = 72057594037927936 := by decide
        rw [← e7]
        refine Nat.pow_le_pow_right (by omega) ?_
        rw [List.length_take]; omega
      rw [show s - i - 1 = s - (i + 1) by omega] at hnx
      have e1 : k + (i + 1) = k + i + 1 := rfl
      rw [e1]
      generalize ldN ((L.drop (k + i + 1)).take (s - (i + 1))) = a at *
      generalize L[k + i] = b at *
      have ho := u64_shl_or a b hp
      have HN := Lib.hid hnx
      have HO := Lib.hid ho
      have HB := Lib.hid (IntWalk.u64_in (b.toNat : Int) (by have := b.toNat_lt; omega))
      clear hnx hlt e1 ho
      have g1 : ((i + 1 : Nat) : Int) - 1 = (i : Int) := by omega
      rw [g1]
      have g2 : (0 : Int) ≤ (i : Int) := by omega
      go_wp2_with fail
      go_round
      case rel => exact ⟨i, by omega, rfl, by rw [HN.out, HB.out, HO.out]⟩
      case measure => simp [intOf] <;> omega
    · obtain rfl : j = 0 := by omega
      go_wp2_with fail
      go_ret2
      exact ⟨ret2_eq (by unfold ldI; first | rfl | exact (IntWalk.i64_left _).symm | (rw [IntWalk.i64_left]; rfl)), rfl⟩
end
end Go.Proofs.Ytnohfdojcdhfoaa
namespace Go.Proofs.Ytnohfdojcdhfoaa
open Go.RowKit
structure Fe (K : Nat → Prop) (TS : List TypeId) (a b : World) : Prop where
  os : b.os = a.os
  tape : b.tape = a.tape
  output : b.output = a.output
  size : a.heap.size ≤ b.heap.size
  block : ∀ k, k < a.heap.size → (¬ K k ∨ ∀ cs t fz, a.heap[k]? = some (.cells cs t fz) → t ∉ TS) → b.heap[k]? = a.heap[k]?
section
variable {K : Nat → Prop} {TS : List TypeId} {a b c : World}
theorem Fe.refl (K : Nat → Prop) (TS : List TypeId) (a : World) : Fe K TS a a := ⟨rfl, rfl, rfl, Nat.le_refl _, fun _ _ _ => rfl⟩
theorem Fe.trans (h : Fe K TS a b) (k : Fe K TS b c) : Fe K TS a c := by
  refine ⟨k.os.trans h.os, k.tape.trans h.tape, k.output.trans h.output, Nat.le_trans h.size k.size, fun i hi hc => ?_⟩
  have h1 := h.block i hi hc
  rw [← h1]
  refine k.block i (Nat.lt_of_lt_of_le hi h.size) ?_
  rw [h1]
  exact hc
theorem Fe.of_chg (h : Chg [] a b) : Fe K TS a b := ⟨h.os, h.tape, h.output, h.size, fun k hk _ => h.block k hk (by simp)⟩
theorem Fe.of_chgT {T : List Nat} (h : Chg T a b) (hT : ∀ i ∈ T, K i ∧ ∀ cs t fz, a.heap[i]? = some (.cells cs t fz) → t ∈ TS) (hO : ∀ i ∈ T, ∃ cs t fz, a.heap[i]? = some (.cells cs t fz)) : Fe K TS a b :=
  ⟨h.os, h.tape, h.output, h.size, fun k hk hc => h.block k hk fun hm => by
    obtain ⟨h1, h2⟩ := hT k hm
    obtain ⟨cs, t, fz, h3⟩ := hO k hm
    rcases hc with hc | hc
    · exact hc h1
    · exact hc cs t fz h3 (h2 cs t fz h3)⟩
theorem Fe.new (h : Fe K TS a b) (k : Chg [] b c) : Fe K TS a c := h.trans (Fe.of_chg k)
theorem Fe.sub {TS' : List TypeId} (h : Fe K TS a b) (hT : ∀ t, t ∈ TS → t ∈ TS') : Fe K TS' a b :=
  ⟨h.os, h.tape, h.output, h.size, fun k hk hc => h.block k hk (hc.imp id (fun h cs t fz e ht => h cs t fz e (hT t ht)))⟩
theorem Fe.chg {T : List Nat} {B : Nat} (h : Fe (fun k => B ≤ k ∨ k ∈ T) TS a b) (hB : a.heap.size ≤ B) : Chg T a b := ⟨h.os, h.tape, h.output, h.size, fun k hk hn => h.block k hk (.inl fun hc => by
  rcases hc with hc | hc
  · omega
  · exact hn hc)⟩
theorem Fe.set (h : Fe K TS a b) {p : Addr} (hp : K p.block) {cs : Array Value} {t : TypeId} {fz : Nat × Nat} (hb : b.heap[p.block]? = some (.cells cs t fz)) (ht : t ∈ TS) (u : Value) : Fe K TS a (b.setCell p u) := by
  refine h.trans ⟨rfl, rfl, rfl, ?_, fun k hk hc => ?_⟩
  · rw [size_set]; exact Nat.le_refl _
  · refine Below.heap_setCell b p u k (fun e => ?_)
    subst e
    rcases hc with h1 | h1
    · exact h1 hp
    · exact h1 cs t fz hb ht
theorem Fe.setw (h : Fe K TS a b) {g j t : Nat} {cs : List Value} (hW : Whole b g t cs) (hp : K g) (ht : t ∈ TS) (u : Value) : Fe K TS a (b.setCell ⟨g, j, none⟩ u) := h.set (p := ⟨g, j, none⟩) hp hW ht u
theorem Fe.seto (h : Fe K TS a b) {g j B2 k n m e : Nat} {xs : List Value} {cap : Nat} (ho : b.ownsRow B2 e k (.slice (some ⟨g, 0, none⟩) n cap) m xs) (hp : K g) (ht : e ∈ TS) (u : Value) : Fe K TS a (b.setCell ⟨g, j, none⟩ u) := by
  rcases ho.2 with ⟨e', _⟩ | ⟨g', cap', cur, e', hb, hg, _⟩
  · cases e'
  · injection e' with e1 _ _
    injection e1 with e1
    injection e1 with e1
    subst e1
    exact h.set (p := ⟨g, j, none⟩) hp hg ht u
theorem Fe.grown (h : Fe K TS a b) {B2 k n e : Nat} {v : Value} {xs : List Value} (ho : b.ownsRow B2 e k v n xs) (hK : ∀ i, v.ownBlock = some i → K i) (ht : e ∈ TS) (hg : b.grownBy c v.ownBlock) : Fe K TS a c := by
  refine h.trans ⟨hg.os, hg.tape, hg.output, hg.size, fun i hi hc => hg.block i hi (fun hr => ?_)⟩
  rcases ho.2 with ⟨rfl, _⟩ | ⟨g', cap', cur, rfl, hb, hgb, _⟩
  · simp [Value.ownBlock] at hr
  · simp [Value.ownBlock] at hr
    subst hr
    rcases hc with h1 | h1
    · exact h1 (hK _ rfl)
    · exact h1 _ _ _ hgb ht
theorem Fe.whole (h : Fe K TS a b) {g t : Nat} {cs : List Value} (hW : Whole a g t cs) (ht : t ∉ TS) : Whole b g t cs :=
  (h.block g hW.lt (.inr fun _ _ _ e => by rw [show a.heap[g]? = _ from hW] at e; injection e with e; injection e with _ e2 _; subst e2; exact ht)).trans hW
theorem Fe.wholeK (h : Fe K TS a b) {g t : Nat} {cs : List Value} (hW : Whole a g t cs) (hg : ¬ K g) : Whole b g t cs := (h.block g hW.lt (.inl hg)).trans hW
theorem Fe.own (h : Fe K TS a b) {B2 k n e : Nat} {v : Value} {xs : List Value} (ho : a.ownsRow B2 e k v n xs) (ht : e ∉ TS) : b.ownsRow B2 e k v n xs := by
  refine ⟨ho.1, ?_⟩
  rcases ho.2 with h1 | ⟨g, cap, cur, rfl, hb, hg, r⟩
  · exact .inl h1
  · refine .inr ⟨g, cap, cur, rfl, hb, ?_, r⟩
    have hlt : g < a.heap.size := by
      rcases Nat.lt_or_ge g a.heap.size with h | h
      · exact h
      · rw [Array.getElem?_eq_none h] at hg; cases hg
    exact (h.block g hlt (.inr fun _ _ _ e => by rw [hg] at e; injection e with e; injection e with _ e2 _; subst e2; exact ht)).trans hg
theorem Fe.mm (h : Fe K TS a b) {p gC gD : Nat} {L : List UInt8} {X : List Value} {V : List Bool} {Y : List Value} {most : Nat} (hM : Mm a p gC gD L X V Y most) (h1 : 83 ∉ TS) (h2 : 5 ∉ TS) (h3 : 4 ∉ TS) : Mm b p gC gD L X V Y most :=
  ⟨h.whole hM.rec_ h1, h.whole hM.cel h2, h.whole hM.dir h3, hM.len, hM.le, hM.top, hM.capX, hM.capY⟩
end
end Go.Proofs.Ytnohfdojcdhfoaa
namespace Go.Proofs.Ytnohfdojcdhfoaa
open Go.RowKit
/-- r is a number of lo .. hi, and n itself where n is one. -/
def Into (n lo hi r : Int) : Prop := lo ≤ r ∧ r ≤ hi ∧ (lo ≤ n → n ≤ hi → r = n)
/-- What Within has done. -/
def WithinPost (n lo hi : Int) (w : World) (e : Ending) (w' : World) : Prop := ∃ r : Int, Into n lo hi r ∧ e = .returned (.int .i64 r) ∧ w = w'
/-- The number itself, or brought into lo .. hi. -/
def withinI (n lo hi : Int) : Int := if lo ≤ n ∧ n ≤ hi then n else if n.tmod (hi - lo + 1) < 0 then lo + (n.tmod (hi - lo + 1) + hi - lo + 1) else lo + n.tmod (hi - lo + 1)
theorem into_within (n lo hi : Int) (h1 : lo ≤ hi) : Into n lo hi (withinI n lo hi) := by
  have b1 := Int.tmod_lt_of_pos n (show 0 < hi - lo + 1 by omega)
  have b2 := Int.lt_tmod_of_pos n (show 0 < hi - lo + 1 by omega)
  unfold withinI
  split
  · rename_i h; exact ⟨h.1, h.2, fun _ _ => rfl⟩
  · rename_i h
    split
    · exact ⟨by omega, by omega, fun ha hb => absurd ⟨ha, hb⟩ h⟩
    · exact ⟨by omega, by omega, fun ha hb => absurd ⟨ha, hb⟩ h⟩
theorem ret_within {a b : Int} (h : a = b) : Ending.returned (.int .i64 a) = .returned (.int .i64 b) := by rw [h]
section
variable {w : World}
set_option maxHeartbeats 1000000 in
theorem within_is (n lo hi : Int) (h0 : -1000000 ≤ lo) (h1 : lo ≤ hi) (h2 : hi ≤ 1000000) (hn0 : -9223372036854775808 ≤ n) (hn1 : n ≤ 9223372036854775807) :
    Calls Try.prog 43 #[.int .i64 n, .int .i64 lo, .int .i64 hi] w fun e w' => e = .returned (.int .i64 (withinI n lo hi)) ∧ w = w' := by
  have b1 := Int.tmod_lt_of_pos n (show 0 < hi - lo + 1 by omega)
  have b2 := Int.lt_tmod_of_pos n (show 0 < hi - lo + 1 by omega)
  have hne : ((hi - lo + 1) == 0) = false := by simp; omega
  by_cases ha : lo ≤ n
  · by_cases hb : n ≤ hi
    · have HI := Lib.hid (show withinI n lo hi = n by unfold withinI; rw [if_pos ⟨ha, hb⟩])
      go_enter Try.func43, Try.ntmps43
      go_wp2_with fail
      go_ret
      exact ⟨ret_within HI.out.symm, rfl⟩
    · by_cases hm : n.tmod (hi - lo + 1) < 0
      · have HI := Lib.hid (show withinI n lo hi = lo + (n.tmod (hi - lo + 1) + hi - lo + 1) by unfold withinI; rw [if_neg (fun h => hb h.2), if_pos hm])
        go_enter Try.func43, Try.ntmps43
        go_wp2_with fail
        go_ret
        exact ⟨ret_within HI.out.symm, rfl⟩
      · have HI := Lib.hid (show withinI n lo hi = lo + n.tmod (hi - lo + 1) by unfold withinI; rw [if_neg (fun h => hb h.2), if_neg hm])
        go_enter Try.func43, Try.ntmps43
        go_wp2_with fail
        go_ret
        exact ⟨ret_within HI.out.symm, rfl⟩
  · have hd : decide (lo ≤ n) = false := by simp; omega
    by_cases hm : n.tmod (hi - lo + 1) < 0
    · have HI := Lib.hid (show withinI n lo hi = lo + (n.tmod (hi - lo + 1) + hi - lo + 1) by unfold withinI; rw [if_neg (fun h => ha h.1), if_pos hm])
      go_enter Try.func43, Try.ntmps43
      go_wp2_with fail
      go_ret
      exact ⟨ret_within HI.out.symm, rfl⟩
    · have HI := Lib.hid (show withinI n lo hi = lo + n.tmod (hi - lo + 1) by unfold withinI; rw [if_neg (fun h => ha h.1), if_neg hm])
      go_enter Try.func43, Try.ntmps43
      go_wp2_with fail
      go_ret
      exact ⟨ret_within HI.out.symm, rfl⟩
/-- A number of lo .. hi. -/
theorem within_any (n lo hi : Int) (h0 : -1000000 ≤ lo) (h1 : lo ≤ hi) (h2 : hi ≤ 1000000) (hn0 : -9223372036854775808 ≤ n) (hn1 : n ≤ 9223372036854775807) :
    Calls Try.prog 43 #[.int .i64 n, .int .i64 lo, .int .i64 hi] w (WithinPost n lo hi w) :=
  (within_is n lo hi h0 h1 h2 hn0 hn1).mono fun _ _ ⟨h1', h2'⟩ => ⟨_, into_within n lo hi h1, h1', h2'⟩
end
end Go.Proofs.Ytnohfdojcdhfoaa
namespace Go.Proofs.Ytnohfdojcdhfoaa
open Go.RowKit
/-- A tape as it lies in memory: its numbers, where it stands. -/
structure Tp (w : World) (p : Nat) (A : Option Addr) (n c : Nat) (l : List Int) (at_ : Nat) : Prop where
  rec_ : Whole w p 97 [.slice A n c, .int .i64 (at_ : Int)]
  len : l.length = n
  src : Src w A (nms l)
  spot : 0 < n → ∀ ad, A = some ad → ad.spot = none ∧ ad.block < p
  rng : ∀ x ∈ l, -9223372036854775808 ≤ x ∧ x ≤ 9223372036854775807
  le : at_ ≤ n
  max : n ≤ 9223372036854775807
theorem nms_at (l : List Int) (i : Nat) (h : i < l.length) : (nms l)[i]? = some (.int .i64 l[i]) := by simp [nms, h]
section
variable {w : World}
set_option maxHeartbeats 1000000 in
theorem within_big (n lo hi : Int) (h0 : -1000000 ≤ lo) (h1 : lo ≤ hi) (h2 : hi ≤ 2000000000) (hn0 : -9223372036854775808 ≤ n) (hn1 : n ≤ 9223372036854775807) :
    Calls Try.prog 43 #[.int .i64 n, .int .i64 lo, .int .i64 hi] w fun e w' => e = .returned (.int .i64 (withinI n lo hi)) ∧ w = w' := by
  have b1 := Int.tmod_lt_of_pos n (show 0 < hi - lo + 1 by omega)
  have b2 := Int.lt_tmod_of_pos n (show 0 < hi - lo + 1 by omega)
  have hne : ((hi - lo + 1) == 0) = false := by simp; omega
  by_cases ha : lo ≤ n
  · by_cases hb : n ≤ hi
    · have HI := Lib.hid (show withinI n lo hi = n by unfold withinI; rw [if_pos ⟨ha, hb⟩])
      go_enter Try.func43, Try.ntmps43
      go_wp2_with fail
      go_ret
      exact ⟨ret_within HI.out.symm, rfl⟩
    · by_cases hm : n.tmod (hi - lo + 1) < 0
      · have HI := Lib.hid (show withinI n lo hi = lo + (n.tmod (hi - lo + 1) + hi - lo + 1) by unfold withinI; rw [if_neg (fun h => hb h.2), if_pos hm])
        go_enter Try.func43, Try.ntmps43
        go_wp2_with fail
        go_ret
        exact ⟨ret_within HI.out.symm, rfl⟩
      · have HI := Lib.hid (show withinI n lo hi = lo + n.tmod (hi - lo + 1) by unfold withinI; rw [if_neg (fun h => hb h.2), if_neg hm])
        go_enter Try.func43, Try.ntmps43
        go_wp2_with fail
        go_ret
        exact ⟨ret_within HI.out.symm, rfl⟩
  · have hd : decide (lo ≤ n) = false := by simp; omega
    by_cases hm : n.tmod (hi - lo + 1) < 0
    · have HI := Lib.hid (show withinI n lo hi = lo + (n.tmod (hi - lo + 1) + hi - lo + 1) by unfold withinI; rw [if_neg (fun h => ha h.1), if_pos hm])
      go_enter Try.func43, Try.ntmps43
      go_wp2_with fail
      go_ret
      exact ⟨ret_within HI.out.symm, rfl⟩
    · have HI := Lib.hid (show withinI n lo hi = lo + n.tmod (hi - lo + 1) by unfold withinI; rw [if_neg (fun h => ha h.1), if_neg hm])
      go_enter Try.func43, Try.ntmps43
      go_wp2_with fail
      go_ret
      exact ⟨ret_within HI.out.symm, rfl⟩
end
section
variable {w w' : World} {p n c at_ : Nat} {A : Option Addr} {l : List Int}
theorem Tp.keep (h : Tp w p A n c l at_) (hc : Chg [] w w') : Tp w' p A n c l at_ := ⟨h.rec_.keep hc, h.len, h.src.keep hc, h.spot, h.rng, h.le, h.max⟩
theorem Tp.other (h : Tp w p A n c l at_) {g j : Nat} (hg : g ≠ p) (hA : ∀ ad, A = some ad → 0 < n → ad.block ≠ g) (u : Value) : Tp (w.setCell ⟨g, j, none⟩ u) p A n c l at_ := by
  refine ⟨h.rec_.far (by simpa using Ne.symm hg) u, h.len, fun hp => ?_, h.spot, h.rng, h.le, h.max⟩
  obtain ⟨ad, e, hb, hy⟩ := h.src hp
  have hn : 0 < n := by have := h.len; simp [nms] at hp; omega
  refine ⟨ad, e, by simpa [World.setCell] using hb, fun i v hi => ?_⟩
  have h1 := hy i v hi
  have e2 : (ad.add i).block = ad.block := by unfold Addr.add; split <;> rfl
  rw [← h1]
  exact World.cell?_of_block (w := w) (Below.heap_setCell w _ u _ (by rw [e2]; exact hA ad e hn))
theorem Tp.grown {B2 m k2 : Nat} {e2 : TypeId} {v2 : Value} {ys : List Value} (h : Tp w p A n c l at_) (h2 : w.ownsRow B2 e2 k2 v2 m ys) (hg : w.grownBy w' v2.ownBlock) (hne : 97 ≠ e2) (hB : p < B2) : Tp w' p A n c l at_ := by
  refine ⟨whole_grown h.rec_ h2 hne hg, h.len, fun hp => ?_, h.spot, h.rng, h.le, h.max⟩
  obtain ⟨ad, e, hb, hy⟩ := h.src hp
  have hn : 0 < n := by have := h.len; simp [nms] at hp; omega
  refine ⟨ad, e, Nat.lt_of_lt_of_le hb hg.size, fun i v hi => ?_⟩
  have h1 := hy i v hi
  have e3 : (ad.add i).block = ad.block := by unfold Addr.add; split <;> rfl
  rw [← h1]
  refine World.cell?_of_block (w := w) (hg.block _ (by rw [e3]; exact hb) (fun hc => ?_))
  rw [e3] at hc
  have := (h2.lt _ hc.symm).1
  have := (h.spot hn ad e).2
  omega
theorem chg_grown2 {T : List Nat} {a w w' : World} {row : Option Nat} (h : Chg T a w) (hg : w.grownBy w' row) (hr : ∀ g, row = some g → a.heap.size ≤ g) : Chg T a w' :=
  h.then_ (T' := row.toList) (Chg.of_grown hg fun g e _ => by simp [e]) fun i hi hlt => by
    have := hr i (by simpa using hi)
    omega
theorem Tp.lt (h : Tp w p A n c l at_) : p < w.heap.size := h.rec_.lt
/-- A number of 0 .. m - 1, and the tape one further. -/
def NextPost (w : World) (p : Nat) (A : Option Addr) (n c : Nat) (l : List Int) (m : Nat) (e : Ending) (w' : World) : Prop :=
  ∃ (r a' : Nat), r < m ∧ e = .returned (.int .i64 (r : Int)) ∧ Tp w' p A n c l a' ∧ Chg [p] w w'
set_option maxHeartbeats 4000000 in
set_option maxRecDepth 100000 in
theorem next_any (h : Tp w p A n c l at_) (m : Nat) (hm : 0 < m) (hm2 : m ≤ 1000000) :
    Calls Try.prog 56 #[.pointer (some ⟨p, 0, none⟩), .int .i64 (m : Int)] w (NextPost w p A n c l m) := by
  have c0 := h.rec_.cell 0
  have c1 := h.rec_.cell 1
  have f1 := h.rec_.frozen 1
  have hle := h.le
  have hmax := h.max
  have H := Lib.hid h
  clear h
  have hmd : ¬ (m : Int) < 1 := by omega
  have hmd1 : decide ((m : Int) < 1) = false := by simp; omega
  by_cases hlt : at_ < n
  · have hd1 : decide (n ≤ at_) = false := by simp; omega
    have hd2 : decide ((n : Int) ≤ (at_ : Int)) = false := by simp; omega
    obtain ⟨ad, rfl, _, hx⟩ := H.out.src (by simp [nms]; have := H.out.len; omega)
    have hx1 := hx at_ _ (nms_at l at_ (by have := H.out.len; omega))
    obtain ⟨b, o, s⟩ := ad
    obtain ⟨hs, hbp⟩ := H.out.spot (by omega) _ rfl
    simp only at hs hbp
    subst hs
    rw [add_plain] at hx1
    have hal : at_ < l.length := by have := H.out.len; omega
    have hrz := H.out.rng l[at_] (List.getElem_mem hal)
    generalize l[at_] = z at hx1 hrz
    obtain ⟨hz0, hz1⟩ := hrz
    clear hx
    go_enter Try.func56, Try.ntmps56
    go_wp2_with fail
    go_quiet (fail)
    go_wp2_with fail
    have hR3 := ((H.out.rec_.keep ((Chg.refl [] w).drewN nq)).set_ 1 (.int .i64 ((at_ : Int) + 1)))
    have hc3 : Chg [p] w ((w.drewN nq).setCell ⟨p, 1, none⟩ (.int .i64 ((at_ : Int) + 1))) := ((Chg.refl [p] w).drewN nq).setCell (by simp) _
    generalize (w.drewN nq).setCell ⟨p, 1, none⟩ (.int .i64 ((at_ : Int) + 1)) = w3 at hR3 hc3 ⊢
    have hs3 : Src w3 (some ⟨b, o, none⟩) (nms l) := fun hp => by
      obtain ⟨ad, e, hb, hy⟩ := H.out.src hp
      injection e with e
      subst e
      refine ⟨_, rfl, Nat.lt_of_lt_of_le hb hc3.size, fun j v hj => ?_⟩
      have := hy j v hj
      rw [add_plain] at this ⊢
      rw [← this]
      exact World.cell?_of_block (w := w) (hc3.block b hb (by simp; omega))
    have hT3 : Tp w3 p (some ⟨b, o, none⟩) n c l (at_ + 1) := ⟨by simpa using hR3, H.out.len, hs3, H.out.spot, H.out.rng, by omega, H.out.max⟩
    have k0 := hT3.rec_.cell 0
    have k1 := hT3.rec_.cell 1
    have k2 : w3.cell? ⟨b, o + at_, none⟩ = some (.int .i64 z) := by
      rw [← hx1]
      exact World.cell?_of_block (w := w) (hc3.block b (block_lt_of_cell hx1) (by simp; omega))
    clear hx1 c0 c1 f1 hR3 hs3
    obtain ⟨q, hq, hq2⟩ : ∃ q : Nat, withinI z 0 1073741824 = (q : Int) ∧ q ≤ 1073741824 := by
      have hin := into_within z 0 1073741824 (by omega)
      exact ⟨(withinI z 0 1073741824).toNat, by have := hin.1; omega, by have h1 := hin.1; have h2 := hin.2.1; omega⟩
    have hw : ∀ W : World, Calls Try.prog 43 #[.int .i64 z, .int .i64 0, .int .i64 1073741824] W fun e w' => e = .returned (.int .i64 (q : Int)) ∧ w' = W := fun W =>
      (within_big z 0 1073741824 (by omega) (by omega) (by omega) hz0 hz1).mono fun _ _ ⟨h1, h2⟩ => ⟨by rw [h1, hq], h2.symm⟩
    have HT := Lib.hid hT3
    have HW := Lib.hid hw
    have HC := Lib.hid hc3
    have hsub : IntKind.i64.wrap (at_ : Int) = (at_ : Int) := IntWalk.i64_in _ (by omega)
    have hatn : (at_ : Int).toNat = at_ := Int.toNat_natCast _
    have hat0 : (0 : Int) ≤ (at_ : Int) := by omega
    have htm : (q : Int).tmod (m : Int) = ((q % m : Nat) : Int) := rfl
    have hlast : q % m < m := Nat.mod_lt _ hm
    have hatI : (at_ : Int) < (n : Int) := by omega
    have hm0 : ((m : Int) == 0) = false := by simp; omega
    clear hT3 hw hc3 hq H
    go_quiet ((go_at_call 43; exact Calls.quiet_of_same (HW.out _)))
    go_wp2_with fail
    go_ret
    exact ⟨q % m, at_ + 1, hlast, rfl, HT.out.keep ((Chg.refl _ _).drewN _), HC.out.drewN _⟩
  · have hd1 : decide (n ≤ at_) = true := by simp; omega
    have hd2 : decide ((n : Int) ≤ (at_ : Int)) = true := by simp; omega
    go_enter Try.func56, Try.ntmps56
    go_wp2_with fail
    go_quiet (fail)
    go_wp2_with fail
    go_ret
    exact ⟨0, at_, hm, rfl, H.out.keep ((Chg.refl _ _).drewN _), (Chg.refl _ _).drewN _⟩
end
end Go.Proofs.Ytnohfdojcdhfoaa
namespace Go.Proofs.Ytnohfdojcdhfoaa
open Go.RowKit
/-- The runes from a place on. -/
def runesAt (s : ByteArray) : Nat → Nat → List Nat
  | 0, _ => []
  | f + 1, pos => if pos < s.size then (Utf8.decode s pos).1 :: runesAt s f (pos + (Utf8.decode s pos).2) else []
def runesL (s : ByteArray) : List Nat := runesAt s s.size 0
theorem width_pos (s : ByteArray) (pos : Nat) (h : pos < s.size) : 1 ≤ (Utf8.decode s pos).2 := by
  by_cases ha : (s[pos]'h).toNat < 128
  · rw [decode_ascii s pos h ha]; exact Nat.le_refl _
  · exact (decode_high s pos h (by omega)).2
theorem runesAt_more (s : ByteArray) : ∀ (f g pos : Nat), s.size - pos ≤ f → f ≤ g → runesAt s f pos = runesAt s g pos
  | 0, 0, _, _, _ => rfl
  | 0, g + 1, pos, h, _ => by
    rw [runesAt, runesAt, if_neg (by omega)]
  | f + 1, g + 1, pos, h, hg => by
    rw [runesAt, runesAt]
    by_cases hp : pos < s.size
    · rw [if_pos hp, if_pos hp, runesAt_more s f g _ (by have := width_pos s pos hp; omega) (by omega)]
    · rw [if_neg hp, if_neg hp]
theorem runesAt_len (s : ByteArray) : ∀ (f pos : Nat), (runesAt s f pos).length ≤ f
  | 0, _ => Nat.le_refl _
  | f + 1, pos => by
    rw [runesAt]
    split
    · have := runesAt_len s f (pos + (Utf8.decode s pos).2); simp; omega
    · simp
theorem runesAt_le (s : ByteArray) : ∀ (f pos : Nat), ∀ r ∈ runesAt s f pos, r ≤ 2147483647
  | 0, _, r, h => by cases h
  | f + 1, pos, r, h => by
    rw [runesAt] at h
    split at h
    · rcases List.mem_cons.1 h with rfl | h
      · exact decode_le s pos
      · exact runesAt_le s f _ r h
    · cases h
/-- Runes, as cells. -/
def r32 (l : List Nat) : List Value := l.map fun k : Nat => Value.int .i32 (k : Int)
theorem r32_len (l : List Nat) : (r32 l).length = l.length := by simp [r32]
theorem r32_app (l m : List Nat) : r32 (l ++ m) = r32 l ++ r32 m := by simp [r32]
theorem info_rune : (Try.prog.info? 21).map (fun i => (i.zero, i.size, i.bytes)) = some (some (.int .i32 0), 1, 4) := by kernel_rfl
def RunesPost (s : ByteArray) (w : World) (e : Ending) (w' : World) : Prop := ∃ v, e = .returned v ∧ w'.ownsRow w.heap.size 21 1 v (runesL s).length (r32 (runesL s)) ∧ Chg [] w w'
set_option maxHeartbeats 2000000 in
theorem runes_any (s : ByteArray) (w : World) (hs : s.size ≤ 1000000) : Calls Try.prog 91 #[.string s] w (RunesPost s w) := by
  obtain ⟨i0, hi0, hz0, hz1, hz2⟩ := info_parts info_rune
  go_enter Try.func91, Try.ntmps91
  go_upto_region 3 with fail
  have hI : (w.iter s 0).heap[w.heap.size]? = some (.stringIter s 0) := World.iter_heap w s 0
  have hc0 : Chg [] w (w.iter s 0) := (Chg.refl [] w).alloc _
  obtain ⟨kI, hkI⟩ : ∃ k, k = w.heap.size := ⟨_, rfl⟩
  have hsz : (w.iter s 0).heap.size = kI + 1 := by rw [hkI]; simp [World.iter]
  rw [← hkI] at hI ⊢
  generalize w.iter s 0 = w1 at hI hc0 hsz ⊢
  have HI := Lib.hid hI
  have HC0 := Lib.hid hc0
  have HK := Lib.hid hkI
  have HSZ := Lib.hid hsz
  clear hI hc0 hkI hsz
  go_loopw [3, 5] (fun v _ wr => (∃ out : List Nat, wr.ownsRow (kI + 1) 21 1 v out.length (r32 out) ∧ out.length ≤ 1000000 ∧ ∃ pos f, Hid (wr.heap[kI]? = some (.stringIter s pos)) ∧ s.size - pos ≤ f ∧ out.length + f ≤ s.size ∧ Hid (runesL s = out ++ runesAt s f pos)) ∧ Hid (Chg [kI] w1 wr)) (fun _ _ wr => s.size - wr.iterPos kI)
  case atStart => exact ⟨⟨[], World.ownsRow_nil _ _ _ _, by simp, 0, s.size, HI, by omega, by simp, Lib.hid rfl⟩, Lib.hid (Chg.refl _ _)⟩
  case round =>
    obtain ⟨⟨out, ho, hol, pos, f, HIr, hf, hof, HR⟩, HCr⟩ := hrel
    have HO := Lib.hid ho
    clear ho
    by_cases hlt : pos < s.size
    · obtain ⟨f', rfl⟩ : ∃ f', f = f' + 1 := ⟨f - 1, by omega⟩
      have hnx := fun ty => Lib.run_next_any_at (P := Try.prog) wr kI s pos ty HIr.out hlt
      go_upto_region 5 with fail
      obtain ⟨d, hd⟩ : ∃ d, d = (Utf8.decode s pos).2 := ⟨_, rfl⟩
      obtain ⟨r, hr⟩ : ∃ r, r = (Utf8.decode s pos).1 := ⟨_, rfl⟩
      have hw := width_pos s pos hlt
      rw [← hd] at hw
      have HR2 := Lib.hid (show runesL s = (out ++ [r]) ++ runesAt s f' (pos + d) from by rw [HR.out, runesAt, if_pos hlt, ← hd, ← hr]; simp)
      have HI2 := Lib.hid (Lib.iterAt_heap wr kI s pos (pos + d) HIr.out)
      have HC2 := Lib.hid (show Chg [kI] w1 (wr.iterAt kI s (pos + d)) from HCr.out.trans ⟨rfl, rfl, rfl, by rw [Lib.iterAt_size]; exact Nat.le_refl _, fun i _ hn => Lib.iterAt_other wr kI i s (pos + d) (by simpa using hn)⟩)
      have HO2 := Lib.hid (show (wr.iterAt kI s (pos + d)).ownsRow (kI + 1) 21 1 _ out.length (r32 out) from rown_chg HO.out (T := [kI]) ⟨rfl, rfl, rfl, by rw [Lib.iterAt_size]; exact Nat.le_refl _, fun i _ hn => Lib.iterAt_other wr kI i s (pos + d) (by simpa using hn)⟩ (by simp))
      rw [← hd, ← hr]
      generalize wr.iterAt kI s (pos + d) = w3 at HI2 HC2 HO2 ⊢
      have HMP := Lib.hid (show wr.iterPos kI = pos from by unfold World.iterPos; rw [HIr.out])
      have hkw : kI < w3.heap.size := Lib.hid (Array.getElem?_eq_some_iff.1 HI2.out).1 |>.out
      have hr32 : (r : Int) ≤ 2147483647 := by have := decode_le s pos; omega
      clear hr hd hnx
      go_wp2_with (at_builtin
                   refine wpList_append_own _ rfl (.tmp 11) (.tmp 13) _ rfl (kI + 1) 21 i0 _ 1 4 Try.underlying99 hi0 hz0 hz1 hz2 rfl (by decide) u3 out.length (r32 out) rfl (own_keep HO2.out ((Chg.refl [] w3).alloc _)) ⟨w3.heap.size, 0, none⟩ 1 1 [.int .i32 (r : Int)] rfl rfl (cells_page _ _ _) (by simp [Value.oneCell']) (by simp only [maxLen]; omega) (by omega) (by simp; omega) ?_
                   intro v' w6 ho6 hg6 _
                   have HO6 := Lib.hid ho6
                   have HG6 := Lib.hid hg6
                   clear ho6 hg6)
      have HOW := Lib.hid (own_keep HO2.out ((Chg.refl [] w3).alloc (.cells #[.int .i32 (r : Int)] 21)))
      have HI6 := Lib.hid (show w6.heap[kI]? = some (.stringIter s (pos + d)) from by
        rw [HG6.out.block kI (by simp; omega) (fun hc => by have := (HOW.out.lt kI hc.symm).1; omega)]
        exact (((Chg.refl [] w3).alloc (.cells #[.int .i32 (r : Int)] 21)).block kI hkw (by simp)).trans HI2.out)
      have HC6 := Lib.hid (show Chg [kI] w1 w6 from chg_grown2 (HC2.out.alloc _) HG6.out (fun g hg => by have := (HOW.out.lt g hg).1; have := HSZ.out; omega))
      have HP6 := Lib.hid (show w6.iterPos kI = pos + d from by unfold World.iterPos; rw [HI6.out])
      go_roundw
      case rel => exact ⟨⟨out ++ [r], by rw [List.length_append, r32_app]; exact HO6.out, by simp; omega, pos + d, f', HI6, by omega, by simp; omega, HR2⟩, HC6⟩
      case measure => rw [HP6.out, HMP.out]; omega
    · have HRZ := Lib.hid (show runesL s = out from by rw [HR.out]; cases f with
        | zero => simp [runesAt]
        | succ f => rw [runesAt, if_neg hlt]; simp)
      have hnx := fun ty => Lib.run_next_end_at (P := Try.prog) wr kI s pos ty HIr.out hlt
      have HCz := Lib.hid (show Chg [] w wr from HC0.out.then_ HCr.out (fun i hi hl => by have := HK.out; simp only [List.mem_cons, List.not_mem_nil, or_false] at hi; omega))
      have HOz := Lib.hid (show RunesPost s w (.returned u3) wr from ⟨_, rfl, by rw [HRZ.out]; exact own_more HO.out (by have := HK.out; omega), HCz.out⟩)
      go_wp2_with fail
      go_ret
      exact HOz.out
end Go.Proofs.Ytnohfdojcdhfoaa
namespace Go.Proofs.Ytnohfdojcdhfoaa
open Go.RowKit
def hasB (s : ByteArray) (r : Int) : Bool := (runesL s).any fun x => (x : Int) == r
set_option maxHeartbeats 2000000 in
theorem has_any (s : ByteArray) (r : Int) (w : World) (hs : s.size ≤ 1000000) : Calls Try.prog 111 #[.string s, .int .i32 r] w (BoolPost (hasB s r) w) := by
  go_enter Try.func111, Try.ntmps111
  go_upto_region 2 with fail
  have hI : (w.iter s 0).heap[w.heap.size]? = some (.stringIter s 0) := World.iter_heap w s 0
  have hc0 : Chg [] w (w.iter s 0) := (Chg.refl [] w).alloc _
  obtain ⟨kI, hkI⟩ : ∃ k, k = w.heap.size := ⟨_, rfl⟩
  rw [← hkI] at hI ⊢
  generalize w.iter s 0 = w1 at hI hc0 ⊢
  have HI := Lib.hid hI
  have HC0 := Lib.hid hc0
  have HK := Lib.hid hkI
  clear hI hc0 hkI
  go_loopw [6] (fun _ wr => (∃ pos f, Hid (wr.heap[kI]? = some (.stringIter s pos)) ∧ s.size - pos ≤ f ∧ Hid (hasB s r = (runesAt s f pos).any fun x => (x : Int) == r)) ∧ Hid (Chg [kI] w1 wr)) (fun _ wr => s.size - wr.iterPos kI)
  case atStart => exact ⟨⟨0, s.size, HI, by omega, Lib.hid rfl⟩, Lib.hid (Chg.refl _ _)⟩
  case round =>
    obtain ⟨⟨pos, f, HIr, hf, HR⟩, HCr⟩ := hrel
    have HCZ := Lib.hid (fun (W : World) (hW : Chg [kI] w1 W) => show Chg [] w W from HC0.out.then_ hW (fun i hi hl => by have := HK.out; simp only [List.mem_cons, List.not_mem_nil, or_false] at hi; omega))
    by_cases hlt : pos < s.size
    · obtain ⟨f', rfl⟩ : ∃ f', f = f' + 1 := ⟨f - 1, by omega⟩
      have hnx := fun ty => Lib.run_next_any_at (P := Try.prog) wr kI s pos ty HIr.out hlt
      go_upto_region 4 with fail
      obtain ⟨d, hd⟩ : ∃ d, d = (Utf8.decode s pos).2 := ⟨_, rfl⟩
      obtain ⟨x, hx⟩ : ∃ r, r = (Utf8.decode s pos).1 := ⟨_, rfl⟩
      have hw := width_pos s pos hlt
      rw [← hd] at hw
      have HR2 := Lib.hid (show hasB s r = (((x : Int) == r) || (runesAt s f' (pos + d)).any fun x => (x : Int) == r) from by rw [HR.out, runesAt, if_pos hlt, ← hd, ← hx]; simp)
      have HI2 := Lib.hid (Lib.iterAt_heap wr kI s pos (pos + d) HIr.out)
      have HC2 := Lib.hid (show Chg [kI] w1 (wr.iterAt kI s (pos + d)) from HCr.out.trans ⟨rfl, rfl, rfl, by rw [Lib.iterAt_size]; exact Nat.le_refl _, fun i _ hn => Lib.iterAt_other wr kI i s (pos + d) (by simpa using hn)⟩)
      rw [← hd, ← hx]
      have HMP := Lib.hid (show wr.iterPos kI = pos from by unfold World.iterPos; rw [HIr.out])
      have HP2 := Lib.hid (show (wr.iterAt kI s (pos + d)).iterPos kI = pos + d from by unfold World.iterPos; rw [HI2.out])
      generalize wr.iterAt kI s (pos + d) = w3 at HI2 HC2 HP2 ⊢
      clear hx hd hnx
      by_cases hxr : (x : Int) = r
      · have hxd : ((x : Int) == r) = true := by simpa using hxr
        have HPO := Lib.hid (show BoolPost (hasB s r) w (.returned (.bool true)) w3 from ⟨by rw [HR2.out, hxd]; rfl, HCZ.out _ HC2.out⟩)
        clear hxr
        go_wp2_with fail
        go_ret
        exact HPO.out
      · have hxd : ((x : Int) == r) = false := by simpa using hxr
        have HR3 := Lib.hid (show hasB s r = (runesAt s f' (pos + d)).any fun x => (x : Int) == r from by rw [HR2.out, hxd]; rfl)
        go_wp2_with fail
        go_roundw
        case rel => exact ⟨⟨pos + d, f', HI2, by omega, HR3⟩, HC2⟩
        case measure => rw [HP2.out, HMP.out]; omega
    · have hnx := fun ty => Lib.run_next_end_at (P := Try.prog) wr kI s pos ty HIr.out hlt
      have HPO := Lib.hid (show BoolPost (hasB s r) w (.returned (.bool false)) wr from ⟨by rw [HR.out]; cases f with
        | zero => simp [runesAt]
        | succ f => rw [runesAt, if_neg hlt]; simp, HCZ.out _ HCr.out⟩)
      go_wp2_with fail
      go_ret
      exact HPO.out
def nameB (r : Int) : Bool := (decide (97 ≤ r) && decide (r ≤ 122)) || (decide (255 < r) && (r != 65533) && decide (r ≤ 1114111) && (decide (r < 55296) || decide (57343 < r)))
def signL : List Nat := [43, 45, 42, 47, 37, 38, 124, 94, 60, 61, 33, 46, 44, 64, 36, 35, 63, 58, 59, 91, 93, 126, 171, 187, 169, 174, 164, 161, 955, 960]
def knownB (r : Int) : Bool := (decide (97 ≤ r) && decide (r ≤ 122)) || (decide (65 ≤ r) && decide (r ≤ 90)) || signL.any fun x => (x : Int) == r
set_option maxHeartbeats 1000000 in
theorem name_any (r : Int) (w : World) : Calls Try.prog 92 #[.int .i32 r] w fun e w' => e = .returned (.bool (nameB r)) ∧ w = w' := by
  obtain ⟨b, hb⟩ : ∃ b, b = nameB r := ⟨_, rfl⟩
  rw [← hb]
  have HB := Lib.hid hb
  clear hb
  by_cases h1 : 97 ≤ r
  · by_cases h2 : r ≤ 122
    · have HE := Lib.hid (show b = true from by rw [HB.out]; simp [nameB, h1, h2])
      go_enter Try.func92, Try.ntmps92
      go_wp2_with fail
      go_ret
      exact ⟨ret_bool HE.out.symm, rfl⟩
    · have h2d : decide (r ≤ 122) = false := by simpa using h2
      by_cases h3 : 255 < r
      · by_cases h4 : r = 65533
        · subst h4
          have HE := Lib.hid (show b = false from by rw [HB.out]; rfl)
          clear h1 h2 h2d h3
          go_enter Try.func92, Try.ntmps92
          go_wp2_with fail
          go_ret
          exact ⟨ret_bool HE.out.symm, rfl⟩
        · have h4d : (r != 65533) = true := by simpa using h4
          by_cases h5 : r ≤ 1114111
          · by_cases h6 : r < 55296
            · have HE := Lib.hid (show b = true from by rw [HB.out]; simp [nameB, h3, h4, h5, h6])
              go_enter Try.func92, Try.ntmps92
              go_wp2_with fail
              go_ret
              exact ⟨ret_bool HE.out.symm, rfl⟩
            · have h6d : decide (r < 55296) = false := by simpa using h6
              by_cases h7 : 57343 < r
              · have HE := Lib.hid (show b = true from by rw [HB.out]; simp [nameB, h3, h4, h5, h7])
                go_enter Try.func92, Try.ntmps92
                go_wp2_with fail
                go_ret
                exact ⟨ret_bool HE.out.symm, rfl⟩
              · have h7d : decide (57343 < r) = false := by simpa using h7
                have HE := Lib.hid (show b = false from by rw [HB.out]; simp [nameB, h2, h6, h7])
                go_enter Try.func92, Try.ntmps92
                go_wp2_with fail
                go_ret
                exact ⟨ret_bool HE.out.symm, rfl⟩
          · have h5d : decide (r ≤ 1114111) = false := by simpa using h5
            have HE := Lib.hid (show b = false from by rw [HB.out]; simp [nameB, h2, h5])
            go_enter Try.func92, Try.ntmps92
            go_wp2_with fail
            go_ret
            exact ⟨ret_bool HE.out.symm, rfl⟩
      · have h3d : decide (255 < r) = false := by simpa using h3
        have HE := Lib.hid (show b = false from by rw [HB.out]; simp [nameB, h2, h3])
        go_enter Try.func92, Try.ntmps92
        go_wp2_with fail
        go_ret
        exact ⟨ret_bool HE.out.symm, rfl⟩
  · have h1d : decide (97 ≤ r) = false := by simpa using h1
    have h3d : decide (255 < r) = false := by simp; omega
    have h3 : ¬ 255 < r := by omega
    have HE := Lib.hid (show b = false from by rw [HB.out]; simp [nameB, h1, h3])
    go_enter Try.func92, Try.ntmps92
    go_wp2_with fail
    go_ret
    exact ⟨ret_bool HE.out.symm, rfl⟩
def signS : ByteArray := ⟨#[43, 45, 42, 47, 37, 38, 124, 94, 60, 61, 33, 46, 44, 64, 36, 35, 63, 58, 59, 91, 93, 126, 194, 171, 194, 187, 194, 169, 194, 174, 194, 164, 194, 161, 206, 187, 207, 128]⟩
theorem sign_runes : runesL signS = signL := by decide +kernel
set_option maxRecDepth 10000 in
theorem sign_any (r : Int) (w : World) : Calls Try.prog 111 #[.string ⟨#[43, 45, 42, 47, 37, 38, 124, 94, 60, 61, 33, 46, 44, 64, 36, 35, 63, 58, 59, 91, 93, 126, 194, 171, 194, 187, 194, 169, 194, 174, 194, 164, 194, 161, 206, 187, 207, 128]⟩, .int .i32 r] w (BoolPost (signL.any fun x => (x : Int) == r) w) := by
  have h := has_any signS r w (by decide)
  unfold hasB at h
  rw [sign_runes] at h
  exact h
set_option maxHeartbeats 1000000 in
set_option maxRecDepth 10000 in
theorem known_any (r : Int) (w : World) : Calls Try.prog 93 #[.int .i32 r] w (BoolPost (knownB r) w) := by
  obtain ⟨b, hb⟩ : ∃ b, b = knownB r := ⟨_, rfl⟩
  rw [← hb]
  have HB := Lib.hid hb
  clear hb
  have hsg := Lib.hid (sign_any r w)
  by_cases hz : 97 ≤ r ∧ r ≤ 122
  · obtain ⟨h1, h2⟩ := hz
    have HE := Lib.hid (show b = true from by rw [HB.out]; simp [knownB, h1, h2])
    go_enter Try.func93, Try.ntmps93
    go_wp2_with fail
    go_ret
    exact ⟨ret_bool HE.out.symm, Chg.refl _ _⟩
  · by_cases hZ : 65 ≤ r ∧ r ≤ 90
    · obtain ⟨h3, h4⟩ := hZ
      have h1d : decide (97 ≤ r) = false := by simp; omega
      have h1 : ¬ 97 ≤ r := by omega
      have HE := Lib.hid (show b = true from by rw [HB.out]; simp [knownB, h3, h4])
      go_enter Try.func93, Try.ntmps93
      go_wp2_with fail
      go_ret
      exact ⟨ret_bool HE.out.symm, Chg.refl _ _⟩
    · have HE := Lib.hid (show b = signL.any fun x => (x : Int) == r from by
        rw [HB.out]
        unfold knownB
        have e1 : (decide (97 ≤ r) && decide (r ≤ 122)) = false := by simp; omega
        have e2 : (decide (65 ≤ r) && decide (r ≤ 90)) = false := by simp; omega
        rw [e1, e2]; simp)
      by_cases h1 : 97 ≤ r
      · have h2 : ¬ r ≤ 122 := fun h => hz ⟨h1, h⟩
        have h2d : decide (r ≤ 122) = false := by simpa using h2
        have h3 : 65 ≤ r := by omega
        have h4 : ¬ r ≤ 90 := by omega
        have h4d : decide (r ≤ 90) = false := by simpa using h4
        clear hz hZ
        go_enter Try.func93, Try.ntmps93
        go_wp2_with fail
        refine hsg.out.mono ?_
        rintro e w1 ⟨rfl, hc⟩
        have HC := Lib.hid hc
        clear hc
        rw [← HE.out]
        go_wp2_with fail
        go_ret
        exact ⟨rfl, HC.out⟩
      · have h1d : decide (97 ≤ r) = false := by simpa using h1
        clear hz
        by_cases h3 : 65 ≤ r
        · have h4 : ¬ r ≤ 90 := fun h => hZ ⟨h3, h⟩
          have h4d : decide (r ≤ 90) = false := by simpa using h4
          clear hZ
          go_enter Try.func93, Try.ntmps93
          go_wp2_with fail
          refine hsg.out.mono ?_
          rintro e w1 ⟨rfl, hc⟩
          have HC := Lib.hid hc
          clear hc
          rw [← HE.out]
          go_wp2_with fail
          go_ret
          exact ⟨rfl, HC.out⟩
        · have h3d : decide (65 ≤ r) = false := by simpa using h3
          clear hZ
          go_enter Try.func93, Try.ntmps93
          go_wp2_with fail
          refine hsg.out.mono ?_
          rintro e w1 ⟨rfl, hc⟩
          have HC := Lib.hid hc
          clear hc
          rw [← HE.out]
          go_wp2_with fail
          go_ret
          exact ⟨rfl, HC.out⟩
end Go.Proofs.Ytnohfdojcdhfoaa
namespace Go.Proofs.Ytnohfdojcdhfoaa
open Go.RowKit
/-- A token. -/
structure TkV where
  sign : Int
  n : Int
  name : Int
def tkC (t : TkV) : List Value := [.int .i32 t.sign, .int .i64 t.n, .int .i32 t.name]
def tkCs : List TkV → List Value
  | [] => []
  | t :: l => tkC t ++ tkCs l
theorem tkCs_len : ∀ l, (tkCs l).length = l.length * 3
  | [] => rfl
  | t :: l => by rw [tkCs, List.length_append, tkCs_len l]; simp [tkC]; omega
theorem tkCs_app : ∀ l m, tkCs (l ++ m) = tkCs l ++ tkCs m
  | [], _ => rfl
  | t :: l, m => by rw [List.cons_append, tkCs, tkCs, tkCs_app l m, List.append_assoc]
theorem tkCs_one (t : TkV) : tkCs [t] = tkC t := by simp [tkCs]
theorem tkCs_get : ∀ (l : List TkV) (k : Nat) (t : TkV) (j : Nat), l[k]? = some t → j < 3 → (tkCs l)[k * 3 + j]? = (tkC t)[j]?
  | [], k, t, j, h, hj => by simp at h
  | u :: l, 0, t, j, h, hj => by
    simp at h; subst h
    rw [tkCs, List.getElem?_append_left (by simp [tkC]; omega)]
    congr 1; omega
  | u :: l, k + 1, t, j, h, hj => by
    simp at h
    rw [tkCs, List.getElem?_append_right (by simp [tkC]; omega)]
    rw [← tkCs_get l k t j h hj]
    congr 1; simp [tkC]; omega
def signs (l : List TkV) : List Int := l.map (·.sign)
theorem info_token : (Try.prog.info? 121).map (fun i => (i.zero, i.size, i.bytes)) = some (some (.agg #[.int .i32 0, .int .i64 0, .int .i32 0]), 3, 24) := by kernel_rfl
/-- The slice value '.slice A n c' is the tokens l. -/
structure Tks (W : World) (A : Option Addr) (n c : Nat) (l : List TkV) : Prop where
  len : l.length = n
  src : Src W A (tkCs l)
  cap : n ≤ c
  max : n ≤ 100000
  spot : 0 < n → ∀ ad, A = some ad → ad.spot = none
section
variable {W W' : World} {A : Option Addr} {n c : Nat} {l : List TkV}
theorem Tks.keep (h : Tks W A n c l) (hc : Chg [] W W') : Tks W' A n c l := ⟨h.len, h.src.keep hc, h.cap, h.max, h.spot⟩
theorem Tks.nil (W : World) : Tks W none 0 0 [] := ⟨rfl, Src.nil _ _, Nat.le_refl _, by omega, fun h => absurd h (by omega)⟩
theorem Tks.cell (h : Tks W A n c l) {k : Nat} {t : TkV} (hk : l[k]? = some t) : ∃ b o, A = some ⟨b, o, none⟩ ∧ b < W.heap.size ∧ W.cell? ⟨b, o + k * 3, none⟩ = some (.int .i32 t.sign) ∧ W.cell? ⟨b, o + k * 3 + 1, none⟩ = some (.int .i64 t.n) ∧ W.cell? ⟨b, o + k * 3 + 2, none⟩ = some (.int .i32 t.name) := by
  have hkl := (List.getElem?_eq_some_iff.1 hk).1
  obtain ⟨⟨b, o, s⟩, e, hb, hx⟩ := h.src (by rw [tkCs_len]; omega)
  obtain rfl : s = none := h.spot (by have := h.len; omega) _ e
  refine ⟨b, o, e, hb, ?_, ?_, ?_⟩
  · have := hx _ _ ((tkCs_get l k t 0 hk (by omega)).trans rfl); rwa [add_plain] at this
  · have := hx _ _ ((tkCs_get l k t 1 hk (by omega)).trans rfl); rwa [add_plain] at this
  · have := hx _ _ ((tkCs_get l k t 2 hk (by omega)).trans rfl); rwa [add_plain] at this
theorem Tks.of_own {B : Nat} {e : TypeId} {v : Value} (h : W.ownsRow B e 3 v n (tkCs l)) (hm : n ≤ 100000) : ∃ A c, v = .slice A n c ∧ Tks W A n c l := by
  have hl : l.length = n := by have := h.1; rw [tkCs_len] at this; omega
  rcases h.2 with ⟨rfl, rfl⟩ | ⟨g, cap, cur, rfl, hb, hg, hn, hc, hs, ht⟩
  · exact ⟨none, 0, rfl, hl, fun h => absurd h (by rw [tkCs_len]; omega), Nat.le_refl _, by omega, fun h => absurd h (by omega)⟩
  · refine ⟨_, cap, rfl, hl, fun _ => ⟨_, rfl, ?_, fun j u hj => h.cells rfl j u hj⟩, hn, hm, fun _ ad e => by injection e with e; subst e; rfl⟩
    rcases Nat.lt_or_ge g W.heap.size with hlt | hge
    · exact hlt
    · rw [Array.getElem?_eq_none hge] at hg; cases hg
end
end Go.Proofs.Ytnohfdojcdhfoaa
