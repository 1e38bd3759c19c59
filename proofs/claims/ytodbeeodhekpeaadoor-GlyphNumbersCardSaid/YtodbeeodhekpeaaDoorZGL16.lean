/-
  GL: NestPure.
-/
namespace Go.Proofs.YtodbeeodhekpeaaDoor
/-- An if or a loop that is open. -/
structure NPart where
  loop : Bool
  at_ : Nat
  waits : Nat
  left : List Nat
/-- The program's state: the innermost part first. -/
structure NSt where
  «to» : List Int
  deep : Nat
  op : List NPart
/-- The reference's state: where each open part's last sign lies. -/
structure RSt where
  «to» : List Int
  deep : Nat
  op : List Nat
def rTake (ss : List Int) (i : Nat) (s : Int) (m : RSt) : Option RSt :=
  if s = 63 ∨ s = 91 then
    if m.op.length + 1 ≤ 16 then some ⟨m.to, max m.deep (m.op.length + 1), i :: m.op⟩ else none
  else if s = 58 then match m.op with
    | p :: r => if ss[p]? = some 63 then some ⟨m.to.set p ((i : Int) + 1), m.deep, i :: r⟩ else none
    | [] => none
  else if s = 59 then match m.op with
    | p :: r => if ss[p]? = some 91 then none else some ⟨m.to.set p (i : Int), m.deep, r⟩
    | [] => none
  else if s = 93 then match m.op with
    | p :: r => if ss[p]? = some 91 then some ⟨m.to.set i (p : Int), m.deep, r⟩ else none
    | [] => none
  else some m
def rRun (ss : List Int) : Nat → List Int → RSt → Option RSt
  | _, [], m => some m
  | i, s :: r, m => (rTake ss i s ⟨m.to.set i (-1), m.deep, m.op⟩).bind (rRun ss (i + 1) r)
/-- What is open for the program, and for the reference. -/
structure Part (ss : List Int) (n : Nat) (p : NPart) : Prop where
  lt : p.at_ < n
  ltw : p.waits < n
  le : p.at_ ≤ p.waits
  loop : p.loop = true → p.waits = p.at_ ∧ ss[p.at_]? = some 91
  if_ : p.loop = false → ss[p.at_]? = some 63 ∧ (p.waits = p.at_ ∨ ss[p.waits]? = some 58)
theorem Part.more {ss : List Int} {n k : Nat} {p : NPart} (h : Part ss n p) (hk : n ≤ k) : Part ss k p := ⟨by have := h.lt; omega, by have := h.ltw; omega, h.le, h.loop, h.if_⟩
/-- A ] whose part was opened ahead of place j, or not. -/
def Behind (ss : List Int) (t : List Int) (j a b : Nat) : Prop := ∀ k, j ≤ k → a ≤ k → k < b → ss[k]? = some 93 → ∃ v, t[k]? = some v ∧ (j : Int) ≤ v
structure Sim (ss : List Int) (n : Nat) (m : NSt) (r : RSt) : Prop where
  deep : m.deep = r.deep
  op : m.op.map (·.waits) = r.op
  lenM : m.to.length = ss.length
  lenR : r.to.length = ss.length
  parts : ∀ p ∈ m.op, Part ss n p
  desc : m.op.Pairwise fun p q => q.waits < p.at_
  same : ∀ j : Nat, ss[j]? ≠ some 126 → m.to[j]? = r.to[j]?
  pend : ∀ p ∈ m.op, ∀ j ∈ p.left, p.loop = true ∧ ss[j]? = some 126 ∧ p.waits < j ∧ j < n ∧ Behind ss r.to j 0 n ∧ ∀ q ∈ m.op, q.loop = true → p.at_ < q.at_ → j < q.at_
  done : ∀ j : Nat, j < n → ss[j]? = some 126 → (∃ p ∈ m.op, j ∈ p.left) ∨ ∃ k : Nat, j < k ∧ k < n ∧ m.to[j]? = some ((k : Int) + 1) ∧ ss[k]? = some 93 ∧ (∃ v, r.to[k]? = some v ∧ v < (j : Int)) ∧ Behind ss r.to j 0 k
theorem Behind.keep {ss t u : List Int} {j a b : Nat} (h : Behind ss t j a b) (hu : ∀ k : Nat, k < b → ss[k]? = some 93 → u[k]? = t[k]?) : Behind ss u j a b := fun k h1 h2 h3 h4 => by rw [hu k h3 h4]; exact h k h1 h2 h3 h4
theorem Behind.next {ss t : List Int} {j b : Nat} (h : Behind ss t j 0 b) (hb : ss[b]? = some 93 → ∃ v, t[b]? = some v ∧ (j : Int) ≤ v) : Behind ss t j 0 (b + 1) := fun k h1 h2 h3 h4 => by
  rcases Nat.lt_or_ge k b with hk | hk
  · exact h k h1 h2 hk h4
  · obtain rfl : k = b := by omega
    exact hb h4
/-- What no sign but ] changes. -/
theorem Sim.plain {ss : List Int} {n : Nat} {m : NSt} {r : RSt} (h : Sim ss n m r) {tm tr : List Int} {dm : Nat} {om : List NPart} (hn : ss[n]? ≠ some 93) (hn2 : ss[n]? ≠ some 126) (lm : tm.length = ss.length) (lr : tr.length = ss.length)
    (hsame : ∀ j : Nat, ss[j]? ≠ some 126 → tm[j]? = tr[j]?) (h9 : ∀ k : Nat, k < n → ss[k]? = some 93 → tr[k]? = r.to[k]?) (h6 : ∀ j : Nat, j < n → ss[j]? = some 126 → tm[j]? = m.to[j]?)
    (hparts : ∀ p ∈ om, Part ss (n + 1) p) (hdesc : om.Pairwise fun p q => q.waits < p.at_)
    (hleft : ∀ p ∈ om, p.left = [] ∨ ∃ p0 ∈ m.op, p0.left = p.left ∧ p0.loop = p.loop ∧ p0.at_ = p.at_ ∧ p0.waits = p.waits)
    (hleft2 : ∀ p ∈ m.op, p.left ≠ [] → ∃ p0 ∈ om, p0.left = p.left)
    (hloop : ∀ q ∈ om, q.loop = true → q.at_ = n ∨ ∃ q0 ∈ m.op, q0.loop = true ∧ q0.at_ = q.at_) :
    Sim ss (n + 1) ⟨tm, dm, om⟩ ⟨tr, dm, om.map (·.waits)⟩ where
  deep := rfl
  op := rfl
  lenM := lm
  lenR := lr
  parts := hparts
  desc := hdesc
  same := hsame
  pend := fun p hp j hj => by
    rcases hleft p hp with e | ⟨p0, hp0, e1, e2, e3, e4⟩
    · rw [e] at hj; cases hj
    · rw [← e1] at hj
      obtain ⟨a1, a2, a3, a4, a5, a6⟩ := h.pend p0 hp0 j hj
      refine ⟨by rw [← e2]; exact a1, a2, by omega, by omega, (a5.keep h9).next (fun h9' => absurd h9' hn), fun q hq hl hlt => ?_⟩
      rcases hloop q hq hl with e | ⟨q0, hq0, l0, e0⟩
      · omega
      · rw [← e0] at hlt ⊢
        exact a6 q0 hq0 l0 (by omega)
  done := fun j hj hs => by
    have hjn : j < n := by
      rcases Nat.lt_or_ge j n with hk | hk
      · exact hk
      · obtain rfl : j = n := by omega
        exact absurd hs hn2
    rcases h.done j hjn hs with ⟨p, hp, hj2⟩ | ⟨k, b1, b2, b3, b4, ⟨v, b5, b6⟩, b7⟩
    · obtain ⟨p0, hp0, e⟩ := hleft2 p hp (fun e => by rw [e] at hj2; cases hj2)
      exact .inl ⟨p0, hp0, by rw [e]; exact hj2⟩
    · exact .inr ⟨k, b1, by omega, by rw [h6 j hjn hs]; exact b3, b4, ⟨v, by rw [h9 k b2 b4]; exact b5, b6⟩, b7.keep (fun k' hk' h9' => h9 k' (by omega) h9')⟩
/-- A ~ at j that no loop is round: whatever comes, no ] behind it goes back ahead of it. -/
structure Dead (ss : List Int) (j n : Nat) (r : RSt) : Prop where
  lt : j < n
  len : r.to.length = ss.length
  open_ : ∀ w ∈ r.op, w < n ∧ (ss[w]? = some 63 ∨ ss[w]? = some 58 ∨ (ss[w]? = some 91 ∧ j < w))
  behind : Behind ss r.to j 0 n
/-- The reference's search for the place behind a ~'s loop. -/
def leavesV (ss t : List Int) (j : Nat) : Nat → Nat → Int
  | 0, _ => -1
  | f + 1, i => if ss[i]? = some 93 ∧ t.getD i 0 < (j : Int) then (i : Int) + 1 else leavesV ss t j f (i + 1)
/-- The reference's second pass. -/
def fillR (ss : List Int) : Nat → List Int → List Int → Option (List Int)
  | _, [], t => some t
  | i, s :: r, t => if s = 126 then (if leavesV ss t i (ss.length - i) i < 0 then none else fillR ss (i + 1) r (t.set i (leavesV ss t i (ss.length - i) i))) else fillR ss (i + 1) r t
def rNest (ss : List Int) : Option (List Int × Nat) :=
  (rRun ss 0 ss ⟨List.replicate ss.length 0, 0, []⟩).bind fun r => if r.op = [] then (fillR ss 0 ss r.to).map fun t => (t, r.deep) else none
end Go.Proofs.YtodbeeodhekpeaaDoor
