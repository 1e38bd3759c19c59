/-
  Layer 16: Records.
-/
import Derived.Test.YtlhkmbcjgdjegaaRedo
import Derived.Test.YtlhkmbcjgdjegaaFrmScan
import Derived.Test.YtlhkmbcjgdjegaaDeltaRead
namespace Go.Proofs.Ytlhkmbcjgdjegaa
open Go.RowKit
/-- Are these bytes changes? -/
def okR (P : Int) (b : List UInt8) : Prop := 2 ≤ b.length ∧ b.length = 2 + num2 b * 66 ∧ rightB P (chsOf b (num2 b)) = true
instance (P : Int) (b : List UInt8) : Decidable (okR P b) := by unfold okR; exact inferInstance
def recM (b : List UInt8) : List ChV := chsOf b (num2 b)
/-- The records as far as they are changes, and how long they are. -/
def recF (P : Int) : List (List UInt8) → List (List ChV) × Nat
  | [] => ([], 0)
  | b :: rs => if okR P b then (recM b :: (recF P rs).1, 16 + b.length + (recF P rs).2) else ([], 0)
def lenS (rs : List (List UInt8)) : Nat := (rs.map fun b => 16 + b.length).sum
theorem recF_stop (P : Int) : ∀ (rs : List (List UInt8)) (k : Nat), k ≤ rs.length → (∀ (j : Nat) b, j < k → rs[j]? = some b → okR P b) → (∀ b, rs[k]? = some b → ¬ okR P b) → recF P rs = ((rs.take k).map recM, lenS (rs.take k))
  | [], k, _, _, _ => by simp [recF, lenS]
  | b :: rs, 0, _, _, h => by
    have := h b rfl
    simp [recF, this, lenS]
  | b :: rs, k + 1, hk, h1, h2 => by
    have hb := h1 0 b (by omega) rfl
    have ih := recF_stop P rs k (by simpa using hk) (fun j c hj hc => h1 (j + 1) c (by omega) (by simpa using hc)) (fun c hc => h2 c (by simpa using hc))
    rw [recF, if_pos hb, ih]
    simp [lenS]
theorem lenS_next (rs : List (List UInt8)) (k : Nat) (b : List UInt8) (h : rs[k]? = some b) : lenS (rs.take (k + 1)) = lenS (rs.take k) + (16 + b.length) := by
  obtain ⟨hk, he⟩ := List.getElem?_eq_some_iff.1 h
  unfold lenS
  rw [List.take_succ_eq_append_getElem hk, List.map_append, List.sum_append, he]
  simp
theorem recM_next (rs : List (List UInt8)) (k : Nat) (b : List UInt8) (h : rs[k]? = some b) : (rs.take (k + 1)).map recM = (rs.take k).map recM ++ [recM b] := by
  obtain ⟨hk, he⟩ := List.getElem?_eq_some_iff.1 h
  rw [List.take_succ_eq_append_getElem hk, List.map_append, he]
  rfl
theorem recM_len (b : List UInt8) : (recM b).length = num2 b := chsOf_len b _
/-- Lists of changes of the call's own. -/
def Recs (B : Nat) (w : World) (vs : List Value) (ms : List (List ChV)) : Prop :=
  vs.length = ms.length ∧ ∀ (i : Nat) (v : Value) (m : List ChV), vs[i]? = some v → ms[i]? = some m → ∃ ls, w.ownsRow B 53 2 v m.length (chCs ls) ∧ (∀ a ∈ ls, RMade w B a) ∧ ls.length = m.length ∧ asC ls m
theorem Recs.nil (B : Nat) (w : World) : Recs B w [] [] := ⟨rfl, fun i v m hv => by simp at hv⟩
theorem Recs.keep {B : Nat} {w w' : World} {vs : List Value} {ms : List (List ChV)} (h : Recs B w vs ms) (hc : Chg [] w w') : Recs B w' vs ms :=
  ⟨h.1, fun i v m hv hm => by obtain ⟨ls, h1, h2, h3⟩ := h.2 i v m hv hm; exact ⟨ls, rown_chg h1 hc (by simp), fun a ha => (h2 a ha).chg hc (by simp), h3⟩⟩
theorem Recs.snoc {B : Nat} {w : World} {vs : List Value} {ms : List (List ChV)} (h : Recs B w vs ms) {v : Value} {m ls : List ChV} (h1 : w.ownsRow B 53 2 v m.length (chCs ls)) (h2 : ∀ a ∈ ls, RMade w B a) (h3 : ls.length = m.length) (h4 : asC ls m) : Recs B w (vs ++ [v]) (ms ++ [m]) := by
  refine ⟨by simp [h.1], fun i u x hu hx => ?_⟩
  rcases Nat.lt_trichotomy i vs.length with hi | hi | hi
  · rw [List.getElem?_append_left hi] at hu
    rw [List.getElem?_append_left (by rw [← h.1]; exact hi)] at hx
    exact h.2 i u x hu hx
  · subst hi
    rw [List.getElem?_concat_length] at hu
    rw [h.1, List.getElem?_concat_length] at hx
    cases hu
    cases hx
    exact ⟨ls, h1, h2, h3, h4⟩
  · rw [List.getElem?_eq_none (by simp; omega)] at hu
    cases hu
theorem rown_grown {w w' : World} {B B2 n m k k2 : Nat} {e e2 : TypeId} {v v2 : Value} {xs ys : List Value} (h : w.ownsRow B e k v n xs) (h2 : w.ownsRow B2 e2 k2 v2 m ys) (hne : e ≠ e2) (hg : w.grownBy w' v2.ownBlock) : w'.ownsRow B e k v n xs := by
  refine ⟨h.1, h.2.imp id ?_⟩
  rintro ⟨g, cap, cur, rfl, hb, hh, r⟩
  exact ⟨g, cap, cur, rfl, hb, (by
    have hW : w.heap[g]? = some (.cells cur.toList.toArray e (0, 0)) := by simpa using hh
    have := whole_grown (show Whole w g e cur.toList from hW) h2 hne hg
    simpa [Whole] using this), r⟩
theorem RMade.grown2 {w w' : World} {B0 B2 e2 k2 m : Nat} {v2 : Value} {ys : List Value} {a : ChV} (h : RMade w B0 a) (h2 : w.ownsRow B2 e2 k2 v2 m ys) (hne : 5 ≠ e2) (hg : w.grownBy w' v2.ownBlock) : RMade w' B0 a := by
  obtain ⟨g, r, hg1, hB, hW, hr⟩ := h.b
  exact { h with b := ⟨g, r, hg1, hB, whole_grown hW h2 hne hg, hr⟩ }
theorem Recs.grown {B B2 m : Nat} {w w' : World} {vs : List Value} {ms : List (List ChV)} (h : Recs B w vs ms) {v2 : Value} {ys : List Value} (h2 : w.ownsRow B2 47 1 v2 m ys) (hg : w.grownBy w' v2.ownBlock) : Recs B w' vs ms :=
  ⟨h.1, fun i v m hv hm => by
    obtain ⟨ls, h1, h2', h3⟩ := h.2 i v m hv hm
    exact ⟨ls, rown_grown h1 h2 (by decide) hg, fun a ha => (h2' a ha).grown2 h2 (by decide) hg, h3⟩⟩
theorem RMade.more {w : World} {B0 B1 : Nat} {a : ChV} (h : RMade w B0 a) (hB : B1 ≤ B0) : RMade w B1 a := by
  obtain ⟨g, r, hg, hb, hW⟩ := h.b
  exact { h with b := ⟨g, r, hg, Nat.le_trans hB hb, hW⟩ }
theorem rown_more' {w : World} {B B' n k : Nat} {e : TypeId} {v : Value} {xs : List Value} (h : w.ownsRow B e k v n xs) (hB : B' ≤ B) : w.ownsRow B' e k v n xs := by
  refine ⟨h.1, h.2.imp id ?_⟩
  rintro ⟨g, cap, cur, rfl, hb, r⟩
  exact ⟨g, cap, cur, rfl, Nat.le_trans hB hb, r⟩
theorem Recs.more {B B' : Nat} {w : World} {vs : List Value} {ms : List (List ChV)} (h : Recs B w vs ms) (hB : B' ≤ B) : Recs B' w vs ms :=
  ⟨h.1, fun i v m hv hm => by obtain ⟨ls, h1, h2, h3⟩ := h.2 i v m hv hm; exact ⟨ls, rown_more' h1 hB, fun a ha => (h2 a ha).more hB, h3⟩⟩
def RecPost (w : World) (x : List (List ChV) × Nat) (e : Ending) (w' : World) : Prop :=
  ∃ v vs, e = .returned (.tuple #[v, .int .i64 (x.2 : Int)]) ∧ w'.ownsRow w.heap.size 47 1 v x.1.length vs ∧ Recs w.heap.size w' vs x.1 ∧ Chg [] w w'
/-- How many frames there are, and how long. -/
theorem itS_small (l : List UInt8) (ep : Nat) : ∀ k, (itS l ep k).1.length ≤ k ∧ ∀ r ∈ (itS l ep k).1, r.length ≤ l.length
  | 0 => ⟨Nat.le_refl _, fun r hr => by simp [itS] at hr⟩
  | k + 1 => by
    obtain ⟨h1, h2⟩ := itS_small l ep k
    show (stepS l ep (itS l ep k)).1.length ≤ k + 1 ∧ ∀ r ∈ (stepS l ep (itS l ep k)).1, r.length ≤ l.length
    by_cases h : readOk (l.drop (itS l ep k).2) ep (itS l ep k).1.length
    · rw [stepS_yes h]
      refine ⟨by simp; omega, fun r hr => ?_⟩
      rcases List.mem_append.1 hr with h3 | h3
      · exact h2 r h3
      · simp only [List.mem_cons, List.not_mem_nil, or_false] at h3
        subst h3
        unfold recL
        rw [List.length_take, List.length_drop, List.length_drop]; omega
    · rw [stepS_no h]
      exact ⟨by omega, h2⟩
theorem scanS_small (l : List UInt8) (ep : Nat) : (scanS l ep).1.length ≤ l.length + 1 ∧ ∀ r ∈ (scanS l ep).1, r.length ≤ l.length := itS_small l ep _
theorem logL_small (s : St) (L P E : Int) : (logL s L P E).length ≤ 4096 := by
  unfold logL
  split
  · rename_i h
    have := rightR_true.1 h
    unfold logB; rw [List.length_take]; omega
  · simp
/-- What Records answers. -/
noncomputable def recsS (s : St) (L P : Int) (ep : Nat) : List (List ChV) × Nat := recF P (scanS (logL s L P ep) ep).1
/-- Frames as a fact. -/
def scanF (B : Nat) (x : List (List UInt8) × Nat) : Fact := fun v W => ∃ v1 vs, v = .tuple #[v1, .int .i64 (x.2 : Int)] ∧ W.ownsRow B 22 1 v1 x.1.length vs ∧ Rows B W vs x.1
theorem keeps_scan (B : Nat) (x : List (List UInt8) × Nat) : Keeps (Chg []) (scanF B x) := fun _ _ _ ⟨v1, vs, h1, h2, h3⟩ hc => ⟨v1, vs, h1, own_keep h2 hc, h3.keep hc⟩
theorem info_chs : (Try.prog.info? 47).map (fun i => (i.zero, i.size, i.bytes)) = some (some (.slice none 0 0), 1, 24) := by kernel_rfl
end Go.Proofs.Ytlhkmbcjgdjegaa
