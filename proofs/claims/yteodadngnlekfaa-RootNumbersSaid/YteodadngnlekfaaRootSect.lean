/-
  Layer 5: sectors that are written; the best of two of them.
-/
import Derived.Test.YteodadngnlekfaaRootPure
import Derived.Laws.CopyOwn
namespace Go.Proofs.Yteodadngnlekfaa
open Go.RowKit
/-- The state behind the first k sectors. -/
def bestK (n : Nat) (S : List UInt8) : Nat → RV
  | 0 => RV.zero
  | k + 1 => bestStep n (bestK n S k) (sectL S n k)
theorem bestK_lt (n : Nat) (S : List UInt8) : ∀ k, (bestK n S k).log < 4294967296 ∧ (bestK n S k).pages < 4294967296 ∧ (bestK n S k).epoch < 4294967296
  | 0 => ⟨by show 0 < _; omega, by show 0 < _; omega, by show 0 < _; omega⟩
  | k + 1 => bestStep_lt (bestK_lt n S k)
theorem sect_same {S x : List UInt8} {n k : Nat} (hS : S.length = 64 * n) (hk : k < n) (hx : x.length = 64) : sectL (splice S (k * 64) x) n k = x := by
  unfold sectL splice
  rw [if_pos hk, List.drop_left' (by rw [List.length_take]; omega), List.take_left' hx]
theorem sect_other {S x : List UInt8} {n k j : Nat} (hS : S.length = 64 * n) (hk : k < n) (hx : x.length = 64) (hj : j ≠ k) : sectL (splice S (k * 64) x) n j = sectL S n j := by
  unfold sectL splice
  split
  · rcases Nat.lt_or_ge j k with h | h
    · rw [List.drop_append_of_le_length (by rw [List.length_take]; omega), List.take_append_of_le_length (by rw [List.length_drop, List.length_take]; omega), List.drop_take, List.take_take, Nat.min_eq_left (by omega)]
    · have hl : (S.take (k * 64) ++ x).length = k * 64 + 64 := by rw [List.length_append, List.length_take, hx]; omega
      rw [← List.append_assoc, List.drop_append, List.drop_eq_nil_of_le (by omega), List.nil_append, hl, hx, List.drop_drop]
      congr 2
      omega
  · rfl
theorem sect_zeros (n k j : Nat) (h : 64 * n = k) : sectL (zeros k) n j = if j < n then zeros 64 else [] := by
  subst h
  unfold sectL zeros
  split
  · rw [List.drop_replicate, List.take_replicate]
    congr 1
    omega
  · rfl
theorem zeros_no : ¬ isRoot (zeros 64) := fun h => by
  have := isRoot_mark h
  revert this
  decide
theorem step_no {n : Int} {o : RV} {l : List UInt8} (h : ¬ isRoot l) : bestStep n o l = o := by
  unfold bestStep
  rw [if_neg (fun hh => h hh.1)]
theorem step_yes {n : Int} {o : RV} {a b c : Nat} (ha : a ≤ 2147483647) (hb : b ≤ 2147483647) (hc : c < 4294967296) (hr : rightR a b c n = true) (ho : o.epoch < c) : bestStep n o (rootL a b c) = ⟨a, b, c⟩ := by
  obtain ⟨hi, g4, g8, g12⟩ := root_is a b c ha hb hc
  unfold bestStep
  rw [g4, g8, g12, if_pos ⟨hi, hr, ho⟩]
theorem step_old {n : Int} {o : RV} {a b c : Nat} (ha : a ≤ 2147483647) (hb : b ≤ 2147483647) (hc : c < 4294967296) (ho : c ≤ o.epoch) : bestStep n o (rootL a b c) = o := by
  obtain ⟨hi, g4, g8, g12⟩ := root_is a b c ha hb hc
  unfold bestStep
  rw [g4, g8, g12, if_neg (fun hh => by have := hh.2.2; omega)]
/-- Two roots that are right, the second one later. -/
theorem best_two {S : List UInt8} {n k a b c d : Nat} (ha : a ≤ 2147483647) (hb : b ≤ 2147483647) (hc : c < 4294967296) (hd : d < 4294967296) (hr : rightR a b c n = true) (hr2 : rightR a b d n = true) (hcd : c < d) (hk : k < 2)
    (h1 : sectL S n k = rootL a b c) (h2 : sectL S n (1 - k) = rootL a b d) : bestK n S 2 = ⟨a, b, d⟩ := by
  have hc1 := (rightR_true.1 hr).2.2.2.2.2
  show bestStep n (bestStep n RV.zero (sectL S n 0)) (sectL S n 1) = _
  match k, hk with
  | 0, _ =>
    have h2' : sectL S n 1 = rootL a b d := h2
    rw [h1, h2', step_yes ha hb hc hr (by show 0 < c; omega), step_yes ha hb hd hr2 hcd]
  | 1, _ =>
    have h2' : sectL S n 0 = rootL a b d := h2
    rw [h1, h2', step_yes ha hb hd hr2 (by show 0 < d; omega), step_old ha hb hc (by show c ≤ d; omega)]
/-- One root that is right, beside none. -/
theorem best_one {S : List UInt8} {n k a b c : Nat} (ha : a ≤ 2147483647) (hb : b ≤ 2147483647) (hc : c < 4294967296) (hr : rightR a b c n = true) (hk : k < 2)
    (h1 : sectL S n k = rootL a b c) (h2 : ¬ isRoot (sectL S n (1 - k))) : bestK n S 2 = ⟨a, b, c⟩ := by
  have hc1 := (rightR_true.1 hr).2.2.2.2.2
  show bestStep n (bestStep n RV.zero (sectL S n 0)) (sectL S n 1) = _
  match k, hk with
  | 0, _ =>
    have h2' : ¬ isRoot (sectL S n 1) := h2
    rw [step_no h2', h1, step_yes ha hb hc hr (by show 0 < c; omega)]
  | 1, _ =>
    have h2' : ¬ isRoot (sectL S n 0) := h2
    rw [h1, step_no h2', step_yes ha hb hc hr (by show 0 < c; omega)]
theorem best_none {S : List UInt8} {n : Nat} (h1 : ¬ isRoot (sectL S n 0)) (h2 : ¬ isRoot (sectL S n 1)) : bestK n S 2 = RV.zero := by
  show bestStep n (bestStep n RV.zero (sectL S n 0)) (sectL S n 1) = _
  rw [step_no h2, step_no h1]
end Go.Proofs.Yteodadngnlekfaa
