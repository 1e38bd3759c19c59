/-
  Six numbers: laid one by one, sorted by insertion.
-/
import Derived.Test.YtnohfdojcdhfoaaZTopRun1
import Derived.Test.YtnohfdojcdhfoaaZTopRun2
import Derived.Test.YtnohfdojcdhfoaaZTopRun3
import Derived.Test.YtnohfdojcdhfoaaZTopRun4
import Derived.Test.YtnohfdojcdhfoaaZTopRun5
import Derived.Test.YtnohfdojcdhfoaaZTopRun6
import Derived.Test.YtnohfdojcdhfoaaZTopRun7
import Derived.Test.YtnohfdojcdhfoaaZTopRun8
import Derived.Test.YtnohfdojcdhfoaaZTopRun9
import Derived.Test.YtnohfdojcdhfoaaFrameZ
import Derived.Test.YtnohfdojcdhfoaaTopRunZ
import Derived.Test.YtnohfdojcdhfoaaTopAwakeZ
import Derived.Test.YtnohfdojcdhfoaaTopMaskZ
import Derived.Test.YtnohfdojcdhfoaaTopMemZ
import Derived.Test.YtnohfdojcdhfoaaTopSwapsPZ
import Derived.Test.YtnohfdojcdhfoaaTopSortsPZ
namespace Go.Proofs.Ytnohfdojcdhfoaa
open Go.RowKit
def nms6 (x : Nat → Int) : List Value := nms (row6 x)
theorem nms6_get (x : Nat → Int) {k : Nat} (hk : k < 6) : (nms6 x)[k]? = some (.int .i64 (x k)) := by
  have h : k = 0 ∨ k = 1 ∨ k = 2 ∨ k = 3 ∨ k = 4 ∨ k = 5 := by omega
  rcases h with rfl | rfl | rfl | rfl | rfl | rfl <;> rfl
def setF (x : Nat → Int) (k : Nat) (v : Int) (j : Nat) : Int := if j = k then v else x j
theorem nms6_set (x : Nat → Int) {k : Nat} (hk : k < 6) (v : Int) : (nms6 x).set k (.int .i64 v) = nms6 (setF x k v) := by
  have h : k = 0 ∨ k = 1 ∨ k = 2 ∨ k = 3 ∨ k = 4 ∨ k = 5 := by omega
  rcases h with rfl | rfl | rfl | rfl | rfl | rfl <;> rfl
theorem setF_self (x : Nat → Int) (k : Nat) : setF x k (x k) = x := by
  funext j
  unfold setF
  split
  · rename_i h; rw [h]
  · rfl
/-- The first k of a list, zeros behind. -/
def firsts (l : List Int) (k j : Nat) : Int := if j < k then l.getD j 0 else 0
theorem firsts_next (l : List Int) (k : Nat) : setF (firsts l k) k (l.getD k 0) = firsts l (k + 1) := by
  funext j
  unfold setF firsts
  by_cases h : j = k
  · subst h; rw [if_pos rfl, if_pos (by omega)]
  · rw [if_neg h]
    by_cases h2 : j < k
    · rw [if_pos h2, if_pos (by omega)]
    · rw [if_neg h2, if_neg (by omega)]
theorem firsts_none (l : List Int) {k : Nat} (h : l.length ≤ k) : l.getD k 0 = 0 := by
  rw [List.getD_eq_getElem?_getD, List.getElem?_eq_none h]; rfl
theorem Six.put {L : List UInt8} {x : Nat → Int} (h : Six L x) {k : Nat} (hk : k < 6) {v : Int} (hv : In64 v) : Six (stL L (8 * k) v 8) (setF x k v) := by
  have hl := h.len
  refine ⟨by rw [stL_len]; exact hl, fun j hj => ?_, fun j hj => ?_⟩
  · unfold setF
    by_cases hjk : j = k
    · subst hjk
      rw [if_pos rfl]
      exact ldI_st _ _ _ hv (by omega)
    · rw [if_neg hjk, ldI_out _ _ _ _ _ _ (by omega)]
      exact h.at_ j hj
  · unfold setF
    split
    · exact hv
    · exact h.in_ j hj
theorem six_zero : Six (zeros 64) (firsts [] 0) := by
  refine ⟨by rw [zeros_len], fun k hk => ?_, fun k hk => by unfold firsts In64; simp⟩
  have h : k = 0 ∨ k = 1 ∨ k = 2 ∨ k = 3 ∨ k = 4 ∨ k = 5 := by omega
  rcases h with rfl | rfl | rfl | rfl | rfl | rfl <;> decide +kernel
/-- All but those behind j are in their order up to k. -/
def Ins (y : Nat → Int) (k j : Nat) : Prop := ∀ p q, p < q → q ≤ k → q ≠ j → y p ≤ y q
theorem ins_start {y : Nat → Int} {k : Nat} (h : ∀ p q, p < q → q < k → y p ≤ y q) : Ins y k k := fun p q hpq hq hne => h p q hpq (by omega)
theorem ins_swap {y : Nat → Int} {k j : Nat} (h : Ins y k (j + 1)) (hj : j + 1 ≤ k) (hlt : y (j + 1) < y j) : Ins (swapF y j) k j := by
  intro p q hpq hq hne
  unfold swapF
  rw [if_neg hne]
  by_cases hp : p = j
  · subst hp
    rw [if_pos rfl]
    by_cases hq1 : q = p + 1
    · subst hq1; rw [if_pos rfl]; omega
    · rw [if_neg hq1]
      exact h (p + 1) q (by omega) hq hq1
  · rw [if_neg hp]
    by_cases hq1 : q = j + 1
    · subst hq1
      rw [if_pos rfl]
      by_cases hp1 : p = j + 1
      · omega
      · rw [if_neg hp1]
        exact h p j (by omega) (by omega) (by omega)
    · rw [if_neg hq1]
      by_cases hp1 : p = j + 1
      · subst hp1
        rw [if_pos rfl]
        exact h j q (by omega) hq hq1
      · rw [if_neg hp1]
        exact h p q hpq hq hq1
theorem ins_zero {y : Nat → Int} {k : Nat} (h : Ins y k 0) : ∀ p q, p < q → q < k + 1 → y p ≤ y q := fun p q hpq hq => h p q hpq (by omega) (by omega)
theorem ins_end {y : Nat → Int} {k j : Nat} (h : Ins y k (j + 1)) (hle : y j ≤ y (j + 1)) : ∀ p q, p < q → q < k + 1 → y p ≤ y q := fun p q hpq hq => by
  by_cases hq1 : q = j + 1
  · subst hq1
    by_cases hp : p = j
    · subst hp; exact hle
    · exact Int.le_trans (h p j (by omega) (by omega) (by omega)) hle
  · exact h p q hpq (by omega) hq1
theorem swapF_set (y : Nat → Int) {j : Nat} (hj : j < 5) : ((nms6 y).set j (.int .i64 (y (j + 1)))).set (j + 1) (.int .i64 (y j)) = nms6 (swapF y j) := by
  rw [nms6_set y (by omega), nms6_set _ (by omega)]
  congr 1
  funext i
  unfold setF swapF
  by_cases h1 : i = j + 1
  · subst h1; rw [if_pos rfl, if_neg (by omega), if_pos rfl]
  · rw [if_neg h1]
    by_cases h2 : i = j
    · rw [if_pos h2, if_pos h2]
    · rw [if_neg h2, if_neg h2, if_neg h1]
theorem swapF_in {y : Nat → Int} {j : Nat} (hj : j < 5) (h : ∀ k, k < 6 → In64 (y k)) : ∀ k, k < 6 → In64 (swapF y j k) := fun k hk => by
  unfold swapF
  split
  · exact h _ (by omega)
  · split
    · exact h _ (by omega)
    · exact h _ hk
end Go.Proofs.Ytnohfdojcdhfoaa
