/-
  Numbers in bytes and sums, without frames.
-/
import Derived.Test.YtlhkmbcjgdjegaaSumB
import Derived.Test.YtlhkmbcjgdjegaaTurn
import Derived.Test.YtlhkmbcjgdjegaaLawB
import Derived.Test.YtlhkmbcjgdjegaaBsMore
namespace Go.Proofs.Ytlhkmbcjgdjegaa
open Go.RowKit

/-- The sum of bytes, as a number. -/
def sumK (l : List UInt8) : Nat := sumN 2166136261 l
theorem sumK_lt (l : List UInt8) : sumK l < 4294967296 := sumN_lt l _ (by omega)
theorem sumL_K (l : List UInt8) : sumL 2166136261 l = (sumK l : Nat) := by
  have h := sum_nat l 2166136261 (by omega)
  have e : ((2166136261 : Nat) : Int) = 2166136261 := rfl
  rw [e] at h
  exact h

theorem numB_of_be4 (k : Nat) (hk : k < 4294967296) : numB (be4 k) = k := by
  simp only [numB, be4, List.foldl_cons, List.foldl_nil, UInt8.toNat_ofNat']
  omega
theorem be4_of_numB (l : List UInt8) (h : l.length = 4) : be4 (numB l) = l := by
  match l, h with
  | [a, b, c, d], _ =>
    have h1 := a.toNat_lt
    have h2 := b.toNat_lt
    have h3 := c.toNat_lt
    have h4 := d.toNat_lt
    simp only [numB, List.foldl_cons, List.foldl_nil, be4, List.cons.injEq, and_true]
    refine ⟨?_, ?_, ?_, ?_⟩ <;> apply UInt8.toNat_inj.1 <;> rw [UInt8.toNat_ofNat'] <;> omega
theorem getI_put (l m : List UInt8) (k : Nat) (hk : k < 4294967296) (i : Int) (hi : i = l.length) : getI (l ++ (be4 k ++ m)) i = k := by
  subst hi
  unfold getI
  rw [if_pos ⟨by omega, by simp only [List.length_append, be4_len]; omega⟩, Int.toNat_natCast, List.drop_left, List.take_left' (be4_len k), numB_of_be4 k hk]
theorem getI_is {l : List UInt8} {i : Nat} (h : i + 4 ≤ l.length) : getI l (i : Int) = numB ((l.drop i).take 4) := by
  unfold getI
  rw [if_pos ⟨by omega, by omega⟩, Int.toNat_natCast]
theorem getI_take {l : List UInt8} {i k : Nat} (h : i + 4 ≤ k) (hk : k ≤ l.length) : getI (l.take k) (i : Int) = getI l (i : Int) := by
  rw [getI_is (by rw [List.length_take]; omega), getI_is (by omega), List.drop_take, List.take_take, Nat.min_eq_left (by omega)]
theorem getI_same {l m : List UInt8} {i : Nat} (hl : i + 4 ≤ l.length) (hm : i + 4 ≤ m.length) (h : getI l (i : Int) = getI m (i : Int)) (k : Nat) (h1 : i ≤ k) (h2 : k < i + 4) : l[k]? = m[k]? := by
  rw [getI_is hl, getI_is hm] at h
  have h3 := congrArg be4 h
  rw [be4_of_numB _ (by rw [List.length_take, List.length_drop]; omega), be4_of_numB _ (by rw [List.length_take, List.length_drop]; omega)] at h3
  have h4 := congrArg (fun x : List UInt8 => x[k - i]?) h3
  simp only [List.getElem?_take, List.getElem?_drop] at h4
  rw [if_pos (by omega), if_pos (by omega), show i + (k - i) = k by omega] at h4
  exact h4
theorem getI_set {l : List UInt8} {i k : Nat} {d : UInt8} (h : i + 4 ≤ l.length) (hk : k < i ∨ i + 4 ≤ k) : getI (l.set k d) (i : Int) = getI l (i : Int) := by
  rw [getI_is (by rw [List.length_set]; exact h), getI_is h]
  congr 1
  apply List.ext_getElem?
  intro j
  simp only [List.getElem?_take, List.getElem?_drop]
  split
  · rw [List.getElem?_set_ne (by omega)]
  · rfl

theorem sumK_turn (l : List UInt8) (k : Nat) (hk : k < l.length) (d : UInt8) (hd : d ≠ l[k]) : sumK (l.set k d) ≠ sumK l := by
  intro h
  have := sum_turn l k hk d hd
  rw [sumL_K, sumL_K, h] at this
  exact this rfl
end Go.Proofs.Ytlhkmbcjgdjegaa
