/-
  'make([]byte, n)' with bytes copied in.
-/
import Derived.Test.YtlhkmbcjgdjegaaBs
import Derived.Test.YtlhkmbcjgdjegaaFresh
namespace Go.Proofs.Ytlhkmbcjgdjegaa
open Go.RowKit
/-- n bytes, l at their beginning. -/
def padN (n : Nat) (l : List UInt8) : List UInt8 := splice (zeros n) 0 (l.take n)
theorem padN_len (n : Nat) (l : List UInt8) : (padN n l).length = n := by
  unfold padN splice
  simp only [List.take_zero, List.nil_append, Nat.zero_add, List.length_append, List.length_take, List.length_drop, zeros_len]
  omega
theorem src_take {w : World} {A : Option Addr} {m c : Nat} {l : List UInt8} (h : Bs w A m c l) (n : Nat) : Src w A (bts (l.take n)) := by
  intro hp
  obtain ⟨ad, e, hb, hx⟩ := h.src (by simp [bts] at hp ⊢; omega)
  refine ⟨ad, e, hb, fun j v hj => hx j v ?_⟩
  unfold bts at hj ⊢
  rw [List.map_take, List.getElem?_take] at hj
  split at hj
  · exact hj
  · cases hj
theorem take_min {w : World} {A : Option Addr} {m c : Nat} {l : List UInt8} (h : Bs w A m c l) (n : Nat) : (bts (l.take n)).length = Nat.min m n := by rw [bts_len, List.length_take, h.len]; exact Nat.min_comm _ _
theorem take_fits (n : Nat) (l : List UInt8) : 0 + (bts (l.take n)).length ≤ (bts (zeros n)).length := by rw [bts_len, bts_len, zeros_len, List.length_take]; omega
theorem padN_bts (n : Nat) (l : List UInt8) : splice (bts (zeros n)) 0 (bts (l.take n)) = bts (padN n l) := bts_splice _ _ _
end Go.Proofs.Ytlhkmbcjgdjegaa
