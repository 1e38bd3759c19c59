/-
  Frames as lists of bytes; package frame's Bytes, Read, and the reference's: contracts.
-/
import Derived.Test.YtlhkmbcjgdjegaaSumK
import Derived.Test.YtlhkmbcjgdjegaaSumB
import Derived.Test.YtlhkmbcjgdjegaaTurn
import Derived.Test.YtlhkmbcjgdjegaaLawB
import Derived.Test.YtlhkmbcjgdjegaaBsMore
namespace Go.Proofs.Ytlhkmbcjgdjegaa
open Go.RowKit

def headL (ep sq : Nat) (l : List UInt8) : List UInt8 := be4 ep ++ be4 sq ++ be4 (l.length % 4294967296) ++ l
def frameL (ep sq : Nat) (l : List UInt8) : List UInt8 := headL ep sq l ++ be4 (sumK (headL ep sq l))
theorem headL_len (ep sq : Nat) (l : List UInt8) : (headL ep sq l).length = 12 + l.length := by simp only [headL, List.length_append, be4_len]
theorem frameL_len (ep sq : Nat) (l : List UInt8) : (frameL ep sq l).length = 16 + l.length := by simp only [frameL, List.length_append, be4_len, headL_len]; omega

/-- The first k of some numbers, as bytes. -/
def preL (N : List Nat) (k : Nat) : List UInt8 := (N.take k).flatMap be4
theorem preL_next (N : List Nat) (k : Nat) (h : k < N.length) : preL N (k + 1) = preL N k ++ be4 N[k] := by
  unfold preL
  rw [List.take_succ_eq_append_getElem h, List.flatMap_append]
  simp
theorem preL_len (N : List Nat) (k : Nat) (h : k ≤ N.length) : (preL N k).length = 4 * k := by
  induction k with
  | zero => simp [preL]
  | succ k ih => rw [preL_next N k (by omega), List.length_append, be4_len, ih (by omega)]; omega
def u32s (N : List Nat) : List Value := N.map fun (q : Nat) => Value.int .u32 (q : Int)
section
variable {w : World} {A : Option Addr} {n c : Nat} {l : List UInt8}
theorem bytesPost_bs {w' : World} {e : Ending} (h : BytesPost w l e w') : ∃ A c, e = .returned (.slice A l.length c) ∧ Bs w' A l.length c l ∧ w'.ownsRow w.heap.size 5 1 (.slice A l.length c) l.length (bts l) ∧ Chg [] w w' := by
  obtain ⟨v, rfl, ho, hc⟩ := h
  obtain ⟨A, c, rfl, hB, _⟩ := Bs.of_own ho
  exact ⟨A, c, rfl, hB, ho, hc⟩

end
end Go.Proofs.Ytlhkmbcjgdjegaa
