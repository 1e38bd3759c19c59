/-
  Layer 4: Bytes.
-/
import Derived.Test.YtlhkmbcjgdjegaaDeltaGet
import Derived.Deep.RegionLaw
namespace Go.Proofs.Ytlhkmbcjgdjegaa
open Go.RowKit
def chB (a : ChV) : List UInt8 := be2 a.page.toNat ++ a.B
/-- Changes as bytes. -/
def chsB : List ChV → List UInt8
  | [] => []
  | a :: l => chB a ++ chsB l
theorem chsB_app : ∀ l m, chsB (l ++ m) = chsB l ++ chsB m
  | [], _ => rfl
  | a :: l, m => by rw [List.cons_append, chsB, chsB, chsB_app l m, List.append_assoc]
theorem chsB_next (l : List ChV) (k : Nat) (a : ChV) (h : l[k]? = some a) : chsB (l.take (k + 1)) = chsB (l.take k) ++ chB a := by
  obtain ⟨hk, rfl⟩ := List.getElem?_eq_some_iff.1 h
  rw [List.take_succ_eq_append_getElem hk, chsB_app]
  simp [chsB]
def bytesD (l : List ChV) : List UInt8 := be2 l.length ++ chsB l
section
variable {w : World} {A : Option Addr} {n c : Nat}
end
end Go.Proofs.Ytlhkmbcjgdjegaa
