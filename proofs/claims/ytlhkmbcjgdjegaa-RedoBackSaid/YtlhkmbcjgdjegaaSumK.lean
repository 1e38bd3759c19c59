/-
  sum.Of and the reference's Sum as numbers.
-/
import Derived.Test.YtlhkmbcjgdjegaaNumPure
namespace Go.Proofs.Ytlhkmbcjgdjegaa
open Go.RowKit
theorem sumk_b {w : World} {A : Option Addr} {n c : Nat} {l : List UInt8} (h : Bs w A n c l) : Calls Try.prog 133 #[.slice A n c] w fun e w' => e = .returned (.int .u32 (sumK l : Nat)) ∧ w = w' := by
  rw [← sumL_K]; exact sum_b h
theorem rsumk_b {w : World} {A : Option Addr} {n c : Nat} {l : List UInt8} (h : Bs w A n c l) : Calls Try.prog 107 #[.slice A n c] w fun e w' => e = .returned (.int .u32 (sumK l : Nat)) ∧ w = w' := by
  rw [← sumL_K]; exact rsum_b h
end Go.Proofs.Ytlhkmbcjgdjegaa
