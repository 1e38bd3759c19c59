/-
  The contracts of marks and numbers, for a slice of bytes as it comes.
-/
import Derived.Test.YtlhkmbcjgdjegaaBs
import Derived.Test.YtlhkmbcjgdjegaaPut
import Derived.Test.YtlhkmbcjgdjegaaGet
namespace Go.Proofs.Ytlhkmbcjgdjegaa
open Go.RowKit
section
variable {w : World} {A : Option Addr} {n c : Nat} {l : List UInt8}
theorem sum_b (h : Bs w A n c l) : Calls Try.prog 133 #[.slice A n c] w fun e w' => e = .returned (.int .u32 (sumL 2166136261 l)) ∧ w = w' := sum_any h.len h.src h.le h.spot
theorem rsum_b (h : Bs w A n c l) : Calls Try.prog 107 #[.slice A n c] w fun e w' => e = .returned (.int .u32 (sumL 2166136261 l)) ∧ w = w' := rsum_any h.len h.src h.le h.spot
theorem put_b (h : Bs w A n c l) (k : Nat) (hk : k < 4294967296) (hn : n + 4 ≤ 140737488355328) : Calls Try.prog 102 #[.slice A n c, .int .u32 (k : Int)] w (BytesPost w (l ++ be4 k)) := put_any k hk h.len h.src hn
theorem rput_b (h : Bs w A n c l) (k : Nat) (hk : k < 4294967296) (hn : n + 4 ≤ 140737488355328) : Calls Try.prog 106 #[.slice A n c, .int .u32 (k : Int)] w (BytesPost w (l ++ be4 k)) := rput_any k hk h.len h.src hn
theorem get_b (h : Bs w A n c l) (i : Int) (hi : i ≤ 9223372036854775807) : Calls Try.prog 101 #[.slice A n c, .int .i64 i] w fun e w' => e = .returned (.int .u32 (getI l i : Nat)) ∧ w = w' := by
  unfold getI
  split
  · rename_i hc
    obtain ⟨k, rfl⟩ := Int.eq_ofNat_of_zero_le hc.1
    rw [Int.toNat_natCast]
    exact get_yes h.len h.src h.le h.spot k (by have := h.len; omega) h.cap h.max
  · rename_i hc
    exact get_no h.le i (by have := h.len; omega) hi
theorem rget_b (h : Bs w A n c l) (i : Int) (hi : i ≤ 9223372036854775807) : Calls Try.prog 136 #[.slice A n c, .int .i64 i] w fun e w' => e = .returned (.int .u32 (getI l i : Nat)) ∧ Chg [] w w' := by
  unfold getI
  split
  · rename_i hc
    obtain ⟨k, rfl⟩ := Int.eq_ofNat_of_zero_le hc.1
    rw [Int.toNat_natCast]
    exact rget_yes h.len h.src h.le h.spot k (by have := h.len; omega)
  · rename_i hc
    refine (rget_no h.le i (by have := h.len; omega) hi).mono ?_
    rintro e w' ⟨rfl, rfl⟩
    exact ⟨rfl, Chg.refl _ _⟩
end
end Go.Proofs.Ytlhkmbcjgdjegaa
