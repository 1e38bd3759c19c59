/-
  The bytes of two numbers in memory.
-/
import Derived.Test.YtnohfdojcdhfoaaZTopRun1
import Derived.Test.YtnohfdojcdhfoaaZTopRun2
import Derived.Test.YtnohfdojcdhfoaaZTopRun3
import Derived.Test.YtnohfdojcdhfoaaZTopRun4
import Derived.Test.YtnohfdojcdhfoaaZTopRun5
import Derived.Test.YtnohfdojcdhfoaaZTopRun6
import Derived.Test.YtnohfdojcdhfoaaZTopRun7
import Derived.Test.YtnohfdojcdhfoaaZTopRun8
import Derived.Test.YtnohfdojcdhfoaaZTopRun9
import Derived.Test.YtnohfdojcdhfoaaFrameZ
import Derived.Test.YtnohfdojcdhfoaaTopRunZ
import Derived.Test.YtnohfdojcdhfoaaTopAwakeZ
import Derived.Test.YtnohfdojcdhfoaaTopMaskZ
import Derived.Test.YtnohfdojcdhfoaaTopMemZ
import Derived.Test.YtnohfdojcdhfoaaTopSwapsPZ
namespace Go.Proofs.Ytnohfdojcdhfoaa
open Go.RowKit
theorem byteN_of (b : UInt8) : byteN (b.toNat : Int) 0 = b := by
  unfold byteN
  rw [Nat.mul_zero, Int.pow_zero, Int.ediv_one, show ((b.toNat : Int) % 256).toNat = b.toNat from by have := b.toNat_lt; omega]
  exact UInt8.ofNat_toNat
/-- The bytes of two numbers, one behind the other. -/
def bb (a b : Int) (k : Nat) : UInt8 := if k < 8 then byteN a k else byteN b (k - 8)
structure Has (a b : Int) (L : List UInt8) : Prop where
  len : L.length = 64
  two : ∀ k, k < 16 → L[k]? = some (bb a b k)
theorem has_first (a b : Int) : Has a b (stL (stL (List.replicate 64 0) 0 a 8) 8 b 8) := by
  refine ⟨by rw [stL_len, stL_len]; decide, fun k hk => ?_⟩
  unfold bb
  by_cases h : k < 8
  · rw [if_pos h, stL_out _ _ _ _ _ (by omega)]
    have := stL_get (List.replicate 64 0) 0 a 8 k h (by decide)
    rw [Nat.zero_add] at this
    exact this
  · rw [if_neg h]
    have := stL_get (stL (List.replicate 64 0) 0 a 8) 8 b 8 (k - 8) (by omega) (by rw [stL_len]; decide)
    rw [show 8 + (k - 8) = k from by omega] at this
    exact this
theorem Has.put {a b : Int} {L : List UInt8} (h : Has a b L) {j : Nat} (hj : 16 ≤ j) (v : Int) : Has a b (stL L j v 1) :=
  ⟨by rw [stL_len]; exact h.len, fun k hk => by rw [stL_out _ _ _ _ _ (by omega)]; exact h.two k hk⟩
theorem put_at {L : List UInt8} {j : Nat} (hj : j + 1 ≤ L.length) (x : UInt8) : (stL L j (x.toNat : Int) 1)[j]? = some x := by
  have := stL_get L j (x.toNat : Int) 1 0 (by omega) hj
  rw [Nat.add_zero, byteN_of] at this
  exact this
def sumF (g : Nat → Int) : Nat → Int
  | 0 => 0
  | n + 1 => sumF g n + g n
theorem sumF_le {g : Nat → Int} (hg : ∀ k, 0 ≤ g k ∧ g k ≤ 255) : ∀ n : Nat, 0 ≤ sumF g n ∧ sumF g n ≤ 255 * n
  | 0 => by simp [sumF]
  | n + 1 => by have := sumF_le hg n; have := hg n; rw [sumF]; omega
theorem bb_le (a b : Int) (k : Nat) : 0 ≤ ((bb a b k).toNat : Int) ∧ ((bb a b k).toNat : Int) ≤ 255 := by have := (bb a b k).toNat_lt; omega
/-- A byte as Go tells it. -/
theorem go_byte (n : Int) (m : Nat) (h : m < 8) : bits .and .u64 (n % 18446744073709551616 / 2 ^ (8 * m)) 255 = ((byteN n m).toNat : Int) := by
  rw [byteN_int]
  have h127 : (BitVec.ofInt 64 255).toNat = 2 ^ 8 - 1 := by decide
  have key : ∀ x : Int, bits .and .u64 x 255 = x % 256 := fun x => by
    have key : (BitVec.ofInt 64 x &&& BitVec.ofInt 64 255).toNat = (x % ((2 ^ 64 : Nat) : Int)).toNat % 2 ^ 8 := by
      rw [BitVec.toNat_and, BitVec.toNat_ofInt, h127, Nat.and_two_pow_sub_one_eq_mod]
    show IntKind.u64.wrap ((BitVec.ofInt 64 x &&& BitVec.ofInt 64 255).toNat : Nat) = x % 256
    rw [key]
    show ((_ : Nat) : Int) % 18446744073709551616 = _
    omega
  rw [key]
  have h8 : m = 0 ∨ m = 1 ∨ m = 2 ∨ m = 3 ∨ m = 4 ∨ m = 5 ∨ m = 6 ∨ m = 7 := by omega
  rcases h8 with rfl | rfl | rfl | rfl | rfl | rfl | rfl | rfl <;> (simp only [Nat.mul_zero, Int.pow_zero, Int.ediv_one, Nat.reduceMul, Int.reducePow]; omega)
end Go.Proofs.Ytnohfdojcdhfoaa
