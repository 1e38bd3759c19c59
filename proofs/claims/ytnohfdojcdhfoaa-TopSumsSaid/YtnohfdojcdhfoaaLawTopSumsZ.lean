/-
  The sums: the law.
-/
import Derived.Test.YtnohfdojcdhfoaaZTopRun1
import Derived.Test.YtnohfdojcdhfoaaZTopRun2
import Derived.Test.YtnohfdojcdhfoaaZTopRun3
import Derived.Test.YtnohfdojcdhfoaaZTopRun4
import Derived.Test.YtnohfdojcdhfoaaZTopRun5
import Derived.Test.YtnohfdojcdhfoaaZTopRun6
import Derived.Test.YtnohfdojcdhfoaaZTopRun7
import Derived.Test.YtnohfdojcdhfoaaZTopRun8
import Derived.Test.YtnohfdojcdhfoaaZTopRun9
import Derived.Test.YtnohfdojcdhfoaaFrameZ
import Derived.Test.YtnohfdojcdhfoaaTopRunZ
import Derived.Test.YtnohfdojcdhfoaaTopAwakeZ
import Derived.Test.YtnohfdojcdhfoaaTopSumsPZ
import Derived.Laws.BitsLemmas
import Derived.IntWalk
namespace Go.Proofs.Ytnohfdojcdhfoaa
open Go.RowKit
theorem top_and1023 (n : Int) : bits .and .i64 n 1023 = n % 1024 := by
  have h127 : (BitVec.ofInt 64 1023).toNat = 2 ^ 10 - 1 := by decide
  have key : (BitVec.ofInt 64 n &&& BitVec.ofInt 64 1023).toNat = (n % ((2 ^ 64 : Nat) : Int)).toNat % 2 ^ 10 := by
    rw [BitVec.toNat_and, BitVec.toNat_ofInt, h127, Nat.and_two_pow_sub_one_eq_mod]
  show IntKind.i64.wrap ((BitVec.ofInt 64 n &&& BitVec.ofInt 64 1023).toNat : Nat) = n % 1024
  rw [key, IntKind.wrap_i64]
  omega
section
variable {w : World}
set_option maxHeartbeats 4000000 in
set_option maxRecDepth 100000 in
theorem topSums_any (n : Int) : Calls Try.prog 6 #[.int .i64 n] w (LawPost w) := by
  obtain ⟨k, hk, hk1⟩ : ∃ k : Nat, bits .and .i64 n 1023 = (k : Int) ∧ k ≤ 1023 := ⟨(n % 1024).toNat, by rw [top_and1023]; omega, by omega⟩
  have hs := sums_run k hk1
  have hx : (k : Int) * ((k : Int) + 1) ≤ 1023 * 1024 := Int.mul_le_mul (by omega) (by omega) (by omega) (by omega)
  have hx0 : 0 ≤ (k : Int) * ((k : Int) + 1) := Int.mul_nonneg (by omega) (by omega)
  have hw1 : IntKind.i64.wrap ((k : Int) + 1) = (k : Int) + 1 := by rw [IntKind.wrap_i64]; omega
  have hw2 : IntKind.i64.wrap ((k : Int) * ((k : Int) + 1)) = (k : Int) * ((k : Int) + 1) := by rw [IntKind.wrap_i64]; generalize (k : Int) * ((k : Int) + 1) = z at *; omega
  have hq : ((k : Int) * ((k : Int) + 1)).tdiv 2 = (k : Int) * ((k : Int) + 1) / 2 := Int.tdiv_eq_ediv_of_nonneg hx0
  have hw3 : IntKind.i64.wrap ((k : Int) * ((k : Int) + 1) / 2) = (k : Int) * ((k : Int) + 1) / 2 := by rw [IntKind.wrap_i64]; generalize (k : Int) * ((k : Int) + 1) = z at *; omega
  have HS := Lib.hid hs
  clear hs hx hx0
  go_enter Try.func6, Try.ntmps6
  go_wp2_with fail
  refine (says_any HS.out).mono ?_
  rintro e w1 ⟨rfl, hc1⟩
  have HC := Lib.hid hc1
  clear hc1
  go_wp2_with fail
  refine awake_any.mono ?_
  rintro e w2 ⟨rfl, hc2⟩
  have HP := Lib.hid (show LawPost w (.returned (.bool true)) w2 from ⟨rfl, HC.out.new hc2⟩)
  clear hc2
  go_wp2_with fail
  go_ret
  exact HP.out
end
end Go.Proofs.Ytnohfdojcdhfoaa
