/-
  Square roots: the law.
-/
import Derived.Test.YtnohfdojcdhfoaaZTopRun1
import Derived.Test.YtnohfdojcdhfoaaZTopRun2
import Derived.Test.YtnohfdojcdhfoaaZTopRun3
import Derived.Test.YtnohfdojcdhfoaaZTopRun4
import Derived.Test.YtnohfdojcdhfoaaZTopRun5
import Derived.Test.YtnohfdojcdhfoaaZTopRun6
import Derived.Test.YtnohfdojcdhfoaaZTopRun7
import Derived.Test.YtnohfdojcdhfoaaZTopRun8
import Derived.Test.YtnohfdojcdhfoaaZTopRun9
import Derived.Test.YtnohfdojcdhfoaaFrameZ
import Derived.Test.YtnohfdojcdhfoaaTopRunZ
import Derived.Test.YtnohfdojcdhfoaaTopAwakeZ
import Derived.Test.YtnohfdojcdhfoaaTopMaskZ
import Derived.Test.YtnohfdojcdhfoaaTopMemZ
import Derived.Test.YtnohfdojcdhfoaaTopRootsPZ
namespace Go.Proofs.Ytnohfdojcdhfoaa
open Go.RowKit
theorem tmask_40 (n : Int) : bits .and .i64 n 1099511627775 = n % 1099511627776 := by
  have h127 : (BitVec.ofInt 64 1099511627775).toNat = 2 ^ 40 - 1 := by decide
  have key : (BitVec.ofInt 64 n &&& BitVec.ofInt 64 1099511627775).toNat = (n % ((2 ^ 64 : Nat) : Int)).toNat % 2 ^ 40 := by
    rw [BitVec.toNat_and, BitVec.toNat_ofInt, h127, Nat.and_two_pow_sub_one_eq_mod]
  show IntKind.i64.wrap ((BitVec.ofInt 64 n &&& BitVec.ofInt 64 1099511627775).toNat : Nat) = n % 1099511627776
  rw [key, IntKind.wrap_i64]
  omega
section
variable {w : World}
set_option maxHeartbeats 4000000 in
set_option maxRecDepth 100000 in
theorem topRoots_any (n : Int) : Calls Try.prog 28 #[.int .i64 n] w (LawPost w) := by
  obtain ⟨k, hk, hk1⟩ : ∃ k : Nat, bits .and .i64 n 1099511627775 = (k : Int) ∧ k < 1099511627776 := ⟨(n % 1099511627776).toNat, by rw [tmask_40]; omega, by omega⟩
  obtain ⟨v, hv, h1, h2, h3⟩ := roo_run k hk1
  have H1 := Lib.hid hv
  have b1 : v * v ≤ 2097152 * 2097152 := Nat.mul_le_mul (by omega) (by omega)
  have b2 : (v + 1) * (v + 1) ≤ 2097152 * 2097152 := Nat.mul_le_mul (by omega) (by omega)
  have q1 : (v : Int) * (v : Int) = ((v * v : Nat) : Int) := (Int.natCast_mul v v).symm
  have q2 : ((v : Int) + 1) * ((v : Int) + 1) = (((v + 1) * (v + 1) : Nat) : Int) := by rw [Int.natCast_mul]; rfl
  generalize v * v = s at *
  generalize (v + 1) * (v + 1) = t at *
  have e1 : IntKind.i64.wrap ((v : Int) * (v : Int)) = (s : Int) := by rw [q1, IntKind.wrap_i64]; omega
  have e2 : IntKind.i64.wrap ((v : Int) + 1) = (v : Int) + 1 := by rw [IntKind.wrap_i64]; omega
  have e3 : IntKind.i64.wrap (((v : Int) + 1) * ((v : Int) + 1)) = (t : Int) := by rw [q2, IntKind.wrap_i64]; omega
  clear hv q1 q2 b1 b2
  go_enter Try.func28, Try.ntmps28
  go_wp2_with fail
  refine (says_any H1.out).mono ?_
  rintro e w1 ⟨rfl, hc1⟩
  have HC1 := Lib.hid hc1
  clear hc1
  go_wp2_with fail
  refine awake_any.mono ?_
  rintro e w2 ⟨rfl, hc2⟩
  have HP := Lib.hid (show LawPost w (.returned (.bool true)) w2 from ⟨rfl, HC1.out.new hc2⟩)
  clear hc2
  go_wp2_with fail
  go_ret
  exact HP.out
end
end Go.Proofs.Ytnohfdojcdhfoaa
