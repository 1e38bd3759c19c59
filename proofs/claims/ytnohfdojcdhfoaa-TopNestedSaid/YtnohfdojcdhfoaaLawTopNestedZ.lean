/-
  Loops in loops: the law.
-/
import Derived.Test.YtnohfdojcdhfoaaZTopRun1
import Derived.Test.YtnohfdojcdhfoaaZTopRun2
import Derived.Test.YtnohfdojcdhfoaaZTopRun3
import Derived.Test.YtnohfdojcdhfoaaZTopRun4
import Derived.Test.YtnohfdojcdhfoaaZTopRun5
import Derived.Test.YtnohfdojcdhfoaaZTopRun6
import Derived.Test.YtnohfdojcdhfoaaZTopRun7
import Derived.Test.YtnohfdojcdhfoaaZTopRun8
import Derived.Test.YtnohfdojcdhfoaaZTopRun9
import Derived.Test.YtnohfdojcdhfoaaFrameZ
import Derived.Test.YtnohfdojcdhfoaaTopRunZ
import Derived.Test.YtnohfdojcdhfoaaTopAwakeZ
import Derived.Test.YtnohfdojcdhfoaaTopMaskZ
import Derived.Test.YtnohfdojcdhfoaaTopNestedPZ
namespace Go.Proofs.Ytnohfdojcdhfoaa
open Go.RowKit
section
variable {w : World}
set_option maxHeartbeats 4000000 in
set_option maxRecDepth 100000 in
theorem topNested_any (a b : Int) : Calls Try.prog 21 #[.int .i64 a, .int .i64 b] w (LawPost w) := by
  obtain ⟨p, hp, hp1⟩ : ∃ p : Nat, bits .and .i64 a 31 = (p : Int) ∧ p ≤ 31 := ⟨(a % 32).toNat, by rw [tmask_31]; omega, by omega⟩
  obtain ⟨q, hq, hq1⟩ : ∃ q : Nat, bits .and .i64 b 31 = (q : Int) ∧ q ≤ 31 := ⟨(b % 32).toNat, by rw [tmask_31]; omega, by omega⟩
  have HS := Lib.hid (nst_run p q hp1 hq1)
  have hx : (p : Int) * (q : Int) ≤ 31 * 31 := Int.mul_le_mul (by omega) (by omega) (by omega) (by omega)
  have hx0 : 0 ≤ (p : Int) * (q : Int) := Int.mul_nonneg (by omega) (by omega)
  have hw2 : IntKind.i64.wrap ((p : Int) * (q : Int)) = (p : Int) * (q : Int) := by rw [IntKind.wrap_i64]; generalize (p : Int) * (q : Int) = z at *; omega
  clear hx hx0
  go_enter Try.func21, Try.ntmps21
  go_wp2_with fail
  refine (says_any HS.out).mono ?_
  rintro e w1 ⟨rfl, hc1⟩
  have HC := Lib.hid hc1
  clear hc1
  go_wp2_with fail
  refine awake_any.mono ?_
  rintro e w2 ⟨rfl, hc2⟩
  have HP := Lib.hid (show LawPost w (.returned (.bool true)) w2 from ⟨rfl, HC.out.new hc2⟩)
  clear hc2
  go_wp2_with fail
  go_ret
  exact HP.out
end
end Go.Proofs.Ytnohfdojcdhfoaa
