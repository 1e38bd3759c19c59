/-
  Swapped in memory: the law.
-/
import Derived.Test.YtnohfdojcdhfoaaZTopRun1
import Derived.Test.YtnohfdojcdhfoaaZTopRun2
import Derived.Test.YtnohfdojcdhfoaaZTopRun3
import Derived.Test.YtnohfdojcdhfoaaZTopRun4
import Derived.Test.YtnohfdojcdhfoaaZTopRun5
import Derived.Test.YtnohfdojcdhfoaaZTopRun6
import Derived.Test.YtnohfdojcdhfoaaZTopRun7
import Derived.Test.YtnohfdojcdhfoaaZTopRun8
import Derived.Test.YtnohfdojcdhfoaaZTopRun9
import Derived.Test.YtnohfdojcdhfoaaFrameZ
import Derived.Test.YtnohfdojcdhfoaaTopRunZ
import Derived.Test.YtnohfdojcdhfoaaTopAwakeZ
import Derived.Test.YtnohfdojcdhfoaaTopMaskZ
import Derived.Test.YtnohfdojcdhfoaaTopMemZ
import Derived.Test.YtnohfdojcdhfoaaTopSwapsPZ
import Derived.Deep.QuietTactic
import Derived.BigQuiet
namespace Go.Proofs.Ytnohfdojcdhfoaa
open Go.RowKit
section
variable {w : World}
set_option maxHeartbeats 4000000 in
set_option maxRecDepth 100000 in
theorem topSwaps_any (a b : Int) (ha : In64 a) (hb : In64 b) : Calls Try.prog 10 #[.int .i64 a, .int .i64 b] w (LawPost w) := by
  obtain ⟨k, hk, hk1⟩ : ∃ k : Nat, bits .and .i64 a 1023 = (k : Int) ∧ k ≤ 1023 := ⟨(a % 1024).toNat, by rw [tmask_1023]; omega, by omega⟩
  have H1 := Lib.hid (swp_run a b ha hb)
  have H2 := Lib.hid (show EndsAs sbyC a 0 (a / 16777216 % 256) 0 from sby_run a)
  have H3 := Lib.hid (sbd_run (57 + k) (by omega))
  have e1 : IntKind.i64.wrap (57 + (k : Int)) = ((57 + k : Nat) : Int) := by rw [IntKind.wrap_i64]; omega
  have e2 : bits .and .i64 (a / 16777216) 255 = a / 16777216 % 256 := tmask_255 _
  clear ha hb
  go_enter Try.func10, Try.ntmps10
  go_wp2_with fail
  refine (says_any H1.out).mono ?_
  rintro e w1 ⟨rfl, hc1⟩
  have HC1 := Lib.hid hc1
  clear hc1
  go_wp2_with fail
  refine (says_any H2.out).mono ?_
  rintro e w2 ⟨rfl, hc2⟩
  have HC2 := Lib.hid (HC1.out.new hc2)
  clear hc2
  go_wp2_with fail
  refine (ends_any H3.out).mono ?_
  rintro e w3 ⟨rfl, hc3⟩
  have HC3 := Lib.hid (HC2.out.new hc3)
  clear hc3
  go_wp2_with fail
  refine awake_any.mono ?_
  rintro e w4 ⟨rfl, hc4⟩
  have HP := Lib.hid (show LawPost w (.returned (.bool true)) w4 from ⟨rfl, HC3.out.new hc4⟩)
  clear hc4
  go_wp2_with fail
  go_ret
  exact HP.out
end
end Go.Proofs.Ytnohfdojcdhfoaa
