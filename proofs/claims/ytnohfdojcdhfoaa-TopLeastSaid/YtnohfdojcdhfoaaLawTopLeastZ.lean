/-
  The lesser, the greater: the law.
-/
import Derived.Test.YtnohfdojcdhfoaaZTopRun1
import Derived.Test.YtnohfdojcdhfoaaZTopRun2
import Derived.Test.YtnohfdojcdhfoaaZTopRun3
import Derived.Test.YtnohfdojcdhfoaaZTopRun4
import Derived.Test.YtnohfdojcdhfoaaZTopRun5
import Derived.Test.YtnohfdojcdhfoaaZTopRun6
import Derived.Test.YtnohfdojcdhfoaaZTopRun7
import Derived.Test.YtnohfdojcdhfoaaZTopRun8
import Derived.Test.YtnohfdojcdhfoaaZTopRun9
import Derived.Test.YtnohfdojcdhfoaaFrameZ
import Derived.Test.YtnohfdojcdhfoaaTopRunZ
import Derived.Test.YtnohfdojcdhfoaaTopAwakeZ
import Derived.Test.YtnohfdojcdhfoaaTopLeastPZ
namespace Go.Proofs.Ytnohfdojcdhfoaa
open Go.RowKit
section
variable {w : World}
set_option maxHeartbeats 4000000 in
set_option maxRecDepth 100000 in
theorem topLeast_any (a b : Int) (ha : -9223372036854775808 ≤ a ∧ a ≤ 9223372036854775807) (hb : -9223372036854775808 ≤ b ∧ b ≤ 9223372036854775807) : Calls Try.prog 17 #[.int .i64 a, .int .i64 b] w (LawPost w) := by
  have H1 := Lib.hid (lea_run a b)
  have H2 := Lib.hid (gre_run a b)
  have H3 := Lib.hid (ari_run a b ha hb)
  have hmin : min a b = if a < b then a else b := by split <;> omega
  have hmax : max a b = if a < b then b else a := by split <;> omega
  generalize (if a < b then a else b) = x at H1 H3 hmin
  generalize (if a < b then b else a) = y at H2 hmax
  clear ha hb
  go_enter Try.func17, Try.ntmps17
  go_wp2_with fail
  refine (says_any H1.out).mono ?_
  rintro e w1 ⟨rfl, hc1⟩
  have HC := Lib.hid hc1
  clear hc1
  go_wp2_with fail
  refine (says_any H2.out).mono ?_
  rintro e w2 ⟨rfl, hc2⟩
  have HD := Lib.hid (HC.out.new hc2)
  clear hc2 HC
  go_wp2_with fail
  refine (says_any H3.out).mono ?_
  rintro e w3 ⟨rfl, hc3⟩
  have HE := Lib.hid (HD.out.new hc3)
  clear hc3 HD
  go_wp2_with fail
  refine awake_any.mono ?_
  rintro e w4 ⟨rfl, hc4⟩
  have HP := Lib.hid (show LawPost w (.returned (.bool true)) w4 from ⟨rfl, HE.out.new hc4⟩)
  clear hc4
  go_wp2_with fail
  go_ret
  exact HP.out
end
end Go.Proofs.Ytnohfdojcdhfoaa
