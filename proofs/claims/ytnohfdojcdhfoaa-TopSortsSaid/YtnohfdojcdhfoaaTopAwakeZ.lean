/-
  The smallest code: what all of these ask last.
-/
import Derived.Test.YtnohfdojcdhfoaaZTopRun1
import Derived.Test.YtnohfdojcdhfoaaZTopRun2
import Derived.Test.YtnohfdojcdhfoaaZTopRun3
import Derived.Test.YtnohfdojcdhfoaaZTopRun4
import Derived.Test.YtnohfdojcdhfoaaZTopRun5
import Derived.Test.YtnohfdojcdhfoaaZTopRun6
import Derived.Test.YtnohfdojcdhfoaaZTopRun7
import Derived.Test.YtnohfdojcdhfoaaZTopRun8
import Derived.Test.YtnohfdojcdhfoaaZTopRun9
import Derived.Test.YtnohfdojcdhfoaaFrameZ
import Derived.Test.YtnohfdojcdhfoaaTopRunZ
namespace Go.Proofs.Ytnohfdojcdhfoaa
open Go.RowKit
def awkC : ByteArray := ⟨#[49, 32, 50, 43]⟩
def awkT : List TkV := [⟨48, 1, 0⟩, ⟨48, 2, 0⟩, ⟨43, 0, 0⟩]
def awkG : List Int := [(-1), (-1), (-1)]
theorem awk_tok : tokR awkC = some awkT := by kernel_rfl
theorem awk_nest : (rNest (signs awkT)).map (·.1) = some awkG := by decide +kernel
theorem awk_ok : (rFn (oneF awkC) 0).1 = 0 := by decide +kernel
theorem awk_run : EndsAs awkC 0 0 3 0 := by
  refine ends_of (s' := ⟨99997, [3], [], List.replicate 64 0, [false], []⟩) awk_tok awk_nest awk_ok (by decide) ?_ (by rfl)
  refine Rn.on (s' := mk 99999 [1] 1 [0, 0]) (by kernel_rfl) ?_
  refine Rn.on (s' := mk 99998 [1, 2] 2 [0, 0]) (by kernel_rfl) ?_
  refine Rn.on (s' := mk 99997 [3] 3 [0, 0]) (by kernel_rfl) ?_
  refine Rn.on (s' := ⟨99997, [3], [], List.replicate 64 0, [false], []⟩) (by kernel_rfl) ?_
  exact Rn.stop (by kernel_rfl)
section
variable {w : World}
set_option maxHeartbeats 4000000 in
set_option maxRecDepth 100000 in
theorem awake_any : Calls Try.prog 41 #[] w (LawPost w) := by
  go_enter Try.func41, Try.ntmps41
  go_wp2_with fail
  refine (says_any awk_run).mono ?_
  rintro e w1 ⟨rfl, hc1⟩
  have HP := Lib.hid (show LawPost w (.returned (.bool true)) w1 from ⟨rfl, hc1⟩)
  clear hc1
  go_wp2_with fail
  go_ret
  exact HP.out
end
end Go.Proofs.Ytnohfdojcdhfoaa
