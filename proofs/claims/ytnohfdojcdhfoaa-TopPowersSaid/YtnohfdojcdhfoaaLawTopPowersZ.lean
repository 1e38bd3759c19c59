/-
  Powers: the law.
-/
import Derived.Test.YtnohfdojcdhfoaaZTopRun1
import Derived.Test.YtnohfdojcdhfoaaZTopRun2
import Derived.Test.YtnohfdojcdhfoaaZTopRun3
import Derived.Test.YtnohfdojcdhfoaaZTopRun4
import Derived.Test.YtnohfdojcdhfoaaZTopRun5
import Derived.Test.YtnohfdojcdhfoaaZTopRun6
import Derived.Test.YtnohfdojcdhfoaaZTopRun7
import Derived.Test.YtnohfdojcdhfoaaZTopRun8
import Derived.Test.YtnohfdojcdhfoaaZTopRun9
import Derived.Test.YtnohfdojcdhfoaaFrameZ
import Derived.Test.YtnohfdojcdhfoaaTopRunZ
import Derived.Test.YtnohfdojcdhfoaaTopAwakeZ
import Derived.Test.YtnohfdojcdhfoaaTopMaskZ
import Derived.Test.YtnohfdojcdhfoaaTopMemZ
import Derived.Test.YtnohfdojcdhfoaaTopPowersPZ
namespace Go.Proofs.Ytnohfdojcdhfoaa
open Go.RowKit
section
variable {w : World}
set_option maxHeartbeats 4000000 in
set_option maxRecDepth 100000 in
theorem topPowers_any (a b : Int) : Calls Try.prog 7 #[.int .i64 a, .int .i64 b] w (LawPost w) := by
  obtain ⟨k, hk, hk1⟩ : ∃ k : Nat, bits .and .i64 b 63 = (k : Int) ∧ k ≤ 63 := ⟨(b % 64).toNat, by rw [tmask_63]; omega, by omega⟩
  have H1 := Lib.hid (pow_run k a hk1)
  go_enter Try.func7, Try.ntmps7
  go_wp2_with fail
  refine (says_any H1.out).mono ?_
  rintro e w1 ⟨rfl, hc1⟩
  have HC1 := Lib.hid hc1
  clear hc1 hk
  go_wp2_with fail
  go_loop [8, 9] (fun x i => ∃ m : Nat, m ≤ k ∧ i = .int .i64 (m : Int) ∧ x = .int .i64 (wrap64 (a ^ m))) (fun _ i => k - (intOf i).toNat)
  case atStart => exact ⟨0, by omega, rfl, by rw [Int.pow_zero, wrap64_id (by unfold In64; omega)]⟩
  case round =>
    obtain ⟨m, hm, rfl, rfl⟩ := hrel
    by_cases hlt : m < k
    · go_wp2_with fail
      go_round
      case rel => exact ⟨m + 1, by omega, by go_num, by rw [← pow_next]⟩
      case measure => simp [intOf]; omega
    · obtain rfl : k = m := by omega
      clear hlt hm
      go_wp2_with fail
      refine awake_any.mono ?_
      rintro e w2 ⟨rfl, hc2⟩
      have HP := Lib.hid (show LawPost w (.returned (.bool true)) w2 from ⟨rfl, HC1.out.new hc2⟩)
      clear hc2
      go_wp2_with fail
      go_ret
      exact HP.out
end
end Go.Proofs.Ytnohfdojcdhfoaa
