/-
  Numbers of Fibonacci: the law.
-/
import Derived.Test.YtnohfdojcdhfoaaZTopRun1
import Derived.Test.YtnohfdojcdhfoaaZTopRun2
import Derived.Test.YtnohfdojcdhfoaaZTopRun3
import Derived.Test.YtnohfdojcdhfoaaZTopRun4
import Derived.Test.YtnohfdojcdhfoaaZTopRun5
import Derived.Test.YtnohfdojcdhfoaaZTopRun6
import Derived.Test.YtnohfdojcdhfoaaZTopRun7
import Derived.Test.YtnohfdojcdhfoaaZTopRun8
import Derived.Test.YtnohfdojcdhfoaaZTopRun9
import Derived.Test.YtnohfdojcdhfoaaFrameZ
import Derived.Test.YtnohfdojcdhfoaaTopRunZ
import Derived.Test.YtnohfdojcdhfoaaTopAwakeZ
import Derived.Test.YtnohfdojcdhfoaaTopMaskZ
import Derived.Test.YtnohfdojcdhfoaaTopFibsPZ
namespace Go.Proofs.Ytnohfdojcdhfoaa
open Go.RowKit
section
variable {w : World}
set_option maxHeartbeats 4000000 in
set_option maxRecDepth 100000 in
theorem topFibs_any (n : Int) : Calls Try.prog 13 #[.int .i64 n] w (LawPost w) := by
  obtain ⟨k, hk, hk1⟩ : ∃ k : Nat, bits .and .i64 n 127 = (k : Int) ∧ k ≤ 127 := ⟨(n % 128).toNat, by rw [tmask_127]; omega, by omega⟩
  have H1 := Lib.hid (fib_run k hk1)
  obtain ⟨z, hz⟩ : ∃ z, fibN k 0 1 = z := ⟨_, rfl⟩
  rw [hz] at H1
  go_enter Try.func13, Try.ntmps13
  go_wp2_with fail
  refine (says_any H1.out).mono ?_
  rintro e w1 ⟨rfl, hc1⟩
  have HC := Lib.hid hc1
  clear hc1 hk
  go_wp2_with fail
  go_loop [6, 7, 8] (fun x y i => ∃ (m : Nat) (c d : Int), m ≤ k ∧ fibN (k - m) c d = z ∧ i = .int .i64 (m : Int) ∧ x = .int .i64 c ∧ y = .int .i64 d) (fun _ _ i => k - (intOf i).toNat)
  case atStart => exact ⟨0, 0, 1, by omega, hz, rfl, rfl, rfl⟩
  case round =>
    obtain ⟨m, c, d, hm, hr, rfl, rfl, rfl⟩ := hrel
    have HR := Lib.hid hr
    clear hr hz
    by_cases hlt : m < k
    · go_wp2_with fail
      go_round
      case rel =>
        refine ⟨m + 1, d, wrap64 (c + d), by omega, ?_, by go_num, rfl, rfl⟩
        rw [← HR.out, show k - m = (k - (m + 1)) + 1 from by omega]
        rfl
      case measure => simp [intOf]; omega
    · have he : c = z := by
        have h := HR.out
        rw [show k - m = 0 from by omega] at h
        exact h
      subst he
      clear HR
      go_wp2_with fail
      refine awake_any.mono ?_
      rintro e w2 ⟨rfl, hc2⟩
      have HP := Lib.hid (show LawPost w (.returned (.bool true)) w2 from ⟨rfl, HC.out.new hc2⟩)
      clear hc2
      go_wp2_with fail
      go_ret
      exact HP.out
end
end Go.Proofs.Ytnohfdojcdhfoaa
