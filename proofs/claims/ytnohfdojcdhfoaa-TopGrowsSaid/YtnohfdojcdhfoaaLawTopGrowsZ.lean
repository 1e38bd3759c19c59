/-
  Memory grows: the law.
-/
import Derived.Test.YtnohfdojcdhfoaaZTopRun1
import Derived.Test.YtnohfdojcdhfoaaZTopRun2
import Derived.Test.YtnohfdojcdhfoaaZTopRun3
import Derived.Test.YtnohfdojcdhfoaaZTopRun4
import Derived.Test.YtnohfdojcdhfoaaZTopRun5
import Derived.Test.YtnohfdojcdhfoaaZTopRun6
import Derived.Test.YtnohfdojcdhfoaaZTopRun7
import Derived.Test.YtnohfdojcdhfoaaZTopRun8
import Derived.Test.YtnohfdojcdhfoaaZTopRun9
import Derived.Test.YtnohfdojcdhfoaaFrameZ
import Derived.Test.YtnohfdojcdhfoaaTopRunZ
import Derived.Test.YtnohfdojcdhfoaaTopAwakeZ
import Derived.Test.YtnohfdojcdhfoaaTopMaskZ
import Derived.Test.YtnohfdojcdhfoaaTopMemZ
import Derived.Test.YtnohfdojcdhfoaaTopGrowsPZ
namespace Go.Proofs.Ytnohfdojcdhfoaa
open Go.RowKit
section
variable {w : World}
set_option maxHeartbeats 4000000 in
set_option maxRecDepth 100000 in
theorem topGrows_any (n : Int) : Calls Try.prog 12 #[.int .i64 n] w (LawPost w) := by
  obtain ⟨k, hk, hk1⟩ : ∃ k : Nat, (n.tmod 12 = (k : Int) ∨ n.tmod 12 = -(k : Int) ∧ 0 < k) ∧ k < 12 := by
    have h1 := Int.lt_tmod_of_pos n (show (0 : Int) < 12 by decide)
    have h2 := Int.tmod_lt_of_pos n (show (0 : Int) < 12 by decide)
    exact ⟨(n.tmod 12).natAbs, by omega, by omega⟩
  rcases hk with hk | ⟨hk, hk0⟩
  · have H1 := Lib.hid (grw_run k hk1)
    have H2 := Lib.hid zer_run
    have hneg : decide ((k : Int) < 0) = false := decide_eq_false (by omega)
    have e1 : IntKind.i64.wrap (1 + (k : Int)) = 1 + (k : Int) := by rw [IntKind.wrap_i64]; omega
    have e2 : IntKind.i64.wrap ((1 + (k : Int)) * 256) = (1 + (k : Int)) * 256 := by rw [IntKind.wrap_i64]; omega
    have e3 : IntKind.i64.wrap (1 + (1 + (k : Int)) * 256) = 1 + (1 + (k : Int)) * 256 := by rw [IntKind.wrap_i64]; omega
    by_cases h8 : k < 8
    · rw [if_pos h8] at H1
      have hg : decide ((k : Int) > 7) = false := decide_eq_false (by omega)
      go_enter Try.func12, Try.ntmps12
      go_wp2_with fail
      refine (says_any H1.out).mono ?_
      rintro e w1 ⟨rfl, hc1⟩
      have HC1 := Lib.hid hc1
      clear hc1
      go_wp2_with fail
      refine (says_any H2.out).mono ?_
      rintro e w2 ⟨rfl, hc2⟩
      have HC2 := Lib.hid (HC1.out.new hc2)
      clear hc2
      go_wp2_with fail
      refine awake_any.mono ?_
      rintro e w3 ⟨rfl, hc3⟩
      have HP := Lib.hid (show LawPost w (.returned (.bool true)) w3 from ⟨rfl, HC2.out.new hc3⟩)
      clear hc3
      go_wp2_with fail
      go_ret
      exact HP.out
    · rw [if_neg h8] at H1
      have hg : decide ((k : Int) > 7) = true := decide_eq_true (by omega)
      go_enter Try.func12, Try.ntmps12
      go_wp2_with fail
      refine (says_any H1.out).mono ?_
      rintro e w1 ⟨rfl, hc1⟩
      have HC1 := Lib.hid hc1
      clear hc1
      go_wp2_with fail
      refine (says_any H2.out).mono ?_
      rintro e w2 ⟨rfl, hc2⟩
      have HC2 := Lib.hid (HC1.out.new hc2)
      clear hc2
      go_wp2_with fail
      refine awake_any.mono ?_
      rintro e w3 ⟨rfl, hc3⟩
      have HP := Lib.hid (show LawPost w (.returned (.bool true)) w3 from ⟨rfl, HC2.out.new hc3⟩)
      clear hc3
      go_wp2_with fail
      go_ret
      exact HP.out
  · have H1 := Lib.hid (grw_run k hk1)
    have H2 := Lib.hid zer_run
    have hneg : decide (-(k : Int) < 0) = true := decide_eq_true (by omega)
    have hnn : IntKind.i64.wrap (- -(k : Int)) = (k : Int) := by rw [Int.neg_neg, IntKind.wrap_i64]; omega
    have e1 : IntKind.i64.wrap (1 + (k : Int)) = 1 + (k : Int) := by rw [IntKind.wrap_i64]; omega
    have e2 : IntKind.i64.wrap ((1 + (k : Int)) * 256) = (1 + (k : Int)) * 256 := by rw [IntKind.wrap_i64]; omega
    have e3 : IntKind.i64.wrap (1 + (1 + (k : Int)) * 256) = 1 + (1 + (k : Int)) * 256 := by rw [IntKind.wrap_i64]; omega
    by_cases h8 : k < 8
    · rw [if_pos h8] at H1
      have hg : decide ((k : Int) > 7) = false := decide_eq_false (by omega)
      go_enter Try.func12, Try.ntmps12
      go_wp2_with fail
      refine (says_any H1.out).mono ?_
      rintro e w1 ⟨rfl, hc1⟩
      have HC1 := Lib.hid hc1
      clear hc1
      go_wp2_with fail
      refine (says_any H2.out).mono ?_
      rintro e w2 ⟨rfl, hc2⟩
      have HC2 := Lib.hid (HC1.out.new hc2)
      clear hc2
      go_wp2_with fail
      refine awake_any.mono ?_
      rintro e w3 ⟨rfl, hc3⟩
      have HP := Lib.hid (show LawPost w (.returned (.bool true)) w3 from ⟨rfl, HC2.out.new hc3⟩)
      clear hc3
      go_wp2_with fail
      go_ret
      exact HP.out
    · rw [if_neg h8] at H1
      have hg : decide ((k : Int) > 7) = true := decide_eq_true (by omega)
      go_enter Try.func12, Try.ntmps12
      go_wp2_with fail
      refine (says_any H1.out).mono ?_
      rintro e w1 ⟨rfl, hc1⟩
      have HC1 := Lib.hid hc1
      clear hc1
      go_wp2_with fail
      refine (says_any H2.out).mono ?_
      rintro e w2 ⟨rfl, hc2⟩
      have HC2 := Lib.hid (HC1.out.new hc2)
      clear hc2
      go_wp2_with fail
      refine awake_any.mono ?_
      rintro e w3 ⟨rfl, hc3⟩
      have HP := Lib.hid (show LawPost w (.returned (.bool true)) w3 from ⟨rfl, HC2.out.new hc3⟩)
      clear hc3
      go_wp2_with fail
      go_ret
      exact HP.out
end
end Go.Proofs.Ytnohfdojcdhfoaa
