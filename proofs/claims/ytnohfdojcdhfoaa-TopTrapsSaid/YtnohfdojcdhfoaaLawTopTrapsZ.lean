/-
  Traps: the law.
-/
import Derived.Test.YtnohfdojcdhfoaaZTopRun1
import Derived.Test.YtnohfdojcdhfoaaZTopRun2
import Derived.Test.YtnohfdojcdhfoaaZTopRun3
import Derived.Test.YtnohfdojcdhfoaaZTopRun4
import Derived.Test.YtnohfdojcdhfoaaZTopRun5
import Derived.Test.YtnohfdojcdhfoaaZTopRun6
import Derived.Test.YtnohfdojcdhfoaaZTopRun7
import Derived.Test.YtnohfdojcdhfoaaZTopRun8
import Derived.Test.YtnohfdojcdhfoaaZTopRun9
import Derived.Test.YtnohfdojcdhfoaaFrameZ
import Derived.Test.YtnohfdojcdhfoaaTopRunZ
import Derived.Test.YtnohfdojcdhfoaaTopAwakeZ
import Derived.Test.YtnohfdojcdhfoaaTopMaskZ
import Derived.Test.YtnohfdojcdhfoaaTopMemZ
import Derived.Test.YtnohfdojcdhfoaaTopTrapsPZ
namespace Go.Proofs.Ytnohfdojcdhfoaa
open Go.RowKit
section
variable {w : World}
set_option maxHeartbeats 8000000 in
set_option maxRecDepth 100000 in
theorem topTraps_any (n a : Int) (hn : In64 n) : Calls Try.prog 11 #[.int .i64 n, .int .i64 a] w (LawPost w) := by
  obtain ⟨k, hk, hk7⟩ : ∃ k : Nat, withinI n 0 6 = (k : Int) ∧ k < 7 := by
    obtain ⟨h1, h2, _⟩ := into_within n 0 6 (by omega)
    exact ⟨(withinI n 0 6).toNat, by omega, by omega⟩
  have HW := Lib.hid (show ∀ W, Calls Try.prog 43 #[.int .i64 n, .int .i64 0, .int .i64 6] W fun e w' => e = .returned (.int .i64 (k : Int)) ∧ W = w' from fun W => by rw [← hk]; exact within_is n 0 6 (by omega) (by omega) (by omega) hn.1 hn.2)
  clear hk
  match k, hk7 with
  | 0, _ =>
    have H1 := Lib.hid (tr0_run a)
    go_enter Try.func11, Try.ntmps11
    go_wp2_with fail
    refine (HW.out w).mono ?_
    rintro e w0 ⟨rfl, rfl⟩
    go_wp2_with fail
    refine (ends_any H1.out).mono ?_
    rintro e w1 ⟨rfl, hc1⟩
    have HC1 := Lib.hid hc1
    clear hc1
    go_wp2_with fail
    refine awake_any.mono ?_
    rintro e w2 ⟨rfl, hc2⟩
    have HP := Lib.hid (show LawPost w (.returned (.bool true)) w2 from ⟨rfl, ((Chg.refl [] w).alloc _).new (HC1.out.new (((Chg.refl [] w1).alloc _).new hc2))⟩)
    clear hc2
    go_wp2_with fail
    go_ret
    exact HP.out
  | 1, _ =>
    have H1 := Lib.hid (tr1_run a)
    go_enter Try.func11, Try.ntmps11
    go_wp2_with fail
    refine (HW.out w).mono ?_
    rintro e w0 ⟨rfl, rfl⟩
    go_wp2_with fail
    refine (ends_any H1.out).mono ?_
    rintro e w1 ⟨rfl, hc1⟩
    have HC1 := Lib.hid hc1
    clear hc1
    go_wp2_with fail
    refine awake_any.mono ?_
    rintro e w2 ⟨rfl, hc2⟩
    have HP := Lib.hid (show LawPost w (.returned (.bool true)) w2 from ⟨rfl, ((Chg.refl [] w).alloc _).new (HC1.out.new (((Chg.refl [] w1).alloc _).new hc2))⟩)
    clear hc2
    go_wp2_with fail
    go_ret
    exact HP.out
  | 2, _ =>
    have H1 := Lib.hid (tr2_run a)
    go_enter Try.func11, Try.ntmps11
    go_wp2_with fail
    refine (HW.out w).mono ?_
    rintro e w0 ⟨rfl, rfl⟩
    go_wp2_with fail
    refine (ends_any H1.out).mono ?_
    rintro e w1 ⟨rfl, hc1⟩
    have HC1 := Lib.hid hc1
    clear hc1
    go_wp2_with fail
    refine awake_any.mono ?_
    rintro e w2 ⟨rfl, hc2⟩
    have HP := Lib.hid (show LawPost w (.returned (.bool true)) w2 from ⟨rfl, ((Chg.refl [] w).alloc _).new (HC1.out.new (((Chg.refl [] w1).alloc _).new hc2))⟩)
    clear hc2
    go_wp2_with fail
    go_ret
    exact HP.out
  | 3, _ =>
    have H1 := Lib.hid (tr3_run a)
    go_enter Try.func11, Try.ntmps11
    go_wp2_with fail
    refine (HW.out w).mono ?_
    rintro e w0 ⟨rfl, rfl⟩
    go_wp2_with fail
    refine (ends_any H1.out).mono ?_
    rintro e w1 ⟨rfl, hc1⟩
    have HC1 := Lib.hid hc1
    clear hc1
    go_wp2_with fail
    refine awake_any.mono ?_
    rintro e w2 ⟨rfl, hc2⟩
    have HP := Lib.hid (show LawPost w (.returned (.bool true)) w2 from ⟨rfl, ((Chg.refl [] w).alloc _).new (HC1.out.new (((Chg.refl [] w1).alloc _).new hc2))⟩)
    clear hc2
    go_wp2_with fail
    go_ret
    exact HP.out
  | 4, _ =>
    have H1 := Lib.hid (tr4_run a)
    go_enter Try.func11, Try.ntmps11
    go_wp2_with fail
    refine (HW.out w).mono ?_
    rintro e w0 ⟨rfl, rfl⟩
    go_wp2_with fail
    refine (ends_any H1.out).mono ?_
    rintro e w1 ⟨rfl, hc1⟩
    have HC1 := Lib.hid hc1
    clear hc1
    go_wp2_with fail
    refine awake_any.mono ?_
    rintro e w2 ⟨rfl, hc2⟩
    have HP := Lib.hid (show LawPost w (.returned (.bool true)) w2 from ⟨rfl, ((Chg.refl [] w).alloc _).new (HC1.out.new (((Chg.refl [] w1).alloc _).new hc2))⟩)
    clear hc2
    go_wp2_with fail
    go_ret
    exact HP.out
  | 5, _ =>
    have H1 := Lib.hid (tr5_run a)
    go_enter Try.func11, Try.ntmps11
    go_wp2_with fail
    refine (HW.out w).mono ?_
    rintro e w0 ⟨rfl, rfl⟩
    go_wp2_with fail
    refine (ends_any H1.out).mono ?_
    rintro e w1 ⟨rfl, hc1⟩
    have HC1 := Lib.hid hc1
    clear hc1
    go_wp2_with fail
    refine awake_any.mono ?_
    rintro e w2 ⟨rfl, hc2⟩
    have HP := Lib.hid (show LawPost w (.returned (.bool true)) w2 from ⟨rfl, ((Chg.refl [] w).alloc _).new (HC1.out.new (((Chg.refl [] w1).alloc _).new hc2))⟩)
    clear hc2
    go_wp2_with fail
    go_ret
    exact HP.out
  | 6, _ =>
    have H1 := Lib.hid (tr6_run a)
    go_enter Try.func11, Try.ntmps11
    go_wp2_with fail
    refine (HW.out w).mono ?_
    rintro e w0 ⟨rfl, rfl⟩
    go_wp2_with fail
    refine (ends_any H1.out).mono ?_
    rintro e w1 ⟨rfl, hc1⟩
    have HC1 := Lib.hid hc1
    clear hc1
    go_wp2_with fail
    refine awake_any.mono ?_
    rintro e w2 ⟨rfl, hc2⟩
    have HP := Lib.hid (show LawPost w (.returned (.bool true)) w2 from ⟨rfl, ((Chg.refl [] w).alloc _).new (HC1.out.new (((Chg.refl [] w1).alloc _).new hc2))⟩)
    clear hc2
    go_wp2_with fail
    go_ret
    exact HP.out
  | k + 7, h => omega
end
end Go.Proofs.Ytnohfdojcdhfoaa
