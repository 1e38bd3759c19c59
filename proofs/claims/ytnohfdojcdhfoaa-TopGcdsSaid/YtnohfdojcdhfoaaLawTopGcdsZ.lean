/-
  The greatest divisor: the law.
-/
import Derived.Test.YtnohfdojcdhfoaaZTopRun1
import Derived.Test.YtnohfdojcdhfoaaZTopRun2
import Derived.Test.YtnohfdojcdhfoaaZTopRun3
import Derived.Test.YtnohfdojcdhfoaaZTopRun4
import Derived.Test.YtnohfdojcdhfoaaZTopRun5
import Derived.Test.YtnohfdojcdhfoaaZTopRun6
import Derived.Test.YtnohfdojcdhfoaaZTopRun7
import Derived.Test.YtnohfdojcdhfoaaZTopRun8
import Derived.Test.YtnohfdojcdhfoaaZTopRun9
import Derived.Test.YtnohfdojcdhfoaaFrameZ
import Derived.Test.YtnohfdojcdhfoaaTopRunZ
import Derived.Test.YtnohfdojcdhfoaaTopAwakeZ
import Derived.Test.YtnohfdojcdhfoaaTopMaskZ
import Derived.Test.YtnohfdojcdhfoaaTopMemZ
import Derived.Test.YtnohfdojcdhfoaaTopGcdsPZ
import Derived.Deep.QuietTactic
import Derived.BigQuiet
namespace Go.Proofs.Ytnohfdojcdhfoaa
open Go.RowKit
section
variable {w : World}
set_option maxHeartbeats 4000000 in
set_option maxRecDepth 100000 in
theorem topGcds_any (a b : Int) : Calls Try.prog 8 #[.int .i64 a, .int .i64 b] w (LawPost w) := by
  obtain ⟨x, hx, hx1⟩ : ∃ k : Nat, bits .and .i64 a 65535 = (k : Int) ∧ k ≤ 65535 := ⟨(a % 65536).toNat, by rw [tmask_65535]; omega, by omega⟩
  obtain ⟨y, hy, hy1⟩ : ∃ k : Nat, bits .and .i64 b 65535 = (k : Int) ∧ k ≤ 65535 := ⟨(b % 65536).toNat, by rw [tmask_65535]; omega, by omega⟩
  have H1 := Lib.hid (gcd_run x y hy1)
  go_enter Try.func8, Try.ntmps8
  go_wp2_with fail
  refine (says_any H1.out).mono ?_
  rintro e w1 ⟨rfl, hc1⟩
  have HC1 := Lib.hid hc1
  clear hc1 hx hy
  go_wp2_with fail
  go_loopw [5, 6] (fun p q wr => ∃ (c d : Nat), c ≤ 65535 ∧ d ≤ 65535 ∧ Nat.gcd c d = Nat.gcd x y ∧ p = .int .i64 (c : Int) ∧ q = .int .i64 (d : Int) ∧ Hid (Chg [] w wr)) (fun _ q _ => (intOf q).toNat)
  case atStart => exact ⟨x, y, hx1, hy1, rfl, rfl, rfl, HC1⟩
  case round =>
    obtain ⟨c, d, hc, hd, hg, rfl, rfl, HCR⟩ := hrel
    have HG := Lib.hid hg
    clear hg
    by_cases h0 : d = 0
    · subst h0
      have he : Nat.gcd x y = c := by rw [← HG.out, Nat.gcd_zero_right]
      have HE := Lib.hid he
      clear HG
      have hee : ((Nat.gcd x y : Nat) : Int) = (c : Int) := by rw [he]
      clear he
      go_wp2_with fail
      refine awake_any.mono ?_
      rintro e w2 ⟨rfl, hc2⟩
      have HP := Lib.hid (show LawPost w (.returned (.bool true)) w2 from ⟨rfl, HCR.out.new hc2⟩)
      clear hc2
      go_wp2_with fail
      go_ret
      exact HP.out
    · have hm : (c : Int).tmod (d : Int) = ((c % d : Nat) : Int) := by rw [Int.tmod_eq_emod_of_nonneg (by omega)]; rfl
      have hlt : c % d < d := Nat.mod_lt _ (by omega)
      go_wp2_with fail
      go_quiet (fail)
      go_wp2_with fail
      go_roundw
      case rel => exact ⟨d, c % d, hd, by omega, by rw [gcd_next]; exact HG.out, rfl, rfl, Lib.hid (HCR.out.new ((Chg.refl [] wr).drewN _))⟩
      case measure => simp [intOf]; omega
end
end Go.Proofs.Ytnohfdojcdhfoaa
