/-
  Primes: the law.
-/
import Derived.Test.YtnohfdojcdhfoaaZTopRun1
import Derived.Test.YtnohfdojcdhfoaaZTopRun2
import Derived.Test.YtnohfdojcdhfoaaZTopRun3
import Derived.Test.YtnohfdojcdhfoaaZTopRun4
import Derived.Test.YtnohfdojcdhfoaaZTopRun5
import Derived.Test.YtnohfdojcdhfoaaZTopRun6
import Derived.Test.YtnohfdojcdhfoaaZTopRun7
import Derived.Test.YtnohfdojcdhfoaaZTopRun8
import Derived.Test.YtnohfdojcdhfoaaZTopRun9
import Derived.Test.YtnohfdojcdhfoaaFrameZ
import Derived.Test.YtnohfdojcdhfoaaTopRunZ
import Derived.Test.YtnohfdojcdhfoaaTopAwakeZ
import Derived.Test.YtnohfdojcdhfoaaTopMaskZ
import Derived.Test.YtnohfdojcdhfoaaTopMemZ
import Derived.Test.YtnohfdojcdhfoaaTopPrimesPZ
import Derived.Deep.QuietTactic
import Derived.BigQuiet
namespace Go.Proofs.Ytnohfdojcdhfoaa
open Go.RowKit
section
variable {w : World}
set_option maxHeartbeats 4000000 in
set_option maxRecDepth 100000 in
theorem topPrimes_any (n : Int) : Calls Try.prog 14 #[.int .i64 n] w (LawPost w) := by
  obtain ⟨k, hk, hk1⟩ : ∃ k : Nat, bits .and .i64 n 511 = (k : Int) ∧ k < 512 := ⟨(n % 512).toNat, by rw [tmask_511]; omega, by omega⟩
  have e1 : IntKind.i64.wrap (2 + (k : Int)) = ((k + 2 : Nat) : Int) := by rw [IntKind.wrap_i64]; omega
  have H1 := Lib.hid (pri_run (k + 2) (by omega))
  generalize hzz : priN (k + 2) (k + 2) 2 1 = z at H1
  have HZ := Lib.hid hzz
  clear hzz
  obtain ⟨a, ha, hab, hab2⟩ : ∃ a, k + 2 = a ∧ a ≤ 1000 ∧ 2 ≤ a := ⟨_, rfl, by omega, by omega⟩
  rw [ha] at H1 HZ e1
  go_enter Try.func14, Try.ntmps14
  go_wp2_with fail
  refine (says_any H1.out).mono ?_
  rintro e w1 ⟨rfl, hc1⟩
  have HC1 := Lib.hid hc1
  clear hc1 ha
  go_wp2_with fail
  go_loop [6, 7] (fun x i => ∃ (b t : Nat) (c : Int), 2 ≤ b ∧ b ≤ a + 1 ∧ a ≤ b + t ∧ priN a t b c = z ∧ i = .int .i64 (b : Int) ∧ x = .int .i64 c) (fun _ i => a + 1 - (intOf i).toNat)
  case atStart => exact ⟨2, a, 1, by omega, by omega, by omega, HZ.out, rfl, rfl⟩
  case round =>
    obtain ⟨b, t, c, hb, hba, hbt, hr, rfl, rfl⟩ := hrel
    have hbb : b * b ≤ 1001 * 1001 := Nat.mul_le_mul (by omega) (by omega)
    have e2 : IntKind.i64.wrap ((b : Int) * (b : Int)) = ((b * b : Nat) : Int) := by rw [← Int.natCast_mul, IntKind.wrap_i64]; omega
    by_cases hle : b * b ≤ a
    · obtain ⟨t', ht', hr'⟩ := pri_next hb hbt hle hr
      have HR := Lib.hid hr'
      have HT := Lib.hid ht'
      have hb1 : b < a := by have : b * 2 ≤ b * b := Nat.mul_le_mul_left b hb; omega
      clear hr hr' ht' hbt
      generalize b * b = s at *
      have hm : (a : Int).tmod (b : Int) = ((a % b : Nat) : Int) := by rw [Int.tmod_eq_emod_of_nonneg (by omega)]; rfl
      by_cases h0 : a % b = 0
      · rw [h0] at hm
        go_wp2_with fail
        go_round
        case rel => exact ⟨b + 1, t', 0, by omega, by omega, HT.out, by have := HR.out; rw [if_pos h0] at this; exact this, by go_num, rfl⟩
        case measure => simp [intOf]; omega
      · go_wp2_with fail
        go_round
        case rel => exact ⟨b + 1, t', c, by omega, by omega, HT.out, by have := HR.out; rw [if_neg h0] at this; exact this, by go_num, rfl⟩
        case measure => simp [intOf]; omega
    · have he : c = z := by rw [← hr, pri_big (by omega)]
      subst he
      clear hr HZ
      generalize b * b = s at *
      go_wp2_with fail
      refine awake_any.mono ?_
      rintro e w2 ⟨rfl, hc2⟩
      have HP := Lib.hid (show LawPost w (.returned (.bool true)) w2 from ⟨rfl, HC1.out.new hc2⟩)
      clear hc2
      go_wp2_with fail
      go_ret
      exact HP.out
end
end Go.Proofs.Ytnohfdojcdhfoaa
