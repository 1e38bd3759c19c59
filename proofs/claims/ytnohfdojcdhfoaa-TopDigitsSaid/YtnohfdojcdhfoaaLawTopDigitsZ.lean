/-
  Digits: the law.
-/
import Derived.Test.YtnohfdojcdhfoaaZTopRun1
import Derived.Test.YtnohfdojcdhfoaaZTopRun2
import Derived.Test.YtnohfdojcdhfoaaZTopRun3
import Derived.Test.YtnohfdojcdhfoaaZTopRun4
import Derived.Test.YtnohfdojcdhfoaaZTopRun5
import Derived.Test.YtnohfdojcdhfoaaZTopRun6
import Derived.Test.YtnohfdojcdhfoaaZTopRun7
import Derived.Test.YtnohfdojcdhfoaaZTopRun8
import Derived.Test.YtnohfdojcdhfoaaZTopRun9
import Derived.Test.YtnohfdojcdhfoaaFrameZ
import Derived.Test.YtnohfdojcdhfoaaTopRunZ
import Derived.Test.YtnohfdojcdhfoaaTopAwakeZ
import Derived.Test.YtnohfdojcdhfoaaTopMaskZ
import Derived.Test.YtnohfdojcdhfoaaTopMemZ
import Derived.Test.YtnohfdojcdhfoaaTopDigitsPZ
namespace Go.Proofs.Ytnohfdojcdhfoaa
open Go.RowKit
theorem tmask_40 (n : Int) : bits .and .i64 n 1099511627775 = n % 1099511627776 := by
  have h127 : (BitVec.ofInt 64 1099511627775).toNat = 2 ^ 40 - 1 := by decide
  have key : (BitVec.ofInt 64 n &&& BitVec.ofInt 64 1099511627775).toNat = (n % ((2 ^ 64 : Nat) : Int)).toNat % 2 ^ 40 := by
    rw [BitVec.toNat_and, BitVec.toNat_ofInt, h127, Nat.and_two_pow_sub_one_eq_mod]
  show IntKind.i64.wrap ((BitVec.ofInt 64 n &&& BitVec.ofInt 64 1099511627775).toNat : Nat) = n % 1099511627776
  rw [key, IntKind.wrap_i64]
  omega
section
variable {w : World}
set_option maxHeartbeats 4000000 in
set_option maxRecDepth 100000 in
theorem topDigits_any (n : Int) : Calls Try.prog 27 #[.int .i64 n] w (LawPost w) := by
  obtain ⟨k, hk, hk1⟩ : ∃ k : Nat, bits .and .i64 n 1099511627775 = (k : Int) ∧ k < 1099511627776 := ⟨(n % 1099511627776).toNat, by rw [tmask_40]; omega, by omega⟩
  have hz : digN 13 k 0 = digN 13 k 0 := rfl
  generalize hzz : digN 13 k 0 = z at hz
  have H1 := Lib.hid (hzz ▸ dig_run k hk1)
  have HZ := Lib.hid hzz
  clear hz hzz
  go_enter Try.func27, Try.ntmps27
  go_wp2_with fail
  refine (says_any H1.out).mono ?_
  rintro e w1 ⟨rfl, hc1⟩
  have HC1 := Lib.hid hc1
  clear hc1
  go_wp2_with fail
  go_loop [6, 7] (fun x y => ∃ (t q : Nat) (c : Int), q < 10 ^ t ∧ q < 1099511627776 ∧ digN t q c = z ∧ y = .int .i64 (q : Int) ∧ x = .int .i64 c) (fun _ y => (intOf y).toNat)
  case atStart => exact ⟨13, k, 0, by omega, hk1, HZ.out, rfl, rfl⟩
  case round =>
    obtain ⟨t, q, c, hq, hb, hr, rfl, rfl⟩ := hrel
    have HR := Lib.hid hr
    have HQ := Lib.hid hq
    clear hr hq
    by_cases h0 : q = 0
    · subst h0
      have he : c = z := by rw [← HR.out, digN_zero]
      subst he
      clear HR HZ HQ
      go_wp2_with fail
      refine awake_any.mono ?_
      rintro e w2 ⟨rfl, hc2⟩
      have HP := Lib.hid (show LawPost w (.returned (.bool true)) w2 from ⟨rfl, HC1.out.new hc2⟩)
      clear hc2
      go_wp2_with fail
      go_ret
      exact HP.out
    · have hm : (q : Int).tmod 10 = ((q % 10 : Nat) : Int) := by rw [Int.tmod_eq_emod_of_nonneg (by omega)]; rfl
      have hd : (q : Int).tdiv 10 = ((q / 10 : Nat) : Int) := by rw [Int.tdiv_eq_ediv_of_nonneg (by omega)]; rfl
      go_wp2_with fail
      go_round
      case rel =>
        have hq := HQ.out
        have hr := HR.out
        cases t with
        | zero => omega
        | succ t => exact ⟨t, q / 10, _, by rw [Nat.pow_succ] at hq; omega, by omega, by rw [digN_next _ h0] at hr; exact hr, rfl, rfl⟩
      case measure => simp [intOf]; omega
end
end Go.Proofs.Ytnohfdojcdhfoaa
