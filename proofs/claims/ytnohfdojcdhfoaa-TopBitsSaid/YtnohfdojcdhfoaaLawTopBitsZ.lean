/-
  Bits: the law.
-/
import Derived.Test.YtnohfdojcdhfoaaZTopRun1
import Derived.Test.YtnohfdojcdhfoaaZTopRun2
import Derived.Test.YtnohfdojcdhfoaaZTopRun3
import Derived.Test.YtnohfdojcdhfoaaZTopRun4
import Derived.Test.YtnohfdojcdhfoaaZTopRun5
import Derived.Test.YtnohfdojcdhfoaaZTopRun6
import Derived.Test.YtnohfdojcdhfoaaZTopRun7
import Derived.Test.YtnohfdojcdhfoaaZTopRun8
import Derived.Test.YtnohfdojcdhfoaaZTopRun9
import Derived.Test.YtnohfdojcdhfoaaFrameZ
import Derived.Test.YtnohfdojcdhfoaaTopRunZ
import Derived.Test.YtnohfdojcdhfoaaTopAwakeZ
import Derived.Test.YtnohfdojcdhfoaaTopMaskZ
import Derived.Test.YtnohfdojcdhfoaaTopMemZ
import Derived.Test.YtnohfdojcdhfoaaTopBitsPZ
import Derived.Deep.QuietTactic
import Derived.BigQuiet
namespace Go.Proofs.Ytnohfdojcdhfoaa
open Go.RowKit
section
variable {w : World}
set_option maxHeartbeats 4000000 in
set_option maxRecDepth 100000 in
theorem topBits_any (a : Int) : Calls Try.prog 16 #[.int .i64 a] w (LawPost w) := by
  have hz := popN_le 64 a
  have H1 := Lib.hid (bit_run a)
  generalize hzz : popN 64 a = z at hz H1
  have HZ := Lib.hid hzz
  clear hzz
  go_enter Try.func16, Try.ntmps16
  go_wp2_with fail
  refine (says_any H1.out).mono ?_
  rintro e w1 ⟨rfl, hc1⟩
  have HC1 := Lib.hid hc1
  clear hc1
  go_wp2_with fail
  go_loop [5, 6] (fun x i => ∃ (m : Nat) (s : Int), m ≤ 64 ∧ 0 ≤ s ∧ s ≤ z ∧ s + popN (64 - m) (a / 2 ^ m) = z ∧ i = .int .u64 (m : Int) ∧ x = .int .i64 s) (fun _ i => 64 - (intOf i).toNat)
  case atStart => exact ⟨0, 0, by omega, by omega, hz.1, by rw [Int.pow_zero, Int.ediv_one, Nat.sub_zero]; have := HZ.out; omega, rfl, rfl⟩
  case round =>
    obtain ⟨m, s, hm, hs0, hs1, hr, rfl, rfl⟩ := hrel
    have HR := Lib.hid hr
    clear hr
    by_cases hlt : m < 64
    · have hw : IntKind.u64.wrap a = a % 18446744073709551616 := rfl
      have hb := u64_and1 (a % 18446744073709551616 / 2 ^ m)
      have hn := pop_next a m hlt
      have hl := popN_le (64 - (m + 1)) (a / 2 ^ (m + 1))
      have ht := HR.out
      generalize hd : a % 18446744073709551616 / 2 ^ m % 2 = d at *
      have hd1 : 0 ≤ d ∧ d ≤ 1 := by omega
      have e1 : IntKind.i64.wrap d = d := by rw [IntKind.wrap_i64]; omega
      have e2 : IntKind.i64.wrap (s + d) = s + d := by rw [IntKind.wrap_i64]; omega
      have HT := Lib.hid ht
      have HN := Lib.hid hn
      have HL := Lib.hid hl
      have HD := Lib.hid hd
      clear ht hn hl hd
      go_wp2_with fail
      go_round
      case rel => exact ⟨m + 1, s + d, by omega, by omega, by have := HL.out; have := HT.out; have := HN.out; omega, by have := HT.out; have := HN.out; omega, by go_num, rfl⟩
      case measure => simp [intOf]; omega
    · obtain rfl : m = 64 := by omega
      have he : s = z := by have := HR.out; rw [show 64 - 64 = 0 from rfl, popN] at this; omega
      subst he
      clear HR HZ
      go_wp2_with fail
      refine awake_any.mono ?_
      rintro e w2 ⟨rfl, hc2⟩
      have HP := Lib.hid (show LawPost w (.returned (.bool true)) w2 from ⟨rfl, HC1.out.new hc2⟩)
      clear hc2
      go_wp2_with fail
      go_ret
      exact HP.out
end
end Go.Proofs.Ytnohfdojcdhfoaa
