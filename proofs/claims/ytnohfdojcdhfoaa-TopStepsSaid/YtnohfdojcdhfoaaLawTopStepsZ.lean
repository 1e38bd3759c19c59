/-
  Steps to 1: the law.
-/
import Derived.Test.YtnohfdojcdhfoaaZTopRun1
import Derived.Test.YtnohfdojcdhfoaaZTopRun2
import Derived.Test.YtnohfdojcdhfoaaZTopRun3
import Derived.Test.YtnohfdojcdhfoaaZTopRun4
import Derived.Test.YtnohfdojcdhfoaaZTopRun5
import Derived.Test.YtnohfdojcdhfoaaZTopRun6
import Derived.Test.YtnohfdojcdhfoaaZTopRun7
import Derived.Test.YtnohfdojcdhfoaaZTopRun8
import Derived.Test.YtnohfdojcdhfoaaZTopRun9
import Derived.Test.YtnohfdojcdhfoaaFrameZ
import Derived.Test.YtnohfdojcdhfoaaTopRunZ
import Derived.Test.YtnohfdojcdhfoaaTopAwakeZ
import Derived.Test.YtnohfdojcdhfoaaTopMaskZ
import Derived.Test.YtnohfdojcdhfoaaTopMemZ
import Derived.Test.YtnohfdojcdhfoaaTopStepsPZ
namespace Go.Proofs.Ytnohfdojcdhfoaa
open Go.RowKit
section
variable {w : World}
set_option maxHeartbeats 4000000 in
set_option maxRecDepth 100000 in
theorem topSteps_any (n : Int) : Calls Try.prog 15 #[.int .i64 n] w (LawPost w) := by
  obtain ⟨k, hk, hk1⟩ : ∃ k : Nat, bits .and .i64 n 255 = (k : Int) ∧ k < 256 := ⟨(n % 256).toNat, by rw [tmask_255]; omega, by omega⟩
  obtain ⟨m, hm⟩ : ∃ m, colN 140 (k + 1) = some m := Option.isSome_iff_exists.1 (col_all k hk1)
  have hmle := col_le _ hm
  have H1 := Lib.hid (stp_run (k + 1) m hm (by omega))
  have HM := Lib.hid hm
  have e1 : IntKind.i64.wrap (1 + (k : Int)) = ((k + 1 : Nat) : Int) := by rw [IntKind.wrap_i64]; omega
  clear hm
  go_enter Try.func15, Try.ntmps15
  go_wp2_with fail
  refine (says_any H1.out).mono ?_
  rintro e w1 ⟨rfl, hc1⟩
  have HC1 := Lib.hid hc1
  clear hc1
  go_wp2_with fail
  go_loop [6, 7] (fun c x => ∃ (i y r t : Nat), 1 ≤ y ∧ i + r = m ∧ colN t y = some r ∧ x = .int .i64 (y : Int) ∧ c = .int .i64 (i : Int)) (fun c _ => m - (intOf c).toNat)
  case atStart => exact ⟨0, k + 1, m, 140, by omega, by omega, HM.out, rfl, rfl⟩
  case round =>
    obtain ⟨i, y, r, t, hy, hi, hr, rfl, rfl⟩ := hrel
    by_cases h1 : y = 1
    · subst h1
      obtain rfl := col_one hr
      obtain rfl : i = m := by omega
      clear hr hi hmle HM
      go_wp2_with fail
      refine awake_any.mono ?_
      rintro e w2 ⟨rfl, hc2⟩
      have HP := Lib.hid (show LawPost w (.returned (.bool true)) w2 from ⟨rfl, HC1.out.new hc2⟩)
      clear hc2
      go_wp2_with fail
      go_ret
      exact HP.out
    · obtain ⟨t', r', rfl, rfl, hn, hb⟩ := col_next h1 hr
      have hp := nxt_pos h1 hy
      have HN := Lib.hid hn
      clear hn hr
      have hm2 : (y : Int).tmod 2 = (y : Int) % 2 := Int.tmod_eq_emod_of_nonneg (by omega)
      by_cases ho : y % 2 = 1
      · have hx : nxt y = 3 * y + 1 := if_pos ho
        have hq : (y : Int) % 2 = 1 := by omega
        have e2 : IntKind.i64.wrap (3 * (y : Int)) = 3 * (y : Int) := by rw [IntKind.wrap_i64]; omega
        have e3 : IntKind.i64.wrap (3 * (y : Int) + 1) = ((nxt y : Nat) : Int) := by rw [IntKind.wrap_i64, hx]; omega
        rw [hx] at hp
        clear hx
        go_wp2_with fail
        go_round
        case rel => exact ⟨i + 1, nxt y, r', t', by unfold nxt; rw [if_pos ho]; omega, by omega, HN.out, rfl, by go_num⟩
        case measure => simp [intOf]; omega
      · have hx : nxt y = y / 2 := if_neg ho
        have hq : (y : Int) % 2 = 0 := by omega
        have e3 : (y : Int).tdiv 2 = ((nxt y : Nat) : Int) := by rw [hx, Int.tdiv_eq_ediv_of_nonneg (by omega)]; rfl
        have e4 : IntKind.i64.wrap ((nxt y : Nat) : Int) = ((nxt y : Nat) : Int) := by rw [IntKind.wrap_i64, hx]; omega
        clear hx
        go_wp2_with fail
        go_round
        case rel => exact ⟨i + 1, nxt y, r', t', hp, by omega, HN.out, rfl, by go_num⟩
        case measure => simp [intOf]; omega
end
end Go.Proofs.Ytnohfdojcdhfoaa
