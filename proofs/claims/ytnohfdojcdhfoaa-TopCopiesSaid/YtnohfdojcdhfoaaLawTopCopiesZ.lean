/-
  Copied bytes: the law.
-/
import Derived.Test.YtnohfdojcdhfoaaZTopRun1
import Derived.Test.YtnohfdojcdhfoaaZTopRun2
import Derived.Test.YtnohfdojcdhfoaaZTopRun3
import Derived.Test.YtnohfdojcdhfoaaZTopRun4
import Derived.Test.YtnohfdojcdhfoaaZTopRun5
import Derived.Test.YtnohfdojcdhfoaaZTopRun6
import Derived.Test.YtnohfdojcdhfoaaZTopRun7
import Derived.Test.YtnohfdojcdhfoaaZTopRun8
import Derived.Test.YtnohfdojcdhfoaaZTopRun9
import Derived.Test.YtnohfdojcdhfoaaFrameZ
import Derived.Test.YtnohfdojcdhfoaaTopRunZ
import Derived.Test.YtnohfdojcdhfoaaTopAwakeZ
import Derived.Test.YtnohfdojcdhfoaaTopMaskZ
import Derived.Test.YtnohfdojcdhfoaaTopMemZ
import Derived.Test.YtnohfdojcdhfoaaTopSwapsPZ
import Derived.Test.YtnohfdojcdhfoaaTopTwoZ
import Derived.Test.YtnohfdojcdhfoaaTopCopiesPZ
import Derived.Deep.QuietTactic
import Derived.BigQuiet
namespace Go.Proofs.Ytnohfdojcdhfoaa
open Go.RowKit
theorem sumF_le2 (a b : Int) : ∀ n : Nat, 0 ≤ sumF (fun k => ((byteN a k).toNat : Int) + ((byteN b k).toNat : Int)) n ∧ sumF (fun k => ((byteN a k).toNat : Int) + ((byteN b k).toNat : Int)) n ≤ 510 * n
  | 0 => by simp [sumF]
  | n + 1 => by have := sumF_le2 a b n; have := (byteN a n).toNat_lt; have := (byteN b n).toNat_lt; rw [sumF]; omega
section
variable {w : World}
set_option maxHeartbeats 4000000 in
set_option maxRecDepth 100000 in
theorem topCopies_any (a b : Int) : Calls Try.prog 18 #[.int .i64 a, .int .i64 b] w (LawPost w) := by
  have H1 := Lib.hid (cpy_sum a b ▸ cpy_run a b)
  have hz := sumF_le2 a b 8
  generalize hzz : sumF (fun k => ((byteN a k).toNat : Int) + ((byteN b k).toNat : Int)) 8 = z at H1 hz
  have HZ := Lib.hid hzz
  clear hzz hz
  go_enter Try.func18, Try.ntmps18
  go_wp2_with fail
  refine (says_any H1.out).mono ?_
  rintro e w1 ⟨rfl, hc1⟩
  have HC1 := Lib.hid hc1
  clear hc1
  go_wp2_with fail
  go_loop [7, 8] (fun x i => ∃ (m : Nat), m ≤ 8 ∧ i = .int .u64 ((8 * m : Nat) : Int) ∧ x = .int .i64 (sumF (fun k => ((byteN a k).toNat : Int) + ((byteN b k).toNat : Int)) m)) (fun _ i => 64 - (intOf i).toNat)
  case atStart => exact ⟨0, by omega, rfl, rfl⟩
  case round =>
    obtain ⟨m, hm, rfl, rfl⟩ := hrel
    have hs := sumF_le2 a b m
    by_cases hlt : m < 8
    · have hb1 := go_byte a m hlt
      have hb2 := go_byte b m hlt
      have hy1 := (byteN a m).toNat_lt
      have hy2 := (byteN b m).toNat_lt
      have hw1 : IntKind.u64.wrap a = a % 18446744073709551616 := rfl
      have hw2 : IntKind.u64.wrap b = b % 18446744073709551616 := rfl
      have hn : sumF (fun k => ((byteN a k).toNat : Int) + ((byteN b k).toNat : Int)) (m + 1) = sumF (fun k => ((byteN a k).toNat : Int) + ((byteN b k).toNat : Int)) m + (((byteN a m).toNat : Int) + ((byteN b m).toNat : Int)) := rfl
      generalize sumF (fun k => ((byteN a k).toNat : Int) + ((byteN b k).toNat : Int)) m = s at *
      generalize (byteN a m).toNat = p at *
      generalize (byteN b m).toNat = q at *
      have e1 : IntKind.i64.wrap (p : Int) = (p : Int) := by rw [IntKind.wrap_i64]; omega
      have e2 : IntKind.i64.wrap (q : Int) = (q : Int) := by rw [IntKind.wrap_i64]; omega
      have e3 : IntKind.i64.wrap (s + (p : Int)) = s + (p : Int) := by rw [IntKind.wrap_i64]; omega
      have e4 : IntKind.i64.wrap (s + (p : Int) + (q : Int)) = s + (p : Int) + (q : Int) := by rw [IntKind.wrap_i64]; omega
      have HN := Lib.hid hn
      clear hn hs hy1 hy2
      go_wp2_with fail
      go_round
      case rel => exact ⟨m + 1, by omega, by go_num, by rw [HN.out, Int.add_assoc]⟩
      case measure => simp [intOf]; omega
    · obtain rfl : m = 8 := by omega
      have he := HZ.out
      generalize sumF (fun k => ((byteN a k).toNat : Int) + ((byteN b k).toNat : Int)) 8 = s at *
      subst he
      clear hlt hm hs HZ
      go_wp2_with fail
      refine awake_any.mono ?_
      rintro e w2 ⟨rfl, hc2⟩
      have HP := Lib.hid (show LawPost w (.returned (.bool true)) w2 from ⟨rfl, HC1.out.new hc2⟩)
      clear hc2
      go_wp2_with fail
      go_ret
      exact HP.out
end
end Go.Proofs.Ytnohfdojcdhfoaa
