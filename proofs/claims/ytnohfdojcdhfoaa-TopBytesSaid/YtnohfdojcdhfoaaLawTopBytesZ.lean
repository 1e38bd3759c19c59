/-
  Mixed bytes: the law.
-/
import Derived.Test.YtnohfdojcdhfoaaZTopRun1
import Derived.Test.YtnohfdojcdhfoaaZTopRun2
import Derived.Test.YtnohfdojcdhfoaaZTopRun3
import Derived.Test.YtnohfdojcdhfoaaZTopRun4
import Derived.Test.YtnohfdojcdhfoaaZTopRun5
import Derived.Test.YtnohfdojcdhfoaaZTopRun6
import Derived.Test.YtnohfdojcdhfoaaZTopRun7
import Derived.Test.YtnohfdojcdhfoaaZTopRun8
import Derived.Test.YtnohfdojcdhfoaaZTopRun9
import Derived.Test.YtnohfdojcdhfoaaFrameZ
import Derived.Test.YtnohfdojcdhfoaaTopRunZ
import Derived.Test.YtnohfdojcdhfoaaTopAwakeZ
import Derived.Test.YtnohfdojcdhfoaaTopMaskZ
import Derived.Test.YtnohfdojcdhfoaaTopMemZ
import Derived.Test.YtnohfdojcdhfoaaTopSwapsPZ
import Derived.Test.YtnohfdojcdhfoaaTopTwoZ
import Derived.Test.YtnohfdojcdhfoaaTopBytesPZ
import Derived.Deep.QuietTactic
import Derived.BigQuiet
namespace Go.Proofs.Ytnohfdojcdhfoaa
open Go.RowKit
theorem u64_i64 (q : Nat) (h : q < 18446744073709551616) : IntKind.u64.wrap (IntKind.i64.wrap (q : Int)) = (q : Int) := by
  have e : ∀ x : Int, IntKind.u64.wrap x = x % 18446744073709551616 := fun _ => rfl
  rw [e, IntKind.wrap_i64]
  omega
section
variable {w : World}
set_option maxHeartbeats 4000000 in
set_option maxRecDepth 100000 in
theorem topBytes_any (a b : Int) : Calls Try.prog 29 #[.int .i64 a, .int .i64 b] w (LawPost w) := by
  have h1 := byt_run a b
  unfold bytN at h1
  have hlt8 : natB (fun k => (mm8 a b k).toNat) 8 < 18446744073709551616 := Nat.lt_of_lt_of_le (natB_lt (g := fun k => (mm8 a b k).toNat) (fun k => (mm8 a b k).toNat_lt) 8) (by decide)
  generalize hq8 : natB (fun k => (mm8 a b k).toNat) 8 = q8 at *
  have H1 := Lib.hid h1
  clear h1
  have hw := u64_i64 q8 hlt8
  generalize IntKind.i64.wrap (q8 : Nat) = z at H1 hw
  have HQ := Lib.hid hq8
  clear hlt8 hq8
  go_enter Try.func29, Try.ntmps29
  go_wp2_with fail
  refine (says_any H1.out).mono ?_
  rintro e w1 ⟨rfl, hc1⟩
  have HC1 := Lib.hid hc1
  clear hc1
  go_wp2_with fail
  go_loop [7, 8] (fun x i => ∃ (m : Nat), m ≤ 8 ∧ i = .int .u64 ((m : Nat) : Int) ∧ x = .int .u64 ((natB (fun k => (mm8 a b k).toNat) m : Nat) : Int)) (fun _ i => 8 - (intOf i).toNat)
  case atStart => exact ⟨0, by omega, rfl, rfl⟩
  case round =>
    obtain ⟨m, hm, rfl, rfl⟩ := hrel
    by_cases hlt : m < 8
    · have hs := natB_lt (g := fun k => (mm8 a b k).toNat) (fun k => (mm8 a b k).toNat_lt) m
      have ho := orb8 (natB (fun k => (mm8 a b k).toNat) m) ((mm8 a b m).toNat) m hlt hs (mm8 a b m).toNat_lt
      have hn : natB (fun k => (mm8 a b k).toNat) (m + 1) = natB (fun k => (mm8 a b k).toNat) m + 2 ^ (8 * m) * (mm8 a b m).toNat := rfl
      have e8 : IntKind.u64.wrap (8 * (m : Int)) = ((8 * m : Nat) : Int) := by show _ % 18446744073709551616 = _; omega
      have hm1 : bits .and .u64 (m : Int) 1 = (m : Int) % 2 := u64_and1 _
      generalize natB (fun k => (mm8 a b k).toNat) m = s at *
      clear hs
      have HX := Lib.hid hw
      clear hw
      by_cases hod : m % 2 = 1
      · have hq : (m : Int) % 2 = 1 := by omega
        have hmm : byteN b m = mm8 a b m := by unfold mm8; rw [if_pos hod]
        have hb := go_byte b m hlt
        have hw1 : IntKind.u64.wrap b = b % 18446744073709551616 := rfl
        rw [hmm] at hb
        generalize hyy : (mm8 a b m).toNat = y at *
        have HO := Lib.hid ho
        have HN := Lib.hid hn
        have HY := Lib.hid hyy
        clear ho hn hyy
        go_wp2_with fail
        go_round
        case rel => exact ⟨m + 1, by omega, by go_num, by rw [HN.out, HO.out]⟩
        case measure => simp [intOf]; omega
      · have hq : (m : Int) % 2 = 0 := by omega
        have hmm : byteN a m = mm8 a b m := by unfold mm8; rw [if_neg hod]
        have hb := go_byte a m hlt
        have hw1 : IntKind.u64.wrap a = a % 18446744073709551616 := rfl
        rw [hmm] at hb
        generalize hyy : (mm8 a b m).toNat = y at *
        have HO := Lib.hid ho
        have HN := Lib.hid hn
        have HY := Lib.hid hyy
        clear ho hn hyy
        go_wp2_with fail
        go_round
        case rel => exact ⟨m + 1, by omega, by go_num, by rw [HN.out, HO.out]⟩
        case measure => simp [intOf]; omega
    · obtain rfl : m = 8 := by omega
      have hq := HQ.out
      clear HQ
      generalize natB (fun k => (mm8 a b k).toNat) 8 = q9 at *
      subst hq
      clear hlt hm
      go_wp2_with fail
      refine awake_any.mono ?_
      rintro e w2 ⟨rfl, hc2⟩
      have HP := Lib.hid (show LawPost w (.returned (.bool true)) w2 from ⟨rfl, HC1.out.new hc2⟩)
      clear hc2
      go_wp2_with fail
      go_ret
      exact HP.out
end
end Go.Proofs.Ytnohfdojcdhfoaa
