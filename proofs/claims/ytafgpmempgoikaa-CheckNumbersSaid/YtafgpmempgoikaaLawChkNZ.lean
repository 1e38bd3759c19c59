/-
  The walk of CheckNumbers.
-/
import Derived.Test.YtafgpmempgoikaaZNestWithin1
import Derived.Test.YtafgpmempgoikaaZNestWithin2
import Derived.Test.YtafgpmempgoikaaZNestWithin3
import Derived.Test.YtafgpmempgoikaaZNestWithin4
import Derived.Test.YtafgpmempgoikaaZNestWithin5
import Derived.Test.YtafgpmempgoikaaZNestWithin6
import Derived.Test.YtafgpmempgoikaaFrZ
import Derived.Test.YtafgpmempgoikaaCTakesZ
import Derived.Test.YtafgpmempgoikaaWkMemZ
import Derived.Test.YtafgpmempgoikaaWkHalveZ
import Derived.Test.YtafgpmempgoikaaWkEndZ
import Derived.Test.YtafgpmempgoikaaWkLeaveZ
import Derived.Test.YtafgpmempgoikaaWkTurnZ
import Derived.Test.YtafgpmempgoikaaWkStepZ
import Derived.Test.YtafgpmempgoikaaWkPureZ
import Derived.Test.YtafgpmempgoikaaGl1Z
import Derived.Test.YtafgpmempgoikaaGl2Z
import Derived.Test.YtafgpmempgoikaaGlPureZ
import Derived.Test.YtafgpmempgoikaaGlMemZ
import Derived.Test.YtafgpmempgoikaaGlTakeZ
import Derived.Test.YtafgpmempgoikaaGlTokZ
import Derived.Test.YtafgpmempgoikaaWkFuncZ
import Derived.Test.YtafgpmempgoikaaOddZ
import Derived.Test.YtafgpmempgoikaaOddsZ
import Derived.Test.YtafgpmempgoikaaChkSameZ
import Derived.Test.YtafgpmempgoikaaChkTakesZ
import Derived.Test.YtafgpmempgoikaaChkKnownZ
import Derived.Test.YtafgpmempgoikaaLawChkTZ
namespace Go.Proofs.Ytafgpmempgoikaa
open Go.RowKit
def sgn12 : List ByteArray := [⟨#[49]⟩, ⟨#[97]⟩, ⟨#[65]⟩, ⟨#[43]⟩, ⟨#[33]⟩, ⟨#[63]⟩, ⟨#[58]⟩, ⟨#[59]⟩, ⟨#[91]⟩, ⟨#[93]⟩, ⟨#[126]⟩, ⟨#[194, 161]⟩]
def str23 : List ByteArray := [⟨#[49, 63, 50, 58, 51, 59]⟩, ⟨#[49, 63, 50, 58, 51, 32, 52, 59]⟩, ⟨#[49, 63, 194, 161, 58, 51, 59]⟩, ⟨#[49, 63, 50, 58, 194, 161, 59]⟩, ⟨#[49, 63, 194, 161, 58, 194, 161, 59]⟩, ⟨#[49, 63, 194, 161, 59, 50]⟩, ⟨#[91, 97, 63, 126, 59, 93, 53]⟩, ⟨#[91, 93]⟩, ⟨#[91, 93, 49]⟩, ⟨#[91, 49, 93]⟩, ⟨#[49, 91, 97, 33, 63, 126, 59, 93]⟩, ⟨#[49, 91, 50, 63, 44, 126, 59, 93]⟩, ⟨#[49, 206, 187, 102]⟩, ⟨#[206, 187, 102]⟩, ⟨#[49, 206, 187, 103]⟩, ⟨#[49, 207, 128, 113]⟩, ⟨#[49, 46]⟩, ⟨#[49, 44]⟩, ⟨#[35]⟩, ⟨#[49, 32, 50, 36, 51]⟩, ⟨#[49, 194, 164]⟩, ⟨#[91, 49, 63, 126, 59, 91, 50, 63, 126, 59, 93, 93, 55]⟩, ⟨#[49, 63, 50, 63, 51, 58, 52, 59, 58, 53, 59]⟩]
def strs (l : List ByteArray) : List Value := l.map Value.string
theorem strs_get {l : List ByteArray} {k m : Nat} (hm : ∀ y ∈ l, y.size ≤ m) (hk : k < l.length) : ∃ x, (strs l)[k]? = some (.string x) ∧ x.size ≤ m :=
  ⟨l[k], by simp [strs, hk], hm _ (List.getElem_mem _)⟩
section
variable {w : World}
/-- engramlaw9.tail. -/
def TailPost (m : Nat) (w : World) (e : Ending) (w' : World) : Prop := ∃ s : ByteArray, e = .returned (.string s) ∧ s.size ≤ m ∧ w = w'
set_option maxHeartbeats 2000000 in
theorem ctail_any (n : Nat) (hn : n ≤ 1000) (w : World) : Calls Try.prog 20 #[.int .i64 (n : Int)] w (TailPost n w) := by
  go_enter Try.func20, Try.ntmps20
  go_wp2_with fail
  go_loopw [3, 4] (fun v i wr => ∃ (k : Nat) (s : ByteArray), v = .string s ∧ i = .int .i64 (k : Int) ∧ k ≤ n ∧ s.size ≤ k ∧ w = wr) (fun _ i _ => n - (intOf i).toNat)
  case atStart => exact ⟨0, ⟨#[]⟩, rfl, rfl, by omega, by decide, rfl⟩
  case round =>
    obtain ⟨k, s, rfl, rfl, hk, hs, rfl⟩ := hrel
    by_cases hkn : k < n
    · have hkI : (k : Int) < (n : Int) := by omega
      obtain ⟨y, hy, hadd⟩ := addS s ⟨#[43]⟩ k 1 hs (by decide) (by omega)
      have hadd := hadd w
      go_wp2_with fail
      go_roundw
      case rel => exact ⟨k + 1, y, rfl, by go_num, by omega, hy, by first | rfl | trivial⟩
      case measure => simp [intOf]; omega
    · have hkI : (n : Int) ≤ (k : Int) := by omega
      have HP := Lib.hid (show TailPost n w (.returned (.string s)) w from ⟨s, rfl, by omega, rfl⟩)
      go_wp2_with fail
      go_ret
      exact HP.out
set_option maxHeartbeats 16000000 in
set_option maxRecDepth 100000 in
theorem checkNumbers_any : Calls Try.prog 6 #[] w (LawPost w) := by
  go_enter Try.func6, Try.ntmps6
  go_upto_region 2 with fail
  have HS0 := Lib.hid (Whole.new w 9 (strs sgn12))
  have HC0 := Lib.hid ((Chg.refl [] w).alloc (.cells (strs sgn12).toArray 9))
  obtain ⟨gs, hgs⟩ : ∃ gs, gs = w.heap.size := ⟨_, rfl⟩
  rw [← hgs] at HS0 ⊢
  generalize hw1 : w.alloc (.cells #[.string ⟨#[49]⟩, .string ⟨#[97]⟩, .string ⟨#[65]⟩, .string ⟨#[43]⟩, .string ⟨#[33]⟩, .string ⟨#[63]⟩, .string ⟨#[58]⟩, .string ⟨#[59]⟩, .string ⟨#[91]⟩, .string ⟨#[93]⟩, .string ⟨#[126]⟩, .string ⟨#[194, 161]⟩] 9) = w1
  have HS := Lib.hid (show Whole w1 gs 9 (strs sgn12) from by rw [← hw1]; exact HS0.out)
  have HC := Lib.hid (show Chg [] w w1 from by rw [← hw1]; exact HC0.out)
  clear hgs hw1 HS0 HC0
  go_wp2_with fail
  go_loopw [2] (fun i wr => ∃ k : Nat, i = .int .i64 (k : Int) ∧ k ≤ 20736 ∧ Hid (Chg [] w1 wr)) (fun i _ => 20736 - (intOf i).toNat)
  case atStart => exact ⟨0, rfl, by omega, Lib.hid (Chg.refl [] _)⟩
  case round =>
    obtain ⟨k, rfl, hk, HCr⟩ := hrel
    by_cases hkn : k < 20736
    · have hkI : (k : Int) < 20736 := by omega
      go_wp2_with fail
      obtain ⟨wo, hwo⟩ : ∃ wo : World, wo = wr := ⟨_, rfl⟩
      rw [← hwo] at HCr ⊢
      clear hwo
      go_loopw [3, 4] (fun v i wr => ∃ (q r : Nat) (s : ByteArray), v = .string s ∧ i = .int .i64 (q : Int) ∧ Hid (q < 12 ^ r) ∧ q ≤ 20736 ∧ s.size + 2 * r ≤ 10 ∧ wo = wr) (fun _ i _ => (intOf i).toNat)
      case atStart => exact ⟨k, 5, ⟨#[]⟩, rfl, rfl, Lib.hid (by have : (12 : Nat) ^ 5 = 248832 := rfl; omega), by omega, by decide, rfl⟩
      case round =>
        obtain ⟨q, r, s, rfl, rfl, HQ, hq2, hs, hww⟩ := hrel
        subst hww
        by_cases hq0 : 0 < q
        · have hqI : (0 : Int) < (q : Int) := by omega
          obtain ⟨r, rfl⟩ : ∃ r', r = r' + 1 := ⟨r - 1, by
            rcases Nat.eq_zero_or_pos r with e | e
            · subst e; have := HQ.out; simp at this; omega
            · omega⟩
          have HQ2 := Lib.hid (show q / 12 < 12 ^ r from Nat.div_lt_of_lt_mul (by have := HQ.out; rw [Nat.pow_succ] at this; omega))
          have hm12 : q % 12 < 12 := Nat.mod_lt _ (by omega)
          obtain ⟨x, hx, hxs⟩ := strs_get (l := sgn12) (k := q % 12) (m := 2) (by decide) hm12
          have z0 : wo.cell? ⟨gs, q % 12, none⟩ = some (.string x) := ((HS.out.keep HCr.out).cell (q % 12)).trans hx
          obtain ⟨y, hy, hadd⟩ := addS s x s.size 2 (Nat.le_refl _) hxs (by omega)
          have hadd := hadd wo
          have hdI : (q : Int) / 12 = ((q / 12 : Nat) : Int) := by omega
          have HD := Lib.hid hdI
          clear hx hdI
          go_wp2_with fail
          go_roundw
          case rel => exact ⟨q / 12, r, y, rfl, by first | rfl | rw [HD.out], HQ2, by omega, by omega, by first | rfl | trivial⟩
          case measure => simp [intOf]; omega
        · have hq00 : (q : Int) ≤ 0 := by omega
          go_wp2_with fail
          refine (one_any s _).mono ?_
          rintro e wa1 ⟨ga, rfl, hFa, _, hca⟩
          have HSX := Lib.hid (one_same s (by omega) hFa (Chg.refl [] wa1))
          have HCa := Lib.hid (HCr.out.new hca)
          clear hFa hca
          go_wp2_with fail
          refine HSX.out.mono ?_
          rintro e wb1 ⟨rfl, hcb⟩
          have HCb1 := Lib.hid (HCa.out.new hcb)
          clear hcb HSX HCa
          go_wp2_with fail
          go_roundw
          case rel => exact ⟨k + 1, by go_num, by omega, HCb1⟩
          case measure => simp [intOf]; omega
    · have hkI : (20736 : Int) ≤ (k : Int) := by omega
      have HC2 := Lib.hid (HC.out.new HCr.out)
      clear HS
      go_upto_region 13 with fail
      have HS0 := Lib.hid (Whole.new wr 9 (strs str23))
      have HC0 := Lib.hid ((Chg.refl [] wr).alloc (.cells (strs str23).toArray 9))
      obtain ⟨gt, hgt⟩ : ∃ gt, gt = wr.heap.size := ⟨_, rfl⟩
      rw [← hgt] at HS0 ⊢
      generalize hw2 : wr.alloc (.cells #[.string ⟨#[49, 63, 50, 58, 51, 59]⟩, .string ⟨#[49, 63, 50, 58, 51, 32, 52, 59]⟩, .string ⟨#[49, 63, 194, 161, 58, 51, 59]⟩, .string ⟨#[49, 63, 50, 58, 194, 161, 59]⟩, .string ⟨#[49, 63, 194, 161, 58, 194, 161, 59]⟩, .string ⟨#[49, 63, 194, 161, 59, 50]⟩, .string ⟨#[91, 97, 63, 126, 59, 93, 53]⟩, .string ⟨#[91, 93]⟩, .string ⟨#[91, 93, 49]⟩, .string ⟨#[91, 49, 93]⟩, .string ⟨#[49, 91, 97, 33, 63, 126, 59, 93]⟩, .string ⟨#[49, 91, 50, 63, 44, 126, 59, 93]⟩, .string ⟨#[49, 206, 187, 102]⟩, .string ⟨#[206, 187, 102]⟩, .string ⟨#[49, 206, 187, 103]⟩, .string ⟨#[49, 207, 128, 113]⟩, .string ⟨#[49, 46]⟩, .string ⟨#[49, 44]⟩, .string ⟨#[35]⟩, .string ⟨#[49, 32, 50, 36, 51]⟩, .string ⟨#[49, 194, 164]⟩, .string ⟨#[91, 49, 63, 126, 59, 91, 50, 63, 126, 59, 93, 93, 55]⟩, .string ⟨#[49, 63, 50, 63, 51, 58, 52, 59, 58, 53, 59]⟩] 9) = w2
      have HS := Lib.hid (show Whole w2 gt 9 (strs str23) from by rw [← hw2]; exact HS0.out)
      have HC3 := Lib.hid (show Chg [] w w2 from by rw [← hw2]; exact HC2.out.new HC0.out)
      clear hgt hw2 HS0 HC0 HC2
      go_loopw [33] (fun i wr => ∃ k : Nat, i = .int .i64 (k : Int) ∧ k ≤ 23 ∧ Hid (Chg [] w2 wr)) (fun i _ => 23 - (intOf i).toNat)
      case atStart => exact ⟨0, rfl, by omega, Lib.hid (Chg.refl [] _)⟩
      case round =>
        clear hkI hkn hk HCr
        obtain ⟨k, rfl, hk, HCr⟩ := hrel
        by_cases hkn : k < 23
        · have hkI : (k : Int) < 23 := by omega
          obtain ⟨x, hx, hxs⟩ := strs_get (l := str23) (k := k) (m := 40) (by decide) hkn
          have z0 : wr.cell? ⟨gt, k, none⟩ = some (.string x) := ((HS.out.keep HCr.out).cell k).trans hx
          clear hx
          go_wp2_with fail
          refine (one_any x _).mono ?_
          rintro e wa3 ⟨ga, rfl, hFa, _, hca⟩
          have HSX := Lib.hid (one_same x (by omega) hFa (Chg.refl [] wa3))
          have HCa := Lib.hid (HCr.out.new hca)
          clear hFa hca
          go_wp2_with fail
          refine HSX.out.mono ?_
          rintro e wb3 ⟨rfl, hcb⟩
          have HCb3 := Lib.hid (HCa.out.new hcb)
          clear hcb HSX HCa
          go_wp2_with fail
          go_roundw
          case rel => exact ⟨k + 1, by go_num, by omega, HCb3⟩
          case measure => simp [intOf]; omega
        · have hkI : (23 : Int) ≤ (k : Int) := by omega
          have HC4 := Lib.hid (HC3.out.new HCr.out)
          clear HS HC3 HCr
          obtain ⟨w4, hw4⟩ : ∃ w4 : World, w4 = wr := ⟨_, rfl⟩
          rw [← hw4] at HC4 ⊢
          clear hw4
          go_wp2_with fail
          go_loopw [7, 8] (fun v i wr => ∃ (k : Nat) (s : ByteArray), v = .string s ∧ i = .int .i64 (k : Int) ∧ k ≤ 66 ∧ s.size ≤ k ∧ Hid (Chg [] w4 wr)) (fun _ i _ => 66 - (intOf i).toNat)
          case atStart => exact ⟨0, ⟨#[]⟩, rfl, rfl, by omega, by decide, Lib.hid (Chg.refl [] _)⟩
          case round =>
            clear hkI hkn hk
            obtain ⟨k, s, rfl, rfl, hk, hs, HCr⟩ := hrel
            by_cases hkn : k < 66
            · have hkI : (k : Int) < 66 := by omega
              obtain ⟨y, hy, hadd⟩ := addS s ⟨#[97]⟩ k 1 hs (by decide) (by omega)
              have hadd := hadd wr
              by_cases h60 : 60 < k
              · have h60I : (60 : Int) < (k : Int) := by omega
                go_wp2_with fail
                clear hadd
                refine (one_any y _).mono ?_
                rintro e wa5 ⟨ga, rfl, hFa, _, hca⟩
                have HSX := Lib.hid (one_same y (by omega) hFa (Chg.refl [] wa5))
                have HCa := Lib.hid (HCr.out.new hca)
                clear hFa hca
                go_wp2_with fail
                refine HSX.out.mono ?_
                rintro e wb5 ⟨rfl, hcb⟩
                have HCb5 := Lib.hid (HCa.out.new hcb)
                clear hcb HSX HCa
                go_wp2_with fail
                refine (ctail_any k (by omega) _).mono ?_
                rintro e w6 ⟨t, rfl, ht, hw6⟩
                subst hw6
                obtain ⟨z, hz, hadd⟩ := addS y t (k + 1) k hy ht (by omega)
                have hadd := hadd wb5
                go_wp2_with fail
                clear hadd
                refine (one_any z _).mono ?_
                rintro e wa6 ⟨ga, rfl, hFa, _, hca⟩
                have HSX := Lib.hid (one_same z (by omega) hFa (Chg.refl [] wa6))
                have HCa := Lib.hid (HCb5.out.new hca)
                clear hFa hca
                go_wp2_with fail
                refine HSX.out.mono ?_
                rintro e wb6 ⟨rfl, hcb⟩
                have HCb6 := Lib.hid (HCa.out.new hcb)
                clear hcb HSX HCa
                go_wp2_with fail
                go_roundw
                case rel => exact ⟨k + 1, y, rfl, by go_num, by omega, hy, HCb6⟩
                case measure => simp [intOf]; omega
              · have h60I : (k : Int) ≤ 60 := by omega
                go_wp2_with fail
                go_roundw
                case rel => exact ⟨k + 1, y, rfl, by go_num, by omega, hy, HCr⟩
                case measure => simp [intOf]; omega
            · have hkI : (66 : Int) ≤ (k : Int) := by omega
              have HC5 := Lib.hid (HC4.out.new HCr.out)
              clear HC4 HCr
              obtain ⟨w5, hw5⟩ : ∃ w5 : World, w5 = wr := ⟨_, rfl⟩
              rw [← hw5] at HC5 ⊢
              clear hw5
              go_wp2_with fail
              go_loopw [9] (fun i wr => ∃ k : Nat, i = .int .i32 (k : Int) ∧ k ≤ 1000 ∧ Hid (Chg [] w5 wr)) (fun i _ => 1000 - (intOf i).toNat)
              case atStart => exact ⟨0, rfl, by omega, Lib.hid (Chg.refl [] _)⟩
              case round =>
                clear hkI hkn hk
                obtain ⟨k, rfl, hk, HCr⟩ := hrel
                by_cases hkn : k < 1000
                · have hkI : (k : Int) < 1000 := by omega
                  go_wp2_with fail
                  refine (one_any ⟨#[]⟩ _).mono ?_
                  rintro e wa7 ⟨ga, rfl, hFa, _, hca⟩
                  have HSX := Lib.hid (ctk_any (pages := 0) (most := 0) hFa ⟨(k : Int), 0, 102⟩)
                  have HCa := Lib.hid (HCr.out.new hca)
                  clear hFa hca
                  go_wp2_with fail
                  refine HSX.out.mono ?_
                  rintro e wb7 ⟨rfl, hcb⟩
                  have HCb7 := Lib.hid (HCa.out.new hcb)
                  clear hcb HSX HCa
                  go_wp2_with fail
                  refine (one_any ⟨#[]⟩ _).mono ?_
                  rintro e wa8 ⟨ga, rfl, hFa, _, hca⟩
                  have HSX := Lib.hid (ctk_any (pages := 0) (most := 0) hFa ⟨(k : Int), 0, 103⟩)
                  have HCa := Lib.hid (HCb7.out.new hca)
                  clear hFa hca
                  go_wp2_with fail
                  refine HSX.out.mono ?_
                  rintro e wb8 ⟨rfl, hcb⟩
                  have HCb8 := Lib.hid (HCa.out.new hcb)
                  clear hcb HSX HCa
                  go_wp2_with fail
                  go_roundw
                  case rel => exact ⟨k + 1, by go_num, by omega, HCb8⟩
                  case measure => simp [intOf]; omega
                · have hkI : (1000 : Int) ≤ (k : Int) := by omega
                  have HC6 := Lib.hid (HC5.out.new HCr.out)
                  go_wp2_with fail
                  refine cknown_any.mono ?_
                  rintro e w12 ⟨rfl, hc12⟩
                  have HP := Lib.hid (show LawPost w (.returned (.bool true)) w12 from ⟨rfl, HC6.out.new hc12⟩)
                  clear hc12
                  go_wp2_with fail
                  go_ret
                  exact HP.out
end
end Go.Proofs.Ytafgpmempgoikaa
