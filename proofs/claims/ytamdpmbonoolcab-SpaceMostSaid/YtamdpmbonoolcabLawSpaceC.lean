/-
  The walk of SpaceMost.
-/
import Derived.Test.YtamdpmbonoolcabLawSpaceB
namespace Go.Proofs.Ytamdpmbonoolcab
open Go.RowKit
theorem fits_more (L u n : Int) (h1 : 1 ≤ L) (h2 : L ≤ 63) (h : fitsB L u n = true) : fitsB (L + 1) u n = true := by
  unfold fitsB leftI sizeI at *
  simp only [Bool.and_eq_true, decide_eq_true_eq] at *
  refine ⟨h.1, ?_⟩
  have h3 := h.2
  rw [if_neg (by omega)] at h3
  rw [if_neg (by omega)]
  omega
theorem most_more (L P : Int) (h1 : 1 ≤ L) (h2 : L ≤ 63) : mostI L P ≤ mostI (L + 1) P := by
  unfold mostI
  split <;> split <;> omega
section
variable {w : World}
set_option maxHeartbeats 2000000 in
set_option maxRecDepth 100000 in
theorem spaceMost_any (a b c : Int) (ha0 : -9223372036854775808 ≤ a) (ha : a ≤ 9223372036854775807) (hb0 : -9223372036854775808 ≤ b) (hb : b ≤ 9223372036854775807) (hc0 : -9223372036854775808 ≤ c) (hc : c ≤ 9223372036854775807) :
    Calls Try.prog 14 #[.int .i64 a, .int .i64 b, .int .i64 c] w (LawPost w) := by
  obtain ⟨L1, L2, _⟩ := into_within a 1 63 (by omega)
  obtain ⟨P1, P2, _⟩ := into_within b 1 64 (by omega)
  obtain ⟨u1, u2, _⟩ := into_within c 0 4096 (by omega)
  go_enter Try.func14, Try.ntmps14
  go_wp2_with fail
  refine (within_is a 1 63 (by omega) (by omega) (by omega) ha0 ha).mono ?_
  rintro e w' ⟨rfl, rfl⟩
  go_wp2_with fail
  refine (within_is b 1 64 (by omega) (by omega) (by omega) hb0 hb).mono ?_
  rintro e w' ⟨rfl, rfl⟩
  generalize withinI a 1 63 = L at L1 L2 ⊢
  generalize withinI b 1 64 = P at P1 P2 ⊢
  have HR := Whole.new w 55 [.int .i64 L, .int .i64 P, .int .u32 0]
  have hw1 : Chg [] w (w.alloc (.cells #[.int .i64 L, .int .i64 P, .int .u32 0] 55)) := (Chg.refl [] w).alloc _
  have hm1 := most_bd L P
  have hm0 : 0 ≤ mostI L P := by unfold mostI; rw [if_neg (by omega)]; omega
  go_wp2_with fail
  refine (most_any L P 0 (by omega)).mono ?_
  rintro e w2 ⟨rfl, hw2⟩
  have HR2 := HR.keep hw2
  obtain ⟨c0, c1, c2⟩ := root_load HR2
  generalize hM : mostI L P = M at hm0 hm1 ⊢
  go_wp2_with fail
  refine (within_is c 0 4096 (by omega) (by omega) (by omega) hc0 hc).mono ?_
  rintro e w' ⟨rfl, rfl⟩
  generalize withinI c 0 4096 = u at u1 u2 ⊢
  have HRa := HR2.keep ((Chg.refl [] w2).alloc (.cells #[.int .i64 (L + 1), .int .i64 P, .int .u32 0] 55))
  have HM := Whole.new w2 55 [.int .i64 (L + 1), .int .i64 P, .int .u32 0]
  have hw3 : Chg [] w (w2.alloc (.cells #[.int .i64 (L + 1), .int .i64 P, .int .u32 0] 55)) := (hw1.new hw2).alloc _
  generalize w2.alloc (.cells #[.int .i64 (L + 1), .int .i64 P, .int .u32 0] 55) = w3 at HRa HM hw3 ⊢
  generalize w2.heap.size = g2 at HM ⊢
  clear c0 c1 c2 HR2 hw2 HR hw1
  go_wp2_with fail
  go_loopw [11] (fun i wr => ∃ n : Nat, n ≤ 65 ∧ i = .int .i64 (n : Int) ∧ Chg [] w3 wr) (fun i _ => 65 - (intOf i).toNat)
  case atStart => exact ⟨0, by omega, rfl, Chg.refl _ _⟩
  case round =>
    obtain ⟨n, hn, rfl, hcr⟩ := hrel
    obtain ⟨c0, c1, c2⟩ := root_load (HRa.keep hcr)
    by_cases hlt : n ≤ 64
    · have hlt' : (n : Int) ≤ 64 := by omega
      by_cases hf : fitsB L u n = true
      · have hf2 := fits_more L u n L1 L2 hf
        go_wp2_with fail
        refine (fits_any L P 0 u n (by omega) (by omega) (by omega)).mono ?_
        rintro e w5 ⟨rfl, hc5⟩
        rw [hf]
        obtain ⟨d0, d1, d2⟩ := root_load ((HM.keep hcr).keep hc5)
        go_wp2_with fail
        refine (fits_any (L + 1) P 0 u n (by omega) (by omega) (by omega)).mono ?_
        rintro e w6 ⟨rfl, hc6⟩
        rw [hf2]
        go_wp2_with fail
        go_roundw
        case rel => exact ⟨n + 1, by omega, by go_num, (hcr.new hc5).new hc6⟩
        case measure => simp [intOf]; omega
      · have hf' : fitsB L u n = false := by simpa using hf
        go_wp2_with fail
        refine (fits_any L P 0 u n (by omega) (by omega) (by omega)).mono ?_
        rintro e w5 ⟨rfl, hc5⟩
        rw [hf']
        go_wp2_with fail
        go_roundw
        case rel => exact ⟨n + 1, by omega, by go_num, hcr.new hc5⟩
        case measure => simp [intOf]; omega
    · have hn65 : ¬ (n : Int) ≤ 64 := by omega
      have hfM : fitsB L 0 M = true := (most_iff L P M hm0 (by omega) (by omega)).2 (by omega)
      have hmm : M ≤ mostI (L + 1) P := by rw [← hM]; exact most_more L P L1 L2
      have hmo := most_bd (L + 1) P
      by_cases hMP : M = P
      · subst hMP
        have HM2 := Lib.hid hM
        clear hM
        go_wp2_with fail
        refine (fits_any L _ 0 0 _ (by omega) (by omega) (by omega)).mono ?_
        rintro e w5 ⟨rfl, hc5⟩
        rw [hfM]
        obtain ⟨d0, d1, d2⟩ := root_load ((HRa.keep hcr).keep hc5)
        obtain ⟨e0, e1, e2⟩ := root_load ((HM.keep hcr).keep hc5)
        go_wp2_with fail
        refine (most_any (L + 1) _ 0 (by omega)).mono ?_
        rintro e w6 ⟨rfl, hc6⟩
        go_wp2_with fail
        refine spknown_any.mono ?_
        rintro e w7 ⟨rfl, hc7⟩
        go_wp2_with fail
        go_ret
        exact ⟨rfl, (((hw3.new hcr).new hc5).new hc6).new hc7⟩
      · have hbq : (M == P) = false := by simpa using hMP
        have hfN : fitsB L 0 (M + 1) = false := by
          cases hc : fitsB L 0 (M + 1) with
          | false => rfl
          | true =>
            have := (fits_most L (M + 1) (by omega)).1 hc
            have h2 := (most_iff L P (M + 1) (by omega) (by omega) (by omega)).1 hc
            omega
        go_wp2_with fail
        refine (fits_any L P 0 0 M (by omega) (by omega) (by omega)).mono ?_
        rintro e w5 ⟨rfl, hc5⟩
        rw [hfM]
        obtain ⟨d0, d1, d2⟩ := root_load ((HRa.keep hcr).keep hc5)
        go_wp2_with fail
        refine (fits_any L P 0 0 (M + 1) (by omega) (by omega) (by omega)).mono ?_
        rintro e w6 ⟨rfl, hc6⟩
        rw [hfN]
        obtain ⟨e0, e1, e2⟩ := root_load (((HM.keep hcr).keep hc5).keep hc6)
        go_wp2_with fail
        refine (most_any (L + 1) P 0 (by omega)).mono ?_
        rintro e w7 ⟨rfl, hc7⟩
        go_wp2_with fail
        refine spknown_any.mono ?_
        rintro e w8 ⟨rfl, hc8⟩
        go_wp2_with fail
        go_ret
        exact ⟨rfl, ((((hw3.new hcr).new hc5).new hc6).new hc7).new hc8⟩
end
end Go.Proofs.Ytamdpmbonoolcab
