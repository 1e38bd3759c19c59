/-
  PB: Right.
-/
import Derived.Test.YtbkfhndmeljlcaaGreatDoorZPB9
import Derived.Test.YtbkfhndmeljlcaaGreatDoorZPB19
import Derived.Test.YtbkfhndmeljlcaaGreatDoorZPB26
import Derived.Test.YtbkfhndmeljlcaaGreatDoorZPB27
import Derived.Test.YtbkfhndmeljlcaaGreatDoorZPB30
namespace Go.Proofs.YtbkfhndmeljlcaaGreatDoor
open Go.RowKit
def RightPost (W : World) (r : Int) (e : Ending) (w' : World) : Prop := e = .returned (.int .i64 r) ∧ Chg [] W w'
section
variable {W : World} {A : Option Addr} {n c : Nat} {l : List FnV} {pages most : Int}
set_option maxHeartbeats 8000000 in
set_option maxRecDepth 100000 in
theorem uright_any_long (hn : n > 32) (hn2 : n ≤ 9223372036854775807) (R : Int) (hR : R = if pages < 0 ∨ most < pages ∨ 64 < most then 25 else 3) : Calls Tryz.prog 54 #[.agg #[.int .i64 pages, .int .i64 most, .slice A n c]] W (RightPost W R) := by
  have HRR := Lib.hid hR
  clear hR
  go_enter Tryz.func54, Tryz.ntmps54
  go_upto_region 1 with fail
  have hN := Whole.new W 24 [.int .i64 pages, .int .i64 most, .slice A n c]
  have hal : Chg [] W (W.alloc (.cells #[.int .i64 pages, .int .i64 most, .slice A n c] 24)) := (Chg.refl [] W).alloc _
  obtain ⟨g, hg⟩ : ∃ g, g = W.heap.size := ⟨_, rfl⟩
  rw [← hg] at hN ⊢
  have HU := Lib.hid hN
  have HC := Lib.hid hal
  generalize W.alloc (.cells #[.int .i64 pages, .int .i64 most, .slice A n c] 24) = w1 at HU HC ⊢
  clear hN hal hg
  have u0 := HU.out.cell 0
  have u1 := HU.out.cell 1
  have u2 := HU.out.cell 2
  have b4 : decide (32 < (n : Int)) = true := by simp; omega
  by_cases h0 : pages < 0
  · have hE := Lib.hid (show R = 25 from by rw [HRR.out, if_pos (.inl h0)])
    have b1 : decide (pages < 0) = true := by simpa using h0
    clear h0
    go_wp2_with fail
    go_ret
    exact ⟨by rw [hE.out]; rfl, HC.out⟩
  · have b1 : decide (pages < 0) = false := by simpa using h0
    by_cases h1 : most < pages
    · have hE := Lib.hid (show R = 25 from by rw [HRR.out, if_pos (.inr (.inl h1))])
      have b2 : decide (most < pages) = true := by simpa using h1
      clear h0 h1
      go_wp2_with fail
      go_ret
      exact ⟨by rw [hE.out]; rfl, HC.out⟩
    · have b2 : decide (most < pages) = false := by simpa using h1
      by_cases h2 : 64 < most
      · have hE := Lib.hid (show R = 25 from by rw [HRR.out, if_pos (.inr (.inr h2))])
        have b3 : decide (64 < most) = true := by simpa using h2
        clear h0 h1 h2
        go_wp2_with fail
        go_ret
        exact ⟨by rw [hE.out]; rfl, HC.out⟩
      · have hE := Lib.hid (show R = 3 from by rw [HRR.out, if_neg (by omega)])
        have b3 : decide (64 < most) = false := by simpa using h2
        clear h0 h1 h2
        go_wp2_with fail
        go_ret
        exact ⟨by rw [hE.out]; rfl, HC.out⟩
set_option maxHeartbeats 8000000 in
set_option maxRecDepth 100000 in
theorem uright_any (h : Fnr W A n c l) (hsm : ∀ f ∈ l, f.code.size ≤ 9223372036854775807) : Calls Tryz.prog 54 #[unitV pages most A n c] W (RightPost W (rRight pages most l)) := by
  by_cases hn32 : 32 < n
  · have e : rRight pages most l = (if pages < 0 ∨ most < pages ∨ 64 < most then (25 : Int) else 3) := by
      unfold rRight
      have hq : 32 < l.length := by rw [h.len]; exact hn32
      rw [if_pos hq]
    unfold unitV
    exact uright_any_long hn32 (by have := h.max; omega) _ e
  have H := Lib.hid h
  have hmx := h.max
  have HCF := Lib.hid (fun (w : World) (hc : Chg [] W w) (k : Int) => cfunc_big (pages := pages) (most := most) (h.keep hc) hsm k)
  have HFI := Lib.hid (fun (w : World) (hc : Chg [] W w) (nm : Int) => cfind_any (pages := pages) (most := most) (h.keep hc) nm)
  have HLN := Lib.hid h.len
  obtain ⟨R, hR⟩ : ∃ R, R = rRight pages most l := ⟨_, rfl⟩
  rw [← hR]
  unfold unitV at HCF HFI ⊢
  clear h hsm
  have b4 : decide (32 < (n : Int)) = false := by simp; omega
  go_enter Tryz.func54, Tryz.ntmps54
  go_upto_region 1 with fail
  have hN := Whole.new W 24 [.int .i64 pages, .int .i64 most, .slice A n c]
  have hal : Chg [] W (W.alloc (.cells #[.int .i64 pages, .int .i64 most, .slice A n c] 24)) := (Chg.refl [] W).alloc _
  obtain ⟨g, hg⟩ : ∃ g, g = W.heap.size := ⟨_, rfl⟩
  rw [← hg] at hN ⊢
  have HU := Lib.hid hN
  have HC := Lib.hid hal
  generalize W.alloc (.cells #[.int .i64 pages, .int .i64 most, .slice A n c] 24) = w1 at HU HC ⊢
  clear hN hal hg
  have u0 := HU.out.cell 0
  have u1 := HU.out.cell 1
  have u2 := HU.out.cell 2
  by_cases h0 : pages < 0
  · have hE := Lib.hid (show R = 25 from by rw [hR]; unfold rRight; rw [if_pos (.inl h0)])
    have b1 : decide (pages < 0) = true := by simpa using h0
    clear h0 hR
    go_wp2_with fail
    go_ret
    exact ⟨by rw [hE.out]; rfl, HC.out⟩
  have b1 : decide (pages < 0) = false := by simpa using h0
  by_cases h1 : most < pages
  · have hE := Lib.hid (show R = 25 from by rw [hR]; unfold rRight; rw [if_pos (.inr (.inl h1))])
    have b2 : decide (most < pages) = true := by simpa using h1
    clear h0 h1 hR
    go_wp2_with fail
    go_ret
    exact ⟨by rw [hE.out]; rfl, HC.out⟩
  have b2 : decide (most < pages) = false := by simpa using h1
  by_cases h2 : 64 < most
  · have hE := Lib.hid (show R = 25 from by rw [hR]; unfold rRight; rw [if_pos (.inr (.inr h2))])
    have b3 : decide (64 < most) = true := by simpa using h2
    clear h0 h1 h2 hR
    go_wp2_with fail
    go_ret
    exact ⟨by rw [hE.out]; rfl, HC.out⟩
  have b3 : decide (64 < most) = false := by simpa using h2
  have HRE := Lib.hid (show R = if nameE l (l.drop 0) 0 = true then funcE l l.length 0 else 12 from by rw [hR]; unfold rRight; rw [if_neg (by omega), if_neg (by rw [HLN.out]; omega)]; rfl)
  clear h0 h1 h2 hR
  go_wp2_with fail
  go_loopw [30] (fun i wr => ∃ k : Nat, i = .int .i64 (k : Int) ∧ k ≤ n ∧ Hid (Chg [] w1 wr) ∧ Hid (R = if nameE l (l.drop k) k = true then funcE l l.length 0 else 12)) (fun i _ => n - (intOf i).toNat)
  case atStart => exact ⟨0, rfl, by omega, Lib.hid (Chg.refl [] _), HRE⟩
  case round =>
    obtain ⟨k, rfl, hk, HCr, HRk⟩ := hrel
    have HUr := Lib.hid (HU.out.keep HCr.out)
    by_cases hkn : k < n
    · have hkI : (k : Int) < (n : Int) := by omega
      obtain ⟨t, htk⟩ : ∃ t, l[k]? = some t := ⟨l[k]'(by rw [H.out.len]; exact hkn), by simp⟩
      have HSt := Lib.hid (show R = if ((nameB t.name && (findI l t.name == (k : Int)) && decide (0 ≤ t.args) && decide (t.args ≤ 4)) && nameE l (l.drop (k + 1)) (k + 1)) = true then funcE l l.length 0 else 12 from by
        rw [HRk.out, show l.drop k = t :: l.drop (k + 1) from List.drop_eq_getElem?_toList_append.trans (by rw [htk]; rfl), nameE])
      obtain ⟨fb, fo, rfl, hfbl, e0, e1, e2⟩ := (H.out.keep (HC.out.new HCr.out)).cell htk
      obtain ⟨tn, ta, tc⟩ := t
      simp only at e0 e1 e2
      clear htk
      go_upto_region 8 with fail
      have hX := Whole.new wr 58 [.int .i32 tn, .int .i64 ta, .string tc]
      have hc2 := (Chg.refl [] wr).alloc (.cells #[.int .i32 tn, .int .i64 ta, .string tc] 58)
      have HX2 := Lib.hid hX
      have HC2 := Lib.hid (HCr.out.new hc2)
      have HU2 := Lib.hid (HUr.out.keep hc2)
      generalize wr.heap.size = gx at HX2 ⊢
      generalize wr.alloc (.cells #[.int .i32 tn, .int .i64 ta, .string tc] 58) = w3 at HX2 HC2 HU2 ⊢
      clear hX e0 e1 e2 hfbl hc2
      have x0 := HX2.out.cell 0
      have x1 := HX2.out.cell 1
      have v0 := HU2.out.cell 0
      have v1 := HU2.out.cell 1
      have v2 := HU2.out.cell 2
      have HNM := Lib.hid (fun w => gname_any tn w)
      have HFX := Lib.hid (HFI.out w3 (HC.out.new HC2.out) tn)
      by_cases hnm : nameB tn = true
      · rw [hnm] at HNM
        by_cases hfi : findI l tn = (k : Int)
        · rw [hfi] at HFX
          by_cases ha0 : ta < 0
          · have q1 : decide (ta < 0) = true := by simpa using ha0
            have HE := Lib.hid (show R = 12 from by rw [HSt.out, if_neg]; simp; omega)
            clear hnm hfi ha0
            go_wp2_with (first
                    | (go_at_call 81
                       refine (HNM.out _).mono ?_
                       rintro e w4 ⟨rfl, rfl⟩)
                    | (go_at_call 82
                       refine HFX.out.mono ?_
                       rintro e w5 ⟨rfl, hc5⟩
                       have y1 := cell_keep (by simpa using x1 : w3.cell? ⟨gx, 1, none⟩ = some (.int .i64 ta)) hc5
                       have HC5 := Lib.hid (HC2.out.new hc5)
                       clear hc5))
            go_ret
            exact ⟨by rw [HE.out]; rfl, HC.out.new HC5.out⟩
          · have q1 : decide (ta < 0) = false := by simpa using ha0
            by_cases ha4 : 4 < ta
            · have q2 : decide (4 < ta) = true := by simpa using ha4
              have HE := Lib.hid (show R = 12 from by rw [HSt.out, if_neg]; simp; omega)
              clear hnm hfi ha0 ha4
              go_wp2_with (first
                      | (go_at_call 81
                         refine (HNM.out _).mono ?_
                         rintro e w4 ⟨rfl, rfl⟩)
                      | (go_at_call 82
                         refine HFX.out.mono ?_
                         rintro e w5 ⟨rfl, hc5⟩
                         have y1 := cell_keep (by simpa using x1 : w3.cell? ⟨gx, 1, none⟩ = some (.int .i64 ta)) hc5
                         have HC5 := Lib.hid (HC2.out.new hc5)
                         clear hc5))
              go_ret
              exact ⟨by rw [HE.out]; rfl, HC.out.new HC5.out⟩
            · have q2 : decide (4 < ta) = false := by simpa using ha4
              have HE := Lib.hid (show R = if nameE l (l.drop (k + 1)) (k + 1) = true then funcE l l.length 0 else 12 from by
                rw [HSt.out]
                simp only [hnm, hfi, beq_self_eq_true, Bool.true_and, decide_eq_true (show 0 ≤ ta by omega), decide_eq_true (show ta ≤ 4 by omega)])
              clear hnm hfi ha0 ha4
              go_wp2_with (first
                      | (go_at_call 81
                         refine (HNM.out _).mono ?_
                         rintro e w4 ⟨rfl, rfl⟩)
                      | (go_at_call 82
                         refine HFX.out.mono ?_
                         rintro e w5 ⟨rfl, hc5⟩
                         have y1 := cell_keep (by simpa using x1 : w3.cell? ⟨gx, 1, none⟩ = some (.int .i64 ta)) hc5
                         have HC5 := Lib.hid (HC2.out.new hc5)
                         clear hc5))
              exact ⟨⟨k + 1, by simp, by omega, HC5, HE⟩, by simp [intOf]; omega⟩
        · have HE := Lib.hid (show R = 12 from by rw [HSt.out, if_neg]; simp [hfi])
          obtain ⟨fi, hfe⟩ : ∃ fi, fi = findI l tn := ⟨_, rfl⟩
          rw [← hfe] at HFX hfi
          have qf : (fi != (k : Int)) = true := by simpa using hfi
          clear hnm hfi hfe
          go_wp2_with (first
                  | (go_at_call 81
                     refine (HNM.out _).mono ?_
                     rintro e w4 ⟨rfl, rfl⟩)
                  | (go_at_call 82
                     refine HFX.out.mono ?_
                     rintro e w5 ⟨rfl, hc5⟩
                     have y1 := cell_keep (by simpa using x1 : w3.cell? ⟨gx, 1, none⟩ = some (.int .i64 ta)) hc5
                     have HC5 := Lib.hid (HC2.out.new hc5)
                     clear hc5))
          go_ret
          exact ⟨by rw [HE.out]; rfl, HC.out.new HC5.out⟩
      · have hnf : nameB tn = false := by simpa using hnm
        rw [hnf] at HNM
        have HE := Lib.hid (show R = 12 from by rw [HSt.out, if_neg]; simp [hnf])
        clear hnm hnf
        go_wp2_with (first
                | (go_at_call 81
                   refine (HNM.out _).mono ?_
                   rintro e w4 ⟨rfl, rfl⟩)
                | (go_at_call 82
                   refine HFX.out.mono ?_
                   rintro e w5 ⟨rfl, hc5⟩
                   have y1 := cell_keep (by simpa using x1 : w3.cell? ⟨gx, 1, none⟩ = some (.int .i64 ta)) hc5
                   have HC5 := Lib.hid (HC2.out.new hc5)
                   clear hc5))
        go_ret
        exact ⟨by rw [HE.out]; rfl, HC.out.new HC2.out⟩
    · have hkI : (n : Int) ≤ (k : Int) := by omega
      have HRF := Lib.hid (show R = funcE l (n - 0) 0 from by
        rw [HRk.out, List.drop_eq_nil_of_le (by rw [HLN.out]; omega), nameE, if_pos rfl, HLN.out, Nat.sub_zero])
      have v0 := HUr.out.cell 0
      have v1 := HUr.out.cell 1
      have v2 := HUr.out.cell 2
      go_wp2_with fail
      go_loopw [61] (fun i ws => ∃ k : Nat, i = .int .i64 (k : Int) ∧ k ≤ n ∧ Hid (Chg [] w1 ws) ∧ Hid (R = funcE l (n - k) k)) (fun i _ => n - (intOf i).toNat)
      case atStart => exact ⟨0, rfl, by omega, HCr, HRF⟩
      case round =>
        obtain ⟨j, rfl, hj, HCs, HRj⟩ := hrel
        have HUs := Lib.hid (HU.out.keep HCs.out)
        by_cases hjn : j < n
        · have hjI : (j : Int) < (n : Int) := by omega
          have s0 := HUs.out.cell 0
          have s1 := HUs.out.cell 1
          have s2 := HUs.out.cell 2
          have HFN := Lib.hid (HCF.out wr (HC.out.new HCs.out) (j : Int))
          have HST := Lib.hid (show R = if (rFn l (j : Int)).1 = 0 then funcE l (n - (j + 1)) (j + 1) else (rFn l (j : Int)).1 from by
            rw [HRj.out, show n - j = (n - (j + 1)) + 1 from by omega, funcE])
          generalize rFn l (j : Int) = Q at HFN HST
          go_wp2_with fail
          refine HFN.out.mono ?_
          rintro e w5 ⟨v, rfl, ho, hc5⟩
          have HC5 := Lib.hid (HCs.out.new hc5)
          obtain ⟨Av, cv, rfl, _⟩ := own_slice ho
          clear ho hc5
          obtain ⟨q1, q2⟩ := Q
          simp only at HST ⊢
          by_cases hq : q1 = 0
          · subst hq
            have HR2 := Lib.hid (HST.out.trans (if_pos rfl))
            go_wp2_with fail
            go_roundw
            case rel => exact ⟨j + 1, by go_num, by omega, HC5, HR2⟩
            case measure => simp [intOf]; omega
          · have hqd : (q1 != 0) = true := by simpa using hq
            have HR2 := Lib.hid (HST.out.trans (if_neg hq))
            clear hq
            go_wp2_with fail
            go_ret
            exact ⟨by rw [HR2.out]; rfl, HC.out.new HC5.out⟩
        · have hjI : (n : Int) ≤ (j : Int) := by omega
          have HR2 := Lib.hid (show R = 0 from by rw [HRj.out, show n - j = 0 from by omega, funcE])
          go_wp2_with fail
          go_ret
          exact ⟨by rw [HR2.out]; rfl, HC.out.new HCs.out⟩
set_option maxHeartbeats 8000000 in
set_option maxRecDepth 100000 in
theorem rright_any_long (hn : n > 32) (hn2 : n ≤ 9223372036854775807) (R : Int) (hR : R = if pages < 0 ∨ most < pages ∨ 64 < most then 25 else 3) : Calls Tryz.prog 52 #[.agg #[.int .i64 pages, .int .i64 most, .slice A n c]] W (RightPost W R) := by
  have HRR := Lib.hid hR
  clear hR
  go_enter Tryz.func52, Tryz.ntmps52
  go_upto_region 1 with fail
  have hN := Whole.new W 24 [.int .i64 pages, .int .i64 most, .slice A n c]
  have hal : Chg [] W (W.alloc (.cells #[.int .i64 pages, .int .i64 most, .slice A n c] 24)) := (Chg.refl [] W).alloc _
  obtain ⟨g, hg⟩ : ∃ g, g = W.heap.size := ⟨_, rfl⟩
  rw [← hg] at hN ⊢
  have HU := Lib.hid hN
  have HC := Lib.hid hal
  generalize W.alloc (.cells #[.int .i64 pages, .int .i64 most, .slice A n c] 24) = w1 at HU HC ⊢
  clear hN hal hg
  have u0 := HU.out.cell 0
  have u1 := HU.out.cell 1
  have u2 := HU.out.cell 2
  have b4 : decide (32 < (n : Int)) = true := by simp; omega
  by_cases h0 : pages < 0
  · have hE := Lib.hid (show R = 25 from by rw [HRR.out, if_pos (.inl h0)])
    have b1 : decide (pages < 0) = true := by simpa using h0
    clear h0
    go_wp2_with fail
    go_ret
    exact ⟨by rw [hE.out]; rfl, HC.out⟩
  · have b1 : decide (pages < 0) = false := by simpa using h0
    by_cases h1 : most < pages
    · have hE := Lib.hid (show R = 25 from by rw [HRR.out, if_pos (.inr (.inl h1))])
      have b2 : decide (most < pages) = true := by simpa using h1
      clear h0 h1
      go_wp2_with fail
      go_ret
      exact ⟨by rw [hE.out]; rfl, HC.out⟩
    · have b2 : decide (most < pages) = false := by simpa using h1
      by_cases h2 : 64 < most
      · have hE := Lib.hid (show R = 25 from by rw [HRR.out, if_pos (.inr (.inr h2))])
        have b3 : decide (64 < most) = true := by simpa using h2
        clear h0 h1 h2
        go_wp2_with fail
        go_ret
        exact ⟨by rw [hE.out]; rfl, HC.out⟩
      · have hE := Lib.hid (show R = 3 from by rw [HRR.out, if_neg (by omega)])
        have b3 : decide (64 < most) = false := by simpa using h2
        clear h0 h1 h2
        go_wp2_with fail
        go_ret
        exact ⟨by rw [hE.out]; rfl, HC.out⟩
set_option maxHeartbeats 8000000 in
set_option maxRecDepth 100000 in
theorem rright_any (h : Fnr W A n c l) (hsm : ∀ f ∈ l, f.code.size ≤ 9223372036854775807) : Calls Tryz.prog 52 #[unitV pages most A n c] W (RightPost W (rRight pages most l)) := by
  by_cases hn32 : 32 < n
  · have e : rRight pages most l = (if pages < 0 ∨ most < pages ∨ 64 < most then (25 : Int) else 3) := by
      unfold rRight
      have hq : 32 < l.length := by rw [h.len]; exact hn32
      rw [if_pos hq]
    unfold unitV
    exact rright_any_long hn32 (by have := h.max; omega) _ e
  have H := Lib.hid h
  have hmx := h.max
  have HCF := Lib.hid (fun (w : World) (hc : Chg [] W w) (k : Int) => rfunc_big (pages := pages) (most := most) (h.keep hc) hsm k)
  have HFI := Lib.hid (fun (w : World) (hc : Chg [] W w) (nm : Int) => find_any (pages := pages) (most := most) (h.keep hc) nm)
  have HLN := Lib.hid h.len
  obtain ⟨R, hR⟩ : ∃ R, R = rRight pages most l := ⟨_, rfl⟩
  rw [← hR]
  unfold unitV at HCF HFI ⊢
  clear h hsm
  have b4 : decide (32 < (n : Int)) = false := by simp; omega
  go_enter Tryz.func52, Tryz.ntmps52
  go_upto_region 1 with fail
  have hN := Whole.new W 24 [.int .i64 pages, .int .i64 most, .slice A n c]
  have hal : Chg [] W (W.alloc (.cells #[.int .i64 pages, .int .i64 most, .slice A n c] 24)) := (Chg.refl [] W).alloc _
  obtain ⟨g, hg⟩ : ∃ g, g = W.heap.size := ⟨_, rfl⟩
  rw [← hg] at hN ⊢
  have HU := Lib.hid hN
  have HC := Lib.hid hal
  generalize W.alloc (.cells #[.int .i64 pages, .int .i64 most, .slice A n c] 24) = w1 at HU HC ⊢
  clear hN hal hg
  have u0 := HU.out.cell 0
  have u1 := HU.out.cell 1
  have u2 := HU.out.cell 2
  by_cases h0 : pages < 0
  · have hE := Lib.hid (show R = 25 from by rw [hR]; unfold rRight; rw [if_pos (.inl h0)])
    have b1 : decide (pages < 0) = true := by simpa using h0
    clear h0 hR
    go_wp2_with fail
    go_ret
    exact ⟨by rw [hE.out]; rfl, HC.out⟩
  have b1 : decide (pages < 0) = false := by simpa using h0
  by_cases h1 : most < pages
  · have hE := Lib.hid (show R = 25 from by rw [hR]; unfold rRight; rw [if_pos (.inr (.inl h1))])
    have b2 : decide (most < pages) = true := by simpa using h1
    clear h0 h1 hR
    go_wp2_with fail
    go_ret
    exact ⟨by rw [hE.out]; rfl, HC.out⟩
  have b2 : decide (most < pages) = false := by simpa using h1
  by_cases h2 : 64 < most
  · have hE := Lib.hid (show R = 25 from by rw [hR]; unfold rRight; rw [if_pos (.inr (.inr h2))])
    have b3 : decide (64 < most) = true := by simpa using h2
    clear h0 h1 h2 hR
    go_wp2_with fail
    go_ret
    exact ⟨by rw [hE.out]; rfl, HC.out⟩
  have b3 : decide (64 < most) = false := by simpa using h2
  have HRE := Lib.hid (show R = if nameE l (l.drop 0) 0 = true then funcE l l.length 0 else 12 from by rw [hR]; unfold rRight; rw [if_neg (by omega), if_neg (by rw [HLN.out]; omega)]; rfl)
  clear h0 h1 h2 hR
  go_wp2_with fail
  go_loopw [30] (fun i wr => ∃ k : Nat, i = .int .i64 (k : Int) ∧ k ≤ n ∧ Hid (Chg [] w1 wr) ∧ Hid (R = if nameE l (l.drop k) k = true then funcE l l.length 0 else 12)) (fun i _ => n - (intOf i).toNat)
  case atStart => exact ⟨0, rfl, by omega, Lib.hid (Chg.refl [] _), HRE⟩
  case round =>
    obtain ⟨k, rfl, hk, HCr, HRk⟩ := hrel
    have HUr := Lib.hid (HU.out.keep HCr.out)
    by_cases hkn : k < n
    · have hkI : (k : Int) < (n : Int) := by omega
      obtain ⟨t, htk⟩ : ∃ t, l[k]? = some t := ⟨l[k]'(by rw [H.out.len]; exact hkn), by simp⟩
      have HSt := Lib.hid (show R = if ((nameB t.name && (findI l t.name == (k : Int)) && decide (0 ≤ t.args) && decide (t.args ≤ 4)) && nameE l (l.drop (k + 1)) (k + 1)) = true then funcE l l.length 0 else 12 from by
        rw [HRk.out, show l.drop k = t :: l.drop (k + 1) from List.drop_eq_getElem?_toList_append.trans (by rw [htk]; rfl), nameE])
      obtain ⟨fb, fo, rfl, hfbl, e0, e1, e2⟩ := (H.out.keep (HC.out.new HCr.out)).cell htk
      obtain ⟨tn, ta, tc⟩ := t
      simp only at e0 e1 e2
      clear htk
      go_upto_region 8 with fail
      have hX := Whole.new wr 58 [.int .i32 tn, .int .i64 ta, .string tc]
      have hc2 := (Chg.refl [] wr).alloc (.cells #[.int .i32 tn, .int .i64 ta, .string tc] 58)
      have HX2 := Lib.hid hX
      have HC2 := Lib.hid (HCr.out.new hc2)
      have HU2 := Lib.hid (HUr.out.keep hc2)
      generalize wr.heap.size = gx at HX2 ⊢
      generalize wr.alloc (.cells #[.int .i32 tn, .int .i64 ta, .string tc] 58) = w3 at HX2 HC2 HU2 ⊢
      clear hX e0 e1 e2 hfbl hc2
      have x0 := HX2.out.cell 0
      have x1 := HX2.out.cell 1
      have v0 := HU2.out.cell 0
      have v1 := HU2.out.cell 1
      have v2 := HU2.out.cell 2
      have HNM := Lib.hid (fun w => name_any tn w)
      have HFX := Lib.hid (HFI.out w3 (HC.out.new HC2.out) tn)
      by_cases hnm : nameB tn = true
      · rw [hnm] at HNM
        by_cases hfi : findI l tn = (k : Int)
        · rw [hfi] at HFX
          by_cases ha0 : ta < 0
          · have q1 : decide (ta < 0) = true := by simpa using ha0
            have HE := Lib.hid (show R = 12 from by rw [HSt.out, if_neg]; simp; omega)
            clear hnm hfi ha0
            go_wp2_with (first
                    | (go_at_call 77
                       refine (HNM.out _).mono ?_
                       rintro e w4 ⟨rfl, rfl⟩)
                    | (go_at_call 80
                       refine HFX.out.mono ?_
                       rintro e w5 ⟨rfl, hc5⟩
                       have y1 := cell_keep (by simpa using x1 : w3.cell? ⟨gx, 1, none⟩ = some (.int .i64 ta)) hc5
                       have HC5 := Lib.hid (HC2.out.new hc5)
                       clear hc5))
            go_ret
            exact ⟨by rw [HE.out]; rfl, HC.out.new HC5.out⟩
          · have q1 : decide (ta < 0) = false := by simpa using ha0
            by_cases ha4 : 4 < ta
            · have q2 : decide (4 < ta) = true := by simpa using ha4
              have HE := Lib.hid (show R = 12 from by rw [HSt.out, if_neg]; simp; omega)
              clear hnm hfi ha0 ha4
              go_wp2_with (first
                      | (go_at_call 77
                         refine (HNM.out _).mono ?_
                         rintro e w4 ⟨rfl, rfl⟩)
                      | (go_at_call 80
                         refine HFX.out.mono ?_
                         rintro e w5 ⟨rfl, hc5⟩
                         have y1 := cell_keep (by simpa using x1 : w3.cell? ⟨gx, 1, none⟩ = some (.int .i64 ta)) hc5
                         have HC5 := Lib.hid (HC2.out.new hc5)
                         clear hc5))
              go_ret
              exact ⟨by rw [HE.out]; rfl, HC.out.new HC5.out⟩
            · have q2 : decide (4 < ta) = false := by simpa using ha4
              have HE := Lib.hid (show R = if nameE l (l.drop (k + 1)) (k + 1) = true then funcE l l.length 0 else 12 from by
                rw [HSt.out]
                simp only [hnm, hfi, beq_self_eq_true, Bool.true_and, decide_eq_true (show 0 ≤ ta by omega), decide_eq_true (show ta ≤ 4 by omega)])
              clear hnm hfi ha0 ha4
              go_wp2_with (first
                      | (go_at_call 77
                         refine (HNM.out _).mono ?_
                         rintro e w4 ⟨rfl, rfl⟩)
                      | (go_at_call 80
                         refine HFX.out.mono ?_
                         rintro e w5 ⟨rfl, hc5⟩
                         have y1 := cell_keep (by simpa using x1 : w3.cell? ⟨gx, 1, none⟩ = some (.int .i64 ta)) hc5
                         have HC5 := Lib.hid (HC2.out.new hc5)
                         clear hc5))
              exact ⟨⟨k + 1, by simp, by omega, HC5, HE⟩, by simp [intOf]; omega⟩
        · have HE := Lib.hid (show R = 12 from by rw [HSt.out, if_neg]; simp [hfi])
          obtain ⟨fi, hfe⟩ : ∃ fi, fi = findI l tn := ⟨_, rfl⟩
          rw [← hfe] at HFX hfi
          have qf : (fi != (k : Int)) = true := by simpa using hfi
          clear hnm hfi hfe
          go_wp2_with (first
                  | (go_at_call 77
                     refine (HNM.out _).mono ?_
                     rintro e w4 ⟨rfl, rfl⟩)
                  | (go_at_call 80
                     refine HFX.out.mono ?_
                     rintro e w5 ⟨rfl, hc5⟩
                     have y1 := cell_keep (by simpa using x1 : w3.cell? ⟨gx, 1, none⟩ = some (.int .i64 ta)) hc5
                     have HC5 := Lib.hid (HC2.out.new hc5)
                     clear hc5))
          go_ret
          exact ⟨by rw [HE.out]; rfl, HC.out.new HC5.out⟩
      · have hnf : nameB tn = false := by simpa using hnm
        rw [hnf] at HNM
        have HE := Lib.hid (show R = 12 from by rw [HSt.out, if_neg]; simp [hnf])
        clear hnm hnf
        go_wp2_with (first
                | (go_at_call 77
                   refine (HNM.out _).mono ?_
                   rintro e w4 ⟨rfl, rfl⟩)
                | (go_at_call 80
                   refine HFX.out.mono ?_
                   rintro e w5 ⟨rfl, hc5⟩
                   have y1 := cell_keep (by simpa using x1 : w3.cell? ⟨gx, 1, none⟩ = some (.int .i64 ta)) hc5
                   have HC5 := Lib.hid (HC2.out.new hc5)
                   clear hc5))
        go_ret
        exact ⟨by rw [HE.out]; rfl, HC.out.new HC2.out⟩
    · have hkI : (n : Int) ≤ (k : Int) := by omega
      have HRF := Lib.hid (show R = funcE l (n - 0) 0 from by
        rw [HRk.out, List.drop_eq_nil_of_le (by rw [HLN.out]; omega), nameE, if_pos rfl, HLN.out, Nat.sub_zero])
      have v0 := HUr.out.cell 0
      have v1 := HUr.out.cell 1
      have v2 := HUr.out.cell 2
      go_wp2_with fail
      go_loopw [61] (fun i ws => ∃ k : Nat, i = .int .i64 (k : Int) ∧ k ≤ n ∧ Hid (Chg [] w1 ws) ∧ Hid (R = funcE l (n - k) k)) (fun i _ => n - (intOf i).toNat)
      case atStart => exact ⟨0, rfl, by omega, HCr, HRF⟩
      case round =>
        obtain ⟨j, rfl, hj, HCs, HRj⟩ := hrel
        have HUs := Lib.hid (HU.out.keep HCs.out)
        by_cases hjn : j < n
        · have hjI : (j : Int) < (n : Int) := by omega
          have s0 := HUs.out.cell 0
          have s1 := HUs.out.cell 1
          have s2 := HUs.out.cell 2
          have HFN := Lib.hid (HCF.out wr (HC.out.new HCs.out) (j : Int))
          have HST := Lib.hid (show R = if (rFn l (j : Int)).1 = 0 then funcE l (n - (j + 1)) (j + 1) else (rFn l (j : Int)).1 from by
            rw [HRj.out, show n - j = (n - (j + 1)) + 1 from by omega, funcE])
          generalize rFn l (j : Int) = Q at HFN HST
          go_wp2_with fail
          refine HFN.out.mono ?_
          rintro e w5 ⟨v, rfl, ho, hc5⟩
          have HC5 := Lib.hid (HCs.out.new hc5)
          obtain ⟨Av, cv, rfl, _⟩ := own_slice ho
          clear ho hc5
          obtain ⟨q1, q2⟩ := Q
          simp only at HST ⊢
          by_cases hq : q1 = 0
          · subst hq
            have HR2 := Lib.hid (HST.out.trans (if_pos rfl))
            go_wp2_with fail
            go_roundw
            case rel => exact ⟨j + 1, by go_num, by omega, HC5, HR2⟩
            case measure => simp [intOf]; omega
          · have hqd : (q1 != 0) = true := by simpa using hq
            have HR2 := Lib.hid (HST.out.trans (if_neg hq))
            clear hq
            go_wp2_with fail
            go_ret
            exact ⟨by rw [HR2.out]; rfl, HC.out.new HC5.out⟩
        · have hjI : (n : Int) ≤ (j : Int) := by omega
          have HR2 := Lib.hid (show R = 0 from by rw [HRj.out, show n - j = 0 from by omega, funcE])
          go_wp2_with fail
          go_ret
          exact ⟨by rw [HR2.out]; rfl, HC.out.new HCs.out⟩
end
end Go.Proofs.YtbkfhndmeljlcaaGreatDoor
