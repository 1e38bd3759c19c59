/-
  PB: StTokB.
-/
import Derived.Test.YtbkfhndmeljlcaaGreatDoorZPB23
namespace Go.Proofs.YtbkfhndmeljlcaaGreatDoor
open Go.RowKit
section
variable {W W' : World} {gs B : Nat} {h : Int} {vo : Value} {bs : List BkV} {A : Option Addr} {n c : Nat} {l : List FnV} {pages most : Int}
set_option maxHeartbeats 8000000 in
set_option maxRecDepth 100000 in
theorem token_other (s : St W gs B h vo bs) (hF : Fnr W A n c l) (t : TkV) (hne : ¬ isEnd t.sign) (hfew : bs.length < 1000) : Calls Tryz.prog 65 #[.pointer (some ⟨gs, 0, none⟩), unitV pages most A n c, .agg (tkC t).toArray] W (TkPost gs B vo (rTok l h bs t.sign t.name) W) := by
  unfold unitV
  obtain ⟨r, tn, nm⟩ := t
  simp only [tkC] at hne ⊢
  obtain ⟨R, hR⟩ : ∃ R, R = rTok l h bs r nm := ⟨_, rfl⟩
  rw [← hR]
  unfold rTok at hR
  rw [if_neg hne] at hR
  have HR := Lib.hid hR
  have S := Lib.hid s
  have HF := Lib.hid hF
  have hgs := s.rec_.lt
  obtain ⟨hh0, hh1⟩ := s.hr
  obtain ⟨hb0, hb1⟩ := base_in s
  generalize hbo : baseOf bs = b0 at hb0 hb1
  have HBO := Lib.hid hbo
  have q58 : (r == 58) = false := by simp; intro e; exact hne (.inl e)
  have q59 : (r == 59) = false := by simp; intro e; exact hne (.inr (.inl e))
  have q93 : (r == 93) = false := by simp; intro e; exact hne (.inr (.inr e))
  clear s hF hbo hne hR
  go_enter Tryz.func65, Tryz.ntmps65
  go_upto_region 1 with fail
  have hN := Whole.new W 24 [.int .i64 pages, .int .i64 most, .slice A n c]
  have hal : Chg [] W (W.alloc (.cells #[.int .i64 pages, .int .i64 most, .slice A n c] 24)) := (Chg.refl [] W).alloc _
  have hsz : (W.alloc (.cells #[.int .i64 pages, .int .i64 most, .slice A n c] 24)).heap.size = W.heap.size + 1 := Array.size_push _
  obtain ⟨w1, hw1⟩ : ∃ w1, w1 = W.alloc (.cells #[.int .i64 pages, .int .i64 most, .slice A n c] 24) := ⟨_, rfl⟩
  rw [← hw1] at hN hal hsz ⊢
  have hN2 := Whole.new w1 110 [.int .i32 r, .int .i64 tn, .int .i32 nm]
  have hal2 : Chg [] w1 (w1.alloc (.cells #[.int .i32 r, .int .i64 tn, .int .i32 nm] 110)) := (Chg.refl [] w1).alloc _
  rw [hsz] at hN2
  have hU2 := hN.keep hal2
  have hc := hal.trans hal2
  generalize w1.alloc (.cells #[.int .i32 r, .int .i64 tn, .int .i32 nm] 110) = w2 at hN2 hU2 hc ⊢
  have HF2 := Lib.hid (HF.out.keep hc)
  have S2 := Lib.hid (S.out.keep hc)
  have hgg := hgs
  generalize W.heap.size = g at hU2 hN2 hgg ⊢
  have HC2 := Lib.hid (hc.sub (T' := stT gs vo) (by simp))
  have u0 := hU2.cell 0
  have u1 := hU2.cell 1
  have u2 := hU2.cell 2
  have t0 := hN2.cell 0
  have t1 := hN2.cell 1
  have t2 := hN2.cell 2
  have HT2 := Lib.hid hN2
  have c0 := S2.out.rec_.cell 0
  clear hN hal hsz hw1 hN2 hal2 hU2 hc
  by_cases hh : h < 0
  · have qh : decide (h < 0) = true := by simpa using hh
    have HH := Lib.hid hh
    clear hh
    have HP := Lib.hid (show TkPost gs B vo R W (.returned (.int .i64 15)) w2 from tk_no 15 (by decide) (by rw [HR.out, if_pos HH.out]) HC2.out)
    go_wp2_with fail
    go_ret
    exact HP.out
  · have qh : decide (h < 0) = false := by simpa using hh
    have HR1 := Lib.hid (HR.out.trans (if_neg hh))
    rcases hT : rTakes l r nm with ⟨p, g, ok⟩
    have hin := rTakes_in l r nm
    rw [hT] at hin
    obtain ⟨hp0, hp1, hg0, hg1⟩ := hin
    simp only at hp0 hp1 hg0 hg1
    have HT := Lib.hid hT
    clear hT
    go_wp2_with fail
    refine (takes_any HF2.out ⟨r, tn, nm⟩).mono ?_
    rintro e w3 ⟨he3, hc3⟩
    rw [show rTakes l (TkV.mk r tn nm).sign (TkV.mk r tn nm).name = (p, g, ok) from HT.out] at he3
    subst he3
    have S3 := Lib.hid (S2.out.keep hc3)
    have HF3 := Lib.hid (HF2.out.keep hc3)
    have HC3 := Lib.hid (HC2.out.trans (hc3.sub (T' := stT gs vo) (by simp)))
    have HT3 := Lib.hid (HT2.out.keep hc3)
    clear hc3 t0 t1 t2 u0 u1 u2 c0
    cases ok
    · skip
      have HP := Lib.hid (show TkPost gs B vo R W (.returned (.int .i64 22)) w3 from tk_no 22 (by decide) (by rw [HR1.out, HT.out]) HC3.out)
      go_wp2_with fail
      go_ret
      exact HP.out
    · have HR2 := Lib.hid (show R = (if h - b0 < p ∨ 64 < h - p + g then ((14, h, bs) : Int × Int × List BkV)
          else if r = 63 ∨ r = 91 then (0, h - p + g, bs ++ [⟨r, h - p + g, 0, false⟩])
          else if r = 126 then (match rLeave (h - p + g) bs bs.length with | (true, h', bs') => (0, h', bs') | (false, h', bs') => (14, h', bs'))
          else if r = 161 then (0, -1, bs)
          else (0, h - p + g, bs)) from by rw [HR1.out, HT.out, ← HBO.out] <;> rfl)
      go_upto_region 11 with fail
      have c3 := S3.out.rec_.cell 0
      have HDR := Lib.hid ((Chg.refl [] w3).drew)
      have HCB := Lib.hid (fun (V : World) (hV : Chg [] w3 V) => show Calls Tryz.prog 99 #[.pointer (some ⟨gs, 0, none⟩)] V (BasePost b0 V) from by rw [← HBO.out]; exact base_any (S3.out.keep hV))
      by_cases hlow : h - b0 < p
      · have qlow : decide (h - b0 < p) = true := by simpa using hlow
        have HRE := Lib.hid (HR2.out.trans (if_pos (.inl hlow)))
        clear hlow
        refine wp_flow (by kernel_rfl) plainT plainT_ok (by kernel_rfl) ?_
        refine flow_move_out plainT_ok rfl rfl rfl ?_
        refine flow1 (r := .pointer (some ⟨gs, 0, none⟩)) plainT_ok rfl (.inn rfl) rfl (fun ev W he e1 => by go_simp) ?_
        refine flow1 (r := .pointer (some ⟨gs, 0, none⟩)) plainT_ok rfl (.inn rfl) rfl (fun ev W he e1 => by go_simp) ?_
        refine flow1h (r := .int .i64 h) plainT_ok rfl (.inn rfl) rfl (fun ev W he hW e1 => by have c0 := cell_keep (by simpa using c3 : w3.cell? ⟨gs, 0, none⟩ = some (.int .i64 h)) (HDR.out.trans (show Chg [] w3.drew _ from hW)); go_simp) ?_
        refine flow_move_out plainT_ok rfl rfl rfl ?_
        refine flow_callv (.int .i64 b0) (by kernel_rfl) rfl (.cons (.inn rfl) .nil) (fun V hV => (HCB.out V (HDR.out.trans (show Chg [] w3.drew _ from hV))).mono fun e w' hb => ⟨hb.1, by rw [plain_by]; exact hb.2⟩) ?_
        refine flow2 (r := .int .i64 (h - b0)) plainT_ok rfl (.inn rfl) (.inn rfl) rfl (fun ev W he e1 e2 => by have hw : IntKind.i64.wrap (h - b0) = h - b0 := IntWalk.i64_in _ (by omega); go_simp) ?_
        refine flow_move_out plainT_ok rfl rfl rfl ?_
        refine flow2 (r := .bool true) plainT_ok rfl (.inn rfl) (.inn rfl) rfl (fun ev W he e1 e2 => by go_simp) ?_
        refine flow_move plainT_ok rfl (keeps_isV _) (.inr (keeps_isV _)) rfl ?_
        refine flow_skip rfl ?_
        refine flow_skip rfl ?_
        refine flow_skip rfl ?_
        refine flow_skip rfl ?_
        refine flow_skip rfl ?_
        refine flow_skip rfl ?_
        refine flow_skip rfl ?_
        refine flow_skip rfl ?_
        refine flow_skip rfl ?_
        refine flow_or_true plainT_ok rfl rfl rfl ?_
        intro vs V hV hG
        obtain e67 : vs 67 = .bool true := hG 67 _ rfl (by kernel_rfl)
        have hV' : Chg [] w3 V := HDR.out.trans (show Chg [] w3.drew _ from hV)
        have S4 := Lib.hid (S3.out.keep hV')
        have HF4 := Lib.hid (HF3.out.keep hV')
        have HC4 := Lib.hid (HC3.out.trans (hV'.sub (T' := stT gs vo) (by simp)))
        have HT4 := Lib.hid (HT3.out.keep hV')
        simp only [putAll, Act.put, List.setIfInBounds_toArray, List.set_cons_zero, List.set_cons_succ, e67]
        clear hG hV hV' e67 c3 HCB
        have HP := Lib.hid (show TkPost gs B vo R W (.returned (.int .i64 14)) V from tk_no 14 (by decide) (by rw [HRE.out]) HC4.out)
        go_wp2_with fail
        go_ret
        exact HP.out
      · have qlow : decide (h - b0 < p) = false := by simpa using hlow
        by_cases hbig : 64 < h - p + g
        · have qbig : decide (64 < h - p + g) = true := by simpa using hbig
          have HRE := Lib.hid (HR2.out.trans (if_pos (.inr hbig)))
          refine wp_flow (by kernel_rfl) plainT plainT_ok (by kernel_rfl) ?_
          refine flow_move_out plainT_ok rfl rfl rfl ?_
          refine flow1 (r := .pointer (some ⟨gs, 0, none⟩)) plainT_ok rfl (.inn rfl) rfl (fun ev W he e1 => by go_simp) ?_
          refine flow1 (r := .pointer (some ⟨gs, 0, none⟩)) plainT_ok rfl (.inn rfl) rfl (fun ev W he e1 => by go_simp) ?_
          refine flow1h (r := .int .i64 h) plainT_ok rfl (.inn rfl) rfl (fun ev W he hW e1 => by have c0 := cell_keep (by simpa using c3 : w3.cell? ⟨gs, 0, none⟩ = some (.int .i64 h)) (HDR.out.trans (show Chg [] w3.drew _ from hW)); go_simp) ?_
          refine flow_move_out plainT_ok rfl rfl rfl ?_
          refine flow_callv (.int .i64 b0) (by kernel_rfl) rfl (.cons (.inn rfl) .nil) (fun V hV => (HCB.out V (HDR.out.trans (show Chg [] w3.drew _ from hV))).mono fun e w' hb => ⟨hb.1, by rw [plain_by]; exact hb.2⟩) ?_
          refine flow2 (r := .int .i64 (h - b0)) plainT_ok rfl (.inn rfl) (.inn rfl) rfl (fun ev W he e1 e2 => by have hw : IntKind.i64.wrap (h - b0) = h - b0 := IntWalk.i64_in _ (by omega); go_simp) ?_
          refine flow_move_out plainT_ok rfl rfl rfl ?_
          refine flow2 (r := .bool false) plainT_ok rfl (.inn rfl) (.inn rfl) rfl (fun ev W he e1 e2 => by go_simp) ?_
          refine flow_move plainT_ok rfl (keeps_isV _) (.inr (keeps_isV _)) rfl ?_
          refine flow_move_out plainT_ok rfl rfl rfl ?_
          refine flow1 (r := .pointer (some ⟨gs, 0, none⟩)) plainT_ok rfl (.inn rfl) rfl (fun ev W he e1 => by go_simp) ?_
          refine flow1 (r := .pointer (some ⟨gs, 0, none⟩)) plainT_ok rfl (.inn rfl) rfl (fun ev W he e1 => by go_simp) ?_
          refine flow1h (r := .int .i64 h) plainT_ok rfl (.inn rfl) rfl (fun ev W he hW e1 => by have c0 := cell_keep (by simpa using c3 : w3.cell? ⟨gs, 0, none⟩ = some (.int .i64 h)) (HDR.out.trans (show Chg [] w3.drew _ from hW)); go_simp) ?_
          refine flow_move_out plainT_ok rfl rfl rfl ?_
          refine flow2 (r := .int .i64 (h - p)) plainT_ok rfl (.inn rfl) (.inn rfl) rfl (fun ev W he e1 e2 => by have hw : IntKind.i64.wrap (h - p) = h - p := IntWalk.i64_in _ (by omega); go_simp) ?_
          refine flow_move_out plainT_ok rfl rfl rfl ?_
          refine flow2 (r := .int .i64 (h - p + g)) plainT_ok rfl (.inn rfl) (.inn rfl) rfl (fun ev W he e1 e2 => by have hw : IntKind.i64.wrap (h - p + g) = h - p + g := IntWalk.i64_in _ (by omega); go_simp) ?_
          refine flow2 (r := .bool true) plainT_ok rfl (.inn rfl) (.const _) rfl (fun ev W he e1 e2 => by go_simp) ?_
          refine flow_or_false plainT_ok rfl rfl rfl ?_
          intro vs V hV hG
          obtain e67 : vs 67 = .bool true := hG 67 _ rfl (by kernel_rfl)
          have hV' : Chg [] w3 V := HDR.out.trans (show Chg [] w3.drew _ from hV)
          have S4 := Lib.hid (S3.out.keep hV')
          have HF4 := Lib.hid (HF3.out.keep hV')
          have HC4 := Lib.hid (HC3.out.trans (hV'.sub (T' := stT gs vo) (by simp)))
          have HT4 := Lib.hid (HT3.out.keep hV')
          simp only [putAll, Act.put, List.setIfInBounds_toArray, List.set_cons_zero, List.set_cons_succ, e67]
          clear hG hV hV' e67 c3 HCB
          have HP := Lib.hid (show TkPost gs B vo R W (.returned (.int .i64 14)) V from tk_no 14 (by decide) (by rw [HRE.out]) HC4.out)
          go_wp2_with fail
          go_ret
          exact HP.out
        · have qbig : decide (64 < h - p + g) = false := by simpa using hbig
          have HR3 := Lib.hid (HR2.out.trans (if_neg (by omega)))
          have hlo : 0 ≤ h - p + g := by omega
          have hhi : h - p + g ≤ 64 := by omega
          have hwa : IntKind.i64.wrap (h - p) = h - p := IntWalk.i64_in _ (by omega)
          have hwb : IntKind.i64.wrap (h - p + g) = h - p + g := IntWalk.i64_in _ (by omega)
          refine wp_flow (by kernel_rfl) plainT plainT_ok (by kernel_rfl) ?_
          refine flow_move_out plainT_ok rfl rfl rfl ?_
          refine flow1 (r := .pointer (some ⟨gs, 0, none⟩)) plainT_ok rfl (.inn rfl) rfl (fun ev W he e1 => by go_simp) ?_
          refine flow1 (r := .pointer (some ⟨gs, 0, none⟩)) plainT_ok rfl (.inn rfl) rfl (fun ev W he e1 => by go_simp) ?_
          refine flow1h (r := .int .i64 h) plainT_ok rfl (.inn rfl) rfl (fun ev W he hW e1 => by have c0 := cell_keep (by simpa using c3 : w3.cell? ⟨gs, 0, none⟩ = some (.int .i64 h)) (HDR.out.trans (show Chg [] w3.drew _ from hW)); go_simp) ?_
          refine flow_move_out plainT_ok rfl rfl rfl ?_
          refine flow_callv (.int .i64 b0) (by kernel_rfl) rfl (.cons (.inn rfl) .nil) (fun V hV => (HCB.out V (HDR.out.trans (show Chg [] w3.drew _ from hV))).mono fun e w' hb => ⟨hb.1, by rw [plain_by]; exact hb.2⟩) ?_
          refine flow2 (r := .int .i64 (h - b0)) plainT_ok rfl (.inn rfl) (.inn rfl) rfl (fun ev W he e1 e2 => by have hw : IntKind.i64.wrap (h - b0) = h - b0 := IntWalk.i64_in _ (by omega); go_simp) ?_
          refine flow_move_out plainT_ok rfl rfl rfl ?_
          refine flow2 (r := .bool false) plainT_ok rfl (.inn rfl) (.inn rfl) rfl (fun ev W he e1 e2 => by go_simp) ?_
          refine flow_move plainT_ok rfl (keeps_isV _) (.inr (keeps_isV _)) rfl ?_
          refine flow_move_out plainT_ok rfl rfl rfl ?_
          refine flow1 (r := .pointer (some ⟨gs, 0, none⟩)) plainT_ok rfl (.inn rfl) rfl (fun ev W he e1 => by go_simp) ?_
          refine flow1 (r := .pointer (some ⟨gs, 0, none⟩)) plainT_ok rfl (.inn rfl) rfl (fun ev W he e1 => by go_simp) ?_
          refine flow1h (r := .int .i64 h) plainT_ok rfl (.inn rfl) rfl (fun ev W he hW e1 => by have c0 := cell_keep (by simpa using c3 : w3.cell? ⟨gs, 0, none⟩ = some (.int .i64 h)) (HDR.out.trans (show Chg [] w3.drew _ from hW)); go_simp) ?_
          refine flow_move_out plainT_ok rfl rfl rfl ?_
          refine flow2 (r := .int .i64 (h - p)) plainT_ok rfl (.inn rfl) (.inn rfl) rfl (fun ev W he e1 e2 => by have hw : IntKind.i64.wrap (h - p) = h - p := IntWalk.i64_in _ (by omega); go_simp) ?_
          refine flow_move_out plainT_ok rfl rfl rfl ?_
          refine flow2 (r := .int .i64 (h - p + g)) plainT_ok rfl (.inn rfl) (.inn rfl) rfl (fun ev W he e1 e2 => by have hw : IntKind.i64.wrap (h - p + g) = h - p + g := IntWalk.i64_in _ (by omega); go_simp) ?_
          refine flow2 (r := .bool false) plainT_ok rfl (.inn rfl) (.const _) rfl (fun ev W he e1 e2 => by go_simp) ?_
          refine flow_or_false plainT_ok rfl rfl rfl ?_
          intro vs V hV hG
          obtain e67 : vs 67 = .bool false := hG 67 _ rfl (by kernel_rfl)
          have hV' : Chg [] w3 V := HDR.out.trans (show Chg [] w3.drew _ from hV)
          have S4 := Lib.hid (S3.out.keep hV')
          have HF4 := Lib.hid (HF3.out.keep hV')
          have HC4 := Lib.hid (HC3.out.trans (hV'.sub (T' := stT gs vo) (by simp)))
          have HT4 := Lib.hid (HT3.out.keep hV')
          simp only [putAll, Act.put, List.setIfInBounds_toArray, List.set_cons_zero, List.set_cons_succ, e67]
          clear hG hV hV' e67 c3 HCB
          have c0 := S4.out.rec_.cell 0
          have f0 := S4.out.rec_.frozen 0
          go_upto_region 14 with fail
          generalize h - p + g = h5 at *
          have S5 := Lib.hid (S4.out.high h5 (by omega))
          have HC5 := Lib.hid (HC4.out.setCell (p := ⟨gs, 0, none⟩) (fun _ => st_in gs vo) (.int .i64 h5))
          have HT5 := Lib.hid (HT4.out.far (p := ⟨gs, 0, none⟩) (by simp only; omega) (.int .i64 h5))
          generalize V.setCell ⟨gs, 0, none⟩ (.int .i64 h5) = w5 at S5 HC5 HT5 ⊢
          clear c0 f0 hlow hbig hwa hwb qlow qbig HR2 HR1
          have t0 := HT5.out.cell 0
          have c0 := S5.out.rec_.cell 0
          have f0 := S5.out.rec_.frozen 0
          by_cases hop : r = 63 ∨ r = 91
          · have HRE := Lib.hid (HR3.out.trans (if_pos hop))
            obtain ⟨i0, hi0, hz0, hz1, hz2⟩ := info_parts info_block
            obtain ⟨A5, k5, hvo, hle, hcm, _⟩ := S5.out.slice
            have c1 := S5.out.rec_.cell 1
            rw [hvo] at c1
            have HV := Lib.hid hvo
            have hBW : B ≤ w5.heap.size := S5.out.room
            have HOW := Lib.hid (show w5.ownsRow B 137 4 (.slice A5 bs.length k5) bs.length (bkCs bs) from by rw [← hvo]; exact S5.out.own)
            have HBL := Lib.hid (show bs.length + 1 ≤ 1000 from hfew)
            clear hvo
            obtain ⟨m, hm⟩ : ∃ m, m = bs.length := ⟨_, rfl⟩
            rw [← hm] at c1 hle hfew HOW HV
            have HM := Lib.hid hm
            clear hm
            rcases hop with rfl | rfl
            · have q1 : (w5.alloc (.cells #[.int .i32 63, .int .i64 h5, .int .i64 0, .bool false] 137)).cell? ⟨gs, 1, none⟩ = some (.slice A5 m k5) := cell_keep (by simpa using c1) ((Chg.refl [] w5).alloc _)
              go_upto_region 17 with fail
              go_region_law (
                (refine step_append_n rfl (.tmp 88) (.tmp 96) 106 rfl B 137 i0 _ 4 32 Tryz.underlying106 hi0 hz0 hz1 hz2 rfl (by decide) (.slice A5 m k5) m (bkCs bs) rfl (rown_keep HOW.out (((Chg.refl [] w5).alloc _).drew)) ⟨w5.heap.size, 0, none⟩ 1 1 [.int .i32 63, .int .i64 h5, .int .i64 0, .bool false] rfl rfl (cells_page w5 _ _) (by simp [Value.oneCell']) (by unfold maxLen; omega) (by omega) (by simp; omega) ?_
                 intro v' w' ho hg
                 obtain ⟨A6, k6, rfl, _⟩ := rown_slice ho
                 have HO := Lib.hid ho
                 have HG := Lib.hid hg
                 have HR6 := Lib.hid (whole_grown (S5.out.rec_.keep (((Chg.refl [] w5).alloc (.cells #[.int .i32 63, .int .i64 h5, .int .i64 0, .bool false] 137)).drew)) (rown_keep S5.out.own (((Chg.refl [] w5).alloc (.cells #[.int .i32 63, .int .i64 h5, .int .i64 0, .bool false] 137)).drew)) (by decide) (by rw [HV.out]; exact hg))
                 have f1 := HR6.out.frozen 1
                 have k1 := HR6.out.cell 1
                 clear ho hg))
              all_goals
                have S6 := Lib.hid (S5.out.push (x := ⟨63, h5, 0, false⟩) (((Chg.refl [] w5).alloc (.cells #[.int .i32 63, .int .i64 h5, .int .i64 0, .bool false] 137)).drew) (by rw [← HM.out]; exact HO.out) (by rw [HV.out]; exact HG.out) ⟨by omega, by omega, by simp, by simp⟩ HBL.out)
                have HC6 := Lib.hid ((show Chg (stT gs vo) W _ from Chg.of_push HC5.out S5.out HV.out HG.out).setCell (p := ⟨gs, 1, none⟩) (fun _ => st_in gs vo) (.slice A6 (m + 1) k6))
                have HP := Lib.hid (show TkPost gs B vo R W (.returned (.int .i64 0)) _ from tk_ok h5 (.slice A6 (m + 1) k6) _ (HRE.out) S6.out HC6.out)
                go_wp2_with fail
                go_ret
                exact HP.out
            · have q1 : (w5.alloc (.cells #[.int .i32 91, .int .i64 h5, .int .i64 0, .bool false] 137)).cell? ⟨gs, 1, none⟩ = some (.slice A5 m k5) := cell_keep (by simpa using c1) ((Chg.refl [] w5).alloc _)
              go_upto_region 17 with fail
              go_region_law (
                (refine step_append_n rfl (.tmp 88) (.tmp 96) 106 rfl B 137 i0 _ 4 32 Tryz.underlying106 hi0 hz0 hz1 hz2 rfl (by decide) (.slice A5 m k5) m (bkCs bs) rfl (rown_keep HOW.out (((Chg.refl [] w5).alloc _).drew)) ⟨w5.heap.size, 0, none⟩ 1 1 [.int .i32 91, .int .i64 h5, .int .i64 0, .bool false] rfl rfl (cells_page w5 _ _) (by simp [Value.oneCell']) (by unfold maxLen; omega) (by omega) (by simp; omega) ?_
                 intro v' w' ho hg
                 obtain ⟨A6, k6, rfl, _⟩ := rown_slice ho
                 have HO := Lib.hid ho
                 have HG := Lib.hid hg
                 have HR6 := Lib.hid (whole_grown (S5.out.rec_.keep (((Chg.refl [] w5).alloc (.cells #[.int .i32 91, .int .i64 h5, .int .i64 0, .bool false] 137)).drew)) (rown_keep S5.out.own (((Chg.refl [] w5).alloc (.cells #[.int .i32 91, .int .i64 h5, .int .i64 0, .bool false] 137)).drew)) (by decide) (by rw [HV.out]; exact hg))
                 have f1 := HR6.out.frozen 1
                 have k1 := HR6.out.cell 1
                 clear ho hg))
              all_goals
                have S6 := Lib.hid (S5.out.push (x := ⟨91, h5, 0, false⟩) (((Chg.refl [] w5).alloc (.cells #[.int .i32 91, .int .i64 h5, .int .i64 0, .bool false] 137)).drew) (by rw [← HM.out]; exact HO.out) (by rw [HV.out]; exact HG.out) ⟨by omega, by omega, by simp, by simp⟩ HBL.out)
                have HC6 := Lib.hid ((show Chg (stT gs vo) W _ from Chg.of_push HC5.out S5.out HV.out HG.out).setCell (p := ⟨gs, 1, none⟩) (fun _ => st_in gs vo) (.slice A6 (m + 1) k6))
                have HP := Lib.hid (show TkPost gs B vo R W (.returned (.int .i64 0)) _ from tk_ok h5 (.slice A6 (m + 1) k6) _ (HRE.out) S6.out HC6.out)
                go_wp2_with fail
                go_ret
                exact HP.out
          · have HR4 := Lib.hid (HR3.out.trans (if_neg hop))
            have q63 : (r == 63) = false := by simp; intro e; exact hop (.inl e)
            have q91 : (r == 91) = false := by simp; intro e; exact hop (.inr e)
            clear hop
            by_cases h126 : r = 126
            · have q126 : (r == 126) = true := by simpa using h126
              have HRE := Lib.hid (HR4.out.trans (if_pos h126))
              clear h126
              go_wp2_with fail
              refine (leave_any S5.out).mono ?_
              rintro e w6 ⟨vo6, rfl, hS6, hc6, _⟩
              rcases hE : rLeave h5 bs bs.length with ⟨b6, h6, bs6⟩
              rw [hE] at hS6
              have HE := Lib.hid hE
              clear hE c0 f0 t0
              cases b6
              · have HP := Lib.hid (show TkPost gs B vo R W (.returned (.int .i64 14)) w6 from tk_no 14 (by decide) (by rw [HRE.out, HE.out]) (HC5.out.trans hc6))
                clear hS6 hc6
                go_wp2_with fail
                go_ret
                exact HP.out
              · have HP := Lib.hid (show TkPost gs B vo R W (.returned (.int .i64 0)) w6 from tk_ok h6 vo6 bs6 (by rw [HRE.out, HE.out]) hS6 (HC5.out.trans hc6))
                clear hS6 hc6
                go_wp2_with fail
                go_ret
                exact HP.out
            · have q126 : (r == 126) = false := by simpa using h126
              have HR5 := Lib.hid (HR4.out.trans (if_neg h126))
              clear h126
              by_cases h161 : r = 161
              · have q161 : (r == 161) = true := by simpa using h161
                have S6 := Lib.hid (S5.out.high (-1) (by omega))
                have HC6 := Lib.hid (HC5.out.setCell (p := ⟨gs, 0, none⟩) (fun _ => st_in gs vo) (.int .i64 (-1)))
                have HP := Lib.hid (show TkPost gs B vo R W (.returned (.int .i64 0)) _ from tk_ok (-1) vo bs (HR5.out.trans (if_pos h161)) S6.out HC6.out)
                clear h161
                go_wp2_with fail
                go_ret
                exact HP.out
              · have q161 : (r == 161) = false := by simpa using h161
                have HP := Lib.hid (show TkPost gs B vo R W (.returned (.int .i64 0)) w5 from tk_ok h5 vo bs (HR5.out.trans (if_neg h161)) S5.out HC5.out)
                clear h161
                go_wp2_with fail
                go_ret
                exact HP.out
end
end Go.Proofs.YtbkfhndmeljlcaaGreatDoor
