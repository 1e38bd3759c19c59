/-
  PN: WkStep.
-/
import Derived.Test.YtbkfhndmeljlcaaGreatDoorZPN24
namespace Go.Proofs.YtbkfhndmeljlcaaGreatDoor
open Go.RowKit
structure Bas (h : Int) (bs : List BkV) : Prop where
  sorted : bs.Pairwise fun a b => a.base ≤ b.base
  oth : ∀ x ∈ bs, x.sign = 58 → x.other = -1 ∨ x.base ≤ x.other
  top : 0 ≤ h → ∀ x ∈ bs, x.base ≤ h
theorem Bas.base {h : Int} {bs : List BkV} (hb : Bas h bs) (h0 : 0 ≤ h) : baseOf bs ≤ h := by
  unfold baseOf
  cases hl : bs.getLast? with
  | none => exact h0
  | some x => exact hb.top h0 x (List.mem_of_getLast? hl)
theorem takes_end' {l : List FnV} {s : Int} (hs : isEnd s) (name : Int) : rTakes l s name = (0, 0, true) := by
  rcases hs with rfl | rfl | rfl <;> rfl
theorem rTok_dead {l : List FnV} {h : Int} {bs : List BkV} {s name : Int} (h0 : h < 0) : rTok l h bs s name = if isEnd s then cTurn h bs s else (15, h, bs) := by
  unfold rTok cTurn
  by_cases he : isEnd s
  · rw [if_pos he, if_pos he, if_pos he]; rfl
  · rw [if_neg he, if_neg he, if_pos h0]
theorem rTok_none {l : List FnV} {h : Int} {bs : List BkV} {s name p g : Int} (h0 : 0 ≤ h) (ht : rTakes l s name = (p, g, false)) : rTok l h bs s name = (22, h, bs) := by
  have he : ¬ isEnd s := fun he => by rw [takes_end' he] at ht; simp at ht
  unfold rTok
  rw [if_neg he, if_neg (by omega), ht]
theorem rTok_alive {l : List FnV} {h : Int} {bs : List BkV} {s name p g : Int} (h0 : 0 ≤ h) (h64 : h ≤ 64) (hb : baseOf bs ≤ h) (ht : rTakes l s name = (p, g, true)) : rTok l h bs s name = if h - baseOf bs < p ∨ 64 < h - p + g then (14, h, bs) else cTurn (h - p + g) bs s := by
  by_cases he : isEnd s
  · rw [takes_end' he] at ht
    injection ht with h1 h2
    injection h2 with h2 _
    subst h1; subst h2
    rw [if_neg (by omega), show h - 0 + 0 = h from by omega]
    unfold rTok cTurn
    rw [if_pos he, if_pos he]; rfl
  · unfold rTok cTurn
    rw [if_neg he, if_neg (by omega), ht, if_neg he]
    rfl
section
variable {W : World} {g : Nat} {h : Int} {v : Value} {bs : List BkV} {A : Option Addr} {n c : Nat} {l : List FnV} {pages most : Int}
set_option maxHeartbeats 16000000 in
set_option maxRecDepth 100000 in
theorem wstep_any (s : Wk W g h v bs) (hF : Fnr W A n c l) (t : TkV) (hb : Bas h bs) (htop : Top t.sign bs) (hfew : bs.length ≤ 99) : Calls Tryz.prog 109 #[.pointer (some ⟨g, 0, none⟩), unitV pages most A n c, .agg (tkC t).toArray] W (WPost W g (rTok l h bs t.sign t.name)) := by
  unfold unitV
  obtain ⟨r, tn, nm⟩ := t
  simp only at htop
  simp only [tkC]
  obtain ⟨R, hR⟩ : ∃ R, R = rTok l h bs r nm := ⟨_, rfl⟩
  rw [← hR]
  have HR := Lib.hid hR
  have HTOP := Lib.hid htop
  have HS := Lib.hid s
  have HF := Lib.hid hF
  have HB := Lib.hid hb
  obtain ⟨hr0, hr1⟩ := s.hr
  clear hR htop s hF hb
  go_enter Tryz.func109, Tryz.ntmps109
  go_upto_region 1 with fail
  have hN := Whole.new W 24 [.int .i64 pages, .int .i64 most, .slice A n c]
  have hal : Chg [] W (W.alloc (.cells #[.int .i64 pages, .int .i64 most, .slice A n c] 24)) := (Chg.refl [] W).alloc _
  have hsz : (W.alloc (.cells #[.int .i64 pages, .int .i64 most, .slice A n c] 24)).heap.size = W.heap.size + 1 := Array.size_push _
  obtain ⟨w1, hw1⟩ : ∃ w1, w1 = W.alloc (.cells #[.int .i64 pages, .int .i64 most, .slice A n c] 24) := ⟨_, rfl⟩
  rw [← hw1] at hN hal hsz ⊢
  have hN2 := Whole.new w1 110 [.int .i32 r, .int .i64 tn, .int .i32 nm]
  have hal2 : Chg [] w1 (w1.alloc (.cells #[.int .i32 r, .int .i64 tn, .int .i32 nm] 110)) := (Chg.refl [] w1).alloc _
  rw [hsz] at hN2
  have hU2 := hN.keep hal2
  have hc := hal.trans hal2
  generalize w1.alloc (.cells #[.int .i32 r, .int .i64 tn, .int .i32 nm] 110) = w2 at hN2 hU2 hc ⊢
  have HF2 := Lib.hid (HF.out.keep hc)
  have HS2 := Lib.hid (HS.out.keep hc)
  have HGU := Lib.hid (show g < W.heap.size from HS.out.rec_.lt)
  generalize W.heap.size = gu at hU2 hN2 HGU ⊢
  have HU2 := Lib.hid hU2
  have HT2 := Lib.hid hN2
  have HC2 := Lib.hid hc
  clear hN hal hsz hw1 hN2 hal2 hU2 hc
  have c0 := HS2.out.rec_.cell 0
  have t0 := HT2.out.cell 0
  have t1 := HT2.out.cell 1
  have t2 := HT2.out.cell 2
  have u0 := HU2.out.cell 0
  have u1 := HU2.out.cell 1
  have u2 := HU2.out.cell 2
  by_cases hdead : h = -1
  · have HRD := Lib.hid (HR.out.trans (rTok_dead (by omega)))
    subst hdead
    by_cases h58 : r = 58
    · subst h58
      have HRE := Lib.hid (HRD.out.trans (if_pos (.inl rfl)))
      have HTC := Lib.hid (wturn_any HS2.out 58 HTOP.out (fun hh => by omega))
      rw [← HRE.out] at HTC
      go_wp2_with fail
      refine HTC.out.mono ?_
      obtain ⟨er, rh, rb⟩ := R
      rintro e w9 ⟨hf9, rfl, hw9⟩
      have HP := Lib.hid (show WPost W g (er, rh, rb) (.returned (.int .i64 er)) w9 from ⟨(Fr.of_chg HC2.out).trans hf9, rfl, hw9⟩)
      clear hf9 hw9
      go_wp2_with fail
      go_ret
      exact HP.out
    have q58 : (r == 58) = false := by simpa using h58
    have p58 : (r != 58) = true := by simpa using h58
    by_cases h59 : r = 59
    · subst h59
      have HRE := Lib.hid (HRD.out.trans (if_pos (.inr (.inl rfl))))
      have HTC := Lib.hid (wturn_any HS2.out 59 HTOP.out (fun hh => by omega))
      rw [← HRE.out] at HTC
      go_wp2_with fail
      refine HTC.out.mono ?_
      obtain ⟨er, rh, rb⟩ := R
      rintro e w9 ⟨hf9, rfl, hw9⟩
      have HP := Lib.hid (show WPost W g (er, rh, rb) (.returned (.int .i64 er)) w9 from ⟨(Fr.of_chg HC2.out).trans hf9, rfl, hw9⟩)
      clear hf9 hw9
      go_wp2_with fail
      go_ret
      exact HP.out
    have q59 : (r == 59) = false := by simpa using h59
    have p59 : (r != 59) = true := by simpa using h59
    by_cases h93 : r = 93
    · subst h93
      have HRE := Lib.hid (HRD.out.trans (if_pos (.inr (.inr rfl))))
      have HTC := Lib.hid (wturn_any HS2.out 93 HTOP.out (fun hh => by omega))
      rw [← HRE.out] at HTC
      go_wp2_with fail
      refine HTC.out.mono ?_
      obtain ⟨er, rh, rb⟩ := R
      rintro e w9 ⟨hf9, rfl, hw9⟩
      have HP := Lib.hid (show WPost W g (er, rh, rb) (.returned (.int .i64 er)) w9 from ⟨(Fr.of_chg HC2.out).trans hf9, rfl, hw9⟩)
      clear hf9 hw9
      go_wp2_with fail
      go_ret
      exact HP.out
    have q93 : (r == 93) = false := by simpa using h93
    have p93 : (r != 93) = true := by simpa using h93
    have HRE := Lib.hid (HRD.out.trans (if_neg (show ¬ isEnd r from by unfold isEnd; omega)))
    have HP := Lib.hid (show WPost W g R (.returned (.int .i64 15)) w2 from ⟨Fr.of_chg HC2.out, by rw [HRE.out], fun hh => by rw [HRE.out] at hh; exact absurd hh (by simp)⟩)
    clear h58 h59 h93
    go_wp2_with fail
    go_ret
    exact HP.out
  have qdead : (h == -1) = false := by simpa using hdead
  have h0 : 0 ≤ h := by omega
  have HBB := Lib.hid (HB.out.base h0)
  clear hdead
  obtain ⟨T, hT⟩ : ∃ T, T = rTakes l r nm := ⟨_, rfl⟩
  have HT := Lib.hid hT
  have hin := rTakes_in l r nm
  rw [← hT] at hin
  clear hT
  go_wp2_with fail
  refine (ctakes_any HF2.out ⟨r, tn, nm⟩).mono ?_
  rw [← HT.out]
  obtain ⟨p, q, ok⟩ := T
  simp only at hin
  rintro e w3 ⟨rfl, hc3⟩
  have HS3 := Lib.hid (HS2.out.keep hc3)
  have HT3 := Lib.hid (HT2.out.keep hc3)
  have HC3 := Lib.hid (HC2.out.new hc3)
  clear hc3 c0 t0 t1 t2 u0 u1 u2 HF2 HU2 HS2 HT2 HC2
  cases ok with
  | false =>
    have HRE := Lib.hid (HR.out.trans (rTok_none h0 HT.out.symm))
    have HP := Lib.hid (show WPost W g R (.returned (.int .i64 22)) w3 from ⟨Fr.of_chg HC3.out, by rw [HRE.out], fun hh => by rw [HRE.out] at hh; exact absurd hh (by simp)⟩)
    go_wp2_with fail
    go_ret
    exact HP.out
  | true =>
    have HR2 := Lib.hid (HR.out.trans (rTok_alive h0 hr1 HBB.out HT.out.symm))
    obtain ⟨b0, hb0⟩ : ∃ b, b = baseOf bs := ⟨_, rfl⟩
    have hbr : 0 ≤ b0 ∧ b0 ≤ 64 := by
      rw [hb0]
      unfold baseOf
      cases hl : bs.getLast? with
      | none => exact ⟨Int.le_refl 0, by decide⟩
      | some x => have := HS3.out.rb x (List.mem_of_getLast? hl); exact ⟨this.1, this.2.1⟩
    rw [← hb0] at HR2
    have HBO := Lib.hid hb0
    clear hb0
    go_upto_region 8 with fail
    have c3 := HS3.out.rec_.cell 0
    have HDR := Lib.hid ((Chg.refl [] w3).drew)
    have HCB := Lib.hid (fun (V : World) (hV : Chg [] w3 V) => show Calls Tryz.prog 121 #[.pointer (some ⟨g, 0, none⟩)] V (BasePost b0 V) from by rw [HBO.out]; exact wbase_any (HS3.out.keep hV))
    by_cases hlow : h - b0 < p
    · have qlow : decide (h - b0 < p) = true := by simpa using hlow
      have HRE := Lib.hid (HR2.out.trans (if_pos (.inl hlow)))
      clear hlow
      refine wp_flow (by kernel_rfl) plainT plainT_ok (by kernel_rfl) ?_
      refine flow_move_out plainT_ok rfl rfl rfl ?_
      refine flow1 (r := .pointer (some ⟨g, 0, none⟩)) plainT_ok rfl (.inn rfl) rfl (fun ev W he e1 => by go_simp) ?_
      refine flow1 (r := .pointer (some ⟨g, 0, none⟩)) plainT_ok rfl (.inn rfl) rfl (fun ev W he e1 => by go_simp) ?_
      refine flow1h (r := .int .i64 h) plainT_ok rfl (.inn rfl) rfl (fun ev W he hW e1 => by have c0 := cell_keep (by simpa using c3 : w3.cell? ⟨g, 0, none⟩ = some (.int .i64 h)) (HDR.out.trans (show Chg [] w3.drew _ from hW)); go_simp) ?_
      refine flow_move_out plainT_ok rfl rfl rfl ?_
      refine flow_callv (.int .i64 b0) (by kernel_rfl) rfl (.cons (.inn rfl) .nil) (fun V hV => (HCB.out V (HDR.out.trans (show Chg [] w3.drew _ from hV))).mono fun e w' hb => ⟨hb.1, by rw [plain_by]; exact hb.2⟩) ?_
      refine flow2 (r := .int .i64 (h - b0)) plainT_ok rfl (.inn rfl) (.inn rfl) rfl (fun ev W he e1 e2 => by have hw : IntKind.i64.wrap (h - b0) = h - b0 := IntWalk.i64_in _ (by omega); go_simp) ?_
      refine flow_move_out plainT_ok rfl rfl rfl ?_
      refine flow2 (r := .bool true) plainT_ok rfl (.inn rfl) (.inn rfl) rfl (fun ev W he e1 e2 => by go_simp) ?_
      refine flow_move plainT_ok rfl (keeps_isV _) (.inr (keeps_isV _)) rfl ?_
      refine flow_skip rfl ?_
      refine flow_skip rfl ?_
      refine flow_skip rfl ?_
      refine flow_skip rfl ?_
      refine flow_skip rfl ?_
      refine flow_skip rfl ?_
      refine flow_skip rfl ?_
      refine flow_skip rfl ?_
      refine flow_skip rfl ?_
      refine flow_or_true plainT_ok rfl rfl rfl ?_
      intro vs V hV hG
      obtain e60 : vs 60 = .bool true := hG 60 _ rfl (by kernel_rfl)
      have hV' : Chg [] w3 V := HDR.out.trans (show Chg [] w3.drew _ from hV)
      have HS4 := Lib.hid (HS3.out.keep hV')
      have HT4 := Lib.hid (HT3.out.keep hV')
      have HC4 := Lib.hid (HC3.out.new hV')
      simp only [putAll, Act.put, List.setIfInBounds_toArray, List.set_cons_zero, List.set_cons_succ, e60]
      clear hG hV hV' e60 c3 HCB
      have HP := Lib.hid (show WPost W g R (.returned (.int .i64 14)) V from ⟨Fr.of_chg HC4.out, by rw [HRE.out], fun hh => by rw [HRE.out] at hh; exact absurd hh (by simp)⟩)
      go_wp2_with fail
      go_ret
      exact HP.out
    · have qlow : decide (h - b0 < p) = false := by simpa using hlow
      by_cases hbig : 64 < h - p + q
      · have qbig : decide (64 < h - p + q) = true := by simpa using hbig
        have HRE := Lib.hid (HR2.out.trans (if_pos (.inr hbig)))
        refine wp_flow (by kernel_rfl) plainT plainT_ok (by kernel_rfl) ?_
        refine flow_move_out plainT_ok rfl rfl rfl ?_
        refine flow1 (r := .pointer (some ⟨g, 0, none⟩)) plainT_ok rfl (.inn rfl) rfl (fun ev W he e1 => by go_simp) ?_
        refine flow1 (r := .pointer (some ⟨g, 0, none⟩)) plainT_ok rfl (.inn rfl) rfl (fun ev W he e1 => by go_simp) ?_
        refine flow1h (r := .int .i64 h) plainT_ok rfl (.inn rfl) rfl (fun ev W he hW e1 => by have c0 := cell_keep (by simpa using c3 : w3.cell? ⟨g, 0, none⟩ = some (.int .i64 h)) (HDR.out.trans (show Chg [] w3.drew _ from hW)); go_simp) ?_
        refine flow_move_out plainT_ok rfl rfl rfl ?_
        refine flow_callv (.int .i64 b0) (by kernel_rfl) rfl (.cons (.inn rfl) .nil) (fun V hV => (HCB.out V (HDR.out.trans (show Chg [] w3.drew _ from hV))).mono fun e w' hb => ⟨hb.1, by rw [plain_by]; exact hb.2⟩) ?_
        refine flow2 (r := .int .i64 (h - b0)) plainT_ok rfl (.inn rfl) (.inn rfl) rfl (fun ev W he e1 e2 => by have hw : IntKind.i64.wrap (h - b0) = h - b0 := IntWalk.i64_in _ (by omega); go_simp) ?_
        refine flow_move_out plainT_ok rfl rfl rfl ?_
        refine flow2 (r := .bool false) plainT_ok rfl (.inn rfl) (.inn rfl) rfl (fun ev W he e1 e2 => by go_simp) ?_
        refine flow_move plainT_ok rfl (keeps_isV _) (.inr (keeps_isV _)) rfl ?_
        refine flow_move_out plainT_ok rfl rfl rfl ?_
        refine flow1 (r := .pointer (some ⟨g, 0, none⟩)) plainT_ok rfl (.inn rfl) rfl (fun ev W he e1 => by go_simp) ?_
        refine flow1 (r := .pointer (some ⟨g, 0, none⟩)) plainT_ok rfl (.inn rfl) rfl (fun ev W he e1 => by go_simp) ?_
        refine flow1h (r := .int .i64 h) plainT_ok rfl (.inn rfl) rfl (fun ev W he hW e1 => by have c0 := cell_keep (by simpa using c3 : w3.cell? ⟨g, 0, none⟩ = some (.int .i64 h)) (HDR.out.trans (show Chg [] w3.drew _ from hW)); go_simp) ?_
        refine flow_move_out plainT_ok rfl rfl rfl ?_
        refine flow2 (r := .int .i64 (h - p)) plainT_ok rfl (.inn rfl) (.inn rfl) rfl (fun ev W he e1 e2 => by have hw : IntKind.i64.wrap (h - p) = h - p := IntWalk.i64_in _ (by omega); go_simp) ?_
        refine flow_move_out plainT_ok rfl rfl rfl ?_
        refine flow2 (r := .int .i64 (h - p + q)) plainT_ok rfl (.inn rfl) (.inn rfl) rfl (fun ev W he e1 e2 => by have hw : IntKind.i64.wrap (h - p + q) = h - p + q := IntWalk.i64_in _ (by omega); go_simp) ?_
        refine flow2 (r := .bool true) plainT_ok rfl (.inn rfl) (.const _) rfl (fun ev W he e1 e2 => by go_simp) ?_
        refine flow_or_false plainT_ok rfl rfl rfl ?_
        intro vs V hV hG
        obtain e60 : vs 60 = .bool true := hG 60 _ rfl (by kernel_rfl)
        have hV' : Chg [] w3 V := HDR.out.trans (show Chg [] w3.drew _ from hV)
        have HS4 := Lib.hid (HS3.out.keep hV')
        have HT4 := Lib.hid (HT3.out.keep hV')
        have HC4 := Lib.hid (HC3.out.new hV')
        simp only [putAll, Act.put, List.setIfInBounds_toArray, List.set_cons_zero, List.set_cons_succ, e60]
        clear hG hV hV' e60 c3 HCB
        have HP := Lib.hid (show WPost W g R (.returned (.int .i64 14)) V from ⟨Fr.of_chg HC4.out, by rw [HRE.out], fun hh => by rw [HRE.out] at hh; exact absurd hh (by simp)⟩)
        go_wp2_with fail
        go_ret
        exact HP.out
      · have qbig : decide (64 < h - p + q) = false := by simpa using hbig
        have HRE := Lib.hid (HR2.out.trans (if_neg (by omega)))
        have hlo : 0 ≤ h - p + q := by omega
        have hhi : h - p + q ≤ 64 := by omega
        refine wp_flow (by kernel_rfl) plainT plainT_ok (by kernel_rfl) ?_
        refine flow_move_out plainT_ok rfl rfl rfl ?_
        refine flow1 (r := .pointer (some ⟨g, 0, none⟩)) plainT_ok rfl (.inn rfl) rfl (fun ev W he e1 => by go_simp) ?_
        refine flow1 (r := .pointer (some ⟨g, 0, none⟩)) plainT_ok rfl (.inn rfl) rfl (fun ev W he e1 => by go_simp) ?_
        refine flow1h (r := .int .i64 h) plainT_ok rfl (.inn rfl) rfl (fun ev W he hW e1 => by have c0 := cell_keep (by simpa using c3 : w3.cell? ⟨g, 0, none⟩ = some (.int .i64 h)) (HDR.out.trans (show Chg [] w3.drew _ from hW)); go_simp) ?_
        refine flow_move_out plainT_ok rfl rfl rfl ?_
        refine flow_callv (.int .i64 b0) (by kernel_rfl) rfl (.cons (.inn rfl) .nil) (fun V hV => (HCB.out V (HDR.out.trans (show Chg [] w3.drew _ from hV))).mono fun e w' hb => ⟨hb.1, by rw [plain_by]; exact hb.2⟩) ?_
        refine flow2 (r := .int .i64 (h - b0)) plainT_ok rfl (.inn rfl) (.inn rfl) rfl (fun ev W he e1 e2 => by have hw : IntKind.i64.wrap (h - b0) = h - b0 := IntWalk.i64_in _ (by omega); go_simp) ?_
        refine flow_move_out plainT_ok rfl rfl rfl ?_
        refine flow2 (r := .bool false) plainT_ok rfl (.inn rfl) (.inn rfl) rfl (fun ev W he e1 e2 => by go_simp) ?_
        refine flow_move plainT_ok rfl (keeps_isV _) (.inr (keeps_isV _)) rfl ?_
        refine flow_move_out plainT_ok rfl rfl rfl ?_
        refine flow1 (r := .pointer (some ⟨g, 0, none⟩)) plainT_ok rfl (.inn rfl) rfl (fun ev W he e1 => by go_simp) ?_
        refine flow1 (r := .pointer (some ⟨g, 0, none⟩)) plainT_ok rfl (.inn rfl) rfl (fun ev W he e1 => by go_simp) ?_
        refine flow1h (r := .int .i64 h) plainT_ok rfl (.inn rfl) rfl (fun ev W he hW e1 => by have c0 := cell_keep (by simpa using c3 : w3.cell? ⟨g, 0, none⟩ = some (.int .i64 h)) (HDR.out.trans (show Chg [] w3.drew _ from hW)); go_simp) ?_
        refine flow_move_out plainT_ok rfl rfl rfl ?_
        refine flow2 (r := .int .i64 (h - p)) plainT_ok rfl (.inn rfl) (.inn rfl) rfl (fun ev W he e1 e2 => by have hw : IntKind.i64.wrap (h - p) = h - p := IntWalk.i64_in _ (by omega); go_simp) ?_
        refine flow_move_out plainT_ok rfl rfl rfl ?_
        refine flow2 (r := .int .i64 (h - p + q)) plainT_ok rfl (.inn rfl) (.inn rfl) rfl (fun ev W he e1 e2 => by have hw : IntKind.i64.wrap (h - p + q) = h - p + q := IntWalk.i64_in _ (by omega); go_simp) ?_
        refine flow2 (r := .bool false) plainT_ok rfl (.inn rfl) (.const _) rfl (fun ev W he e1 e2 => by go_simp) ?_
        refine flow_or_false plainT_ok rfl rfl rfl ?_
        intro vs V hV hG
        obtain e60 : vs 60 = .bool false := hG 60 _ rfl (by kernel_rfl)
        have hV' : Chg [] w3 V := HDR.out.trans (show Chg [] w3.drew _ from hV)
        have HS4 := Lib.hid (HS3.out.keep hV')
        have HT4 := Lib.hid (HT3.out.keep hV')
        have HC4 := Lib.hid (HC3.out.new hV')
        simp only [putAll, Act.put, List.setIfInBounds_toArray, List.set_cons_zero, List.set_cons_succ, e60]
        clear hG hV hV' e60 c3 HCB
        have c0 := HS4.out.rec_.cell 0
        have f0 := HS4.out.rec_.frozen 0
        have he5 : h + (q - p) = h - p + q := by omega
        have HE5 := Lib.hid he5
        clear he5
        go_upto_region 11 with fail
        rw [HE5.out]
        generalize h - p + q = h5 at *
        have HS5 := Lib.hid (HS4.out.high h5 (by omega))
        have HT5 := Lib.hid (HT4.out.far (p := ⟨g, 0, none⟩) (by have := HGU.out; simp only; omega) (.int .i64 h5))
        generalize V.setCell ⟨g, 0, none⟩ (.int .i64 h5) = w5 at HS5 HT5 ⊢
        clear c0 f0 hlow hbig qlow qbig HR2
        have t0 := HT5.out.cell 0
        have HTC := Lib.hid (wturn_any HS5.out.1 r HTOP.out (fun _ => ⟨hlo, hfew⟩))
        rw [← HRE.out] at HTC
        go_wp2_with fail
        refine HTC.out.mono ?_
        obtain ⟨er, rh, rb⟩ := R
        rintro e w9 ⟨hf9, rfl, hw9⟩
        have HP := Lib.hid (show WPost W g (er, rh, rb) (.returned (.int .i64 er)) w9 from ⟨((Fr.of_chg HC4.out).trans HS5.out.2).trans hf9, rfl, hw9⟩)
        clear hf9 hw9
        go_wp2_with fail
        go_ret
        exact HP.out
end
end Go.Proofs.YtbkfhndmeljlcaaGreatDoor
