/-
  PB: RUText.
-/
import Derived.Test.YtbkfhndmeljlcaaGreatDoorZPB8
import Derived.Test.YtbkfhndmeljlcaaGreatDoorZPB33
import Derived.Test.YtbkfhndmeljlcaaGreatDoorZPB34
namespace Go.Proofs.YtbkfhndmeljlcaaGreatDoor
open Go.RowKit
open Go.Lib (decDigits encodeRune)
section
variable {W : World} {A : Option Addr} {n c : Nat} {l : List FnV} {pages most : Int}
set_option maxHeartbeats 8000000 in
set_option maxRecDepth 100000 in
theorem rutext_any (h : Fnr W A n c l) (hsm : ∀ f ∈ l, f.code.size ≤ 9223372036854775807) : Calls Tryz.prog 26 #[unitV pages most A n c] W (UTextPost (rText pages most l).1 (rText pages most l).2 W) := by
  have HRI := Lib.hid (fun (w : World) (hc : Chg [] W w) => rright_any (pages := pages) (most := most) (h.keep hc) hsm)
  by_cases hR : rRight pages most l = 0
  · have HF := rRight_ok.1 hR
    obtain ⟨p, rfl⟩ : ∃ p : Nat, pages = (p : Int) := ⟨pages.toNat, by have := HF.p0; omega⟩
    obtain ⟨m, rfl⟩ : ∃ m : Nat, most = (m : Int) := ⟨most.toNat, by have := HF.p0; have := HF.pm; omega⟩
    have hp64 : p ≤ 64 := by have := HF.pm; have := HF.m64; omega
    have hm64 : m ≤ 64 := by have := HF.m64; omega
    have hn32 : n ≤ 32 := by have := HF.few; have := h.len; omega
    rw [hR] at HRI
    have H := Lib.hid h
    have HFF := Lib.hid HF
    have HSM := Lib.hid hsm
    have HLN := Lib.hid h.len
    have HPO := Lib.hid (show ∀ (e : Ending) (w' : World), UTextPost (if 2048 < (utx (p : Int) (m : Int) l).length then ([] : List UInt8) else utx (p : Int) (m : Int) l) (if 2048 < (utx (p : Int) (m : Int) l).length then 3 else 0) W e w' → UTextPost (rText (p : Int) (m : Int) l).1 (rText (p : Int) (m : Int) l).2 W e w' from fun e w' hq => by
      unfold rText
      rw [if_pos hR]
      by_cases h2 : 2048 < (utx (p : Int) (m : Int) l).length
      · rw [if_pos h2] at hq ⊢
        rw [if_pos h2] at hq
        exact hq
      · rw [if_neg h2] at hq ⊢
        rw [if_neg h2] at hq
        exact hq)
    clear h hsm HF hR
    refine Calls.mono ?_ HPO.out
    clear HPO
    obtain ⟨U, hU⟩ : ∃ U, U = utx (p : Int) (m : Int) l := ⟨_, rfl⟩
    rw [← hU]
    obtain ⟨O, hO⟩ : ∃ O, O = (if 2048 < U.length then ([] : List UInt8) else U) := ⟨_, rfl⟩
    obtain ⟨RO, hRO⟩ : ∃ O : Int, O = (if 2048 < U.length then 3 else 0) := ⟨_, rfl⟩
    rw [← hO, ← hRO]
    have HOO := Lib.hid hO
    have HRO := Lib.hid hRO
    clear hO hRO
    obtain ⟨D1, hD1⟩ : ∃ D, D = decDigits p := ⟨_, rfl⟩
    obtain ⟨D2, hD2⟩ : ∃ D, D = decDigits m := ⟨_, rfl⟩
    have HI1 := Lib.hid (fun w => rnum_any 1 p (by omega) (by omega) w)
    have HI2 := Lib.hid (fun w => rnum_any 1 m (by omega) (by omega) w)
    unfold StrPost at HI1 HI2
    rw [← hD1] at HI1
    rw [← hD2] at HI2
    have hL1 : D1.length ≤ 2 := by rw [hD1]; exact dig_two _ (by omega)
    have hL2 : D2.length ≤ 2 := by rw [hD2]; exact dig_two _ (by omega)
    have HU0 := Lib.hid (show ([117, 110, 105, 116, 32] ++ D1 ++ [32] ++ D2) ++ [10] ++ utFs (l.drop 0) = U from by rw [hU, utx, List.drop_zero, hD1, hD2]; simp)
    clear hU hD1 hD2
    have HH := Lib.hid (show ([117, 110, 105, 116, 32] ++ D1 ++ [32] ++ D2).length ≤ 50 from by simp; omega)
    have hadd1 := fun W => str_add [117, 110, 105, 116, 32] D1 (by simp; omega) W
    have hadd2 := fun W => str_add ([117, 110, 105, 116, 32] ++ D1) [32] (by simp; omega) W
    have hadd3 := fun W => str_add ([117, 110, 105, 116, 32] ++ D1 ++ [32]) D2 (by simp; omega) W
    obtain ⟨HD, hHD⟩ : ∃ X, X = [117, 110, 105, 116, 32] ++ D1 ++ [32] ++ D2 := ⟨_, rfl⟩
    rw [← hHD] at HU0 HH hadd3
    have hadd3b := fun W => str_add HD [10] (by have := HH.out; simp; omega) W
    have HZL := Lib.hid (show (strOf (HD ++ [10])) = strOf (HD ++ [10]) from rfl)
    rw [show strOf [10] = ⟨#[10]⟩ from rfl] at hadd3b
    have k1 : strOf [117, 110, 105, 116, 32] = ⟨#[117, 110, 105, 116, 32]⟩ := rfl
    have k2 : strOf [32] = ⟨#[32]⟩ := rfl
    rw [k1] at hadd1
    rw [k2] at hadd2
    generalize strOf ([117, 110, 105, 116, 32] ++ D1) = Z1 at hadd1 hadd2
    generalize strOf ([117, 110, 105, 116, 32] ++ D1 ++ [32]) = Z2 at hadd2 hadd3
    obtain ⟨Z3, hZ3⟩ : ∃ Z, Z = strOf HD := ⟨_, rfl⟩
    rw [← hZ3] at hadd3 hadd3b
    obtain ⟨S1, hS1⟩ : ∃ Z, Z = strOf D1 := ⟨_, rfl⟩
    obtain ⟨S2, hS2⟩ : ∃ Z, Z = strOf D2 := ⟨_, rfl⟩
    rw [← hS1] at hadd1 HI1
    rw [← hS2] at hadd3 HI2
    clear hHD hZ3 hS1 hS2 k1 k2 hL1 hL2
    unfold unitV at HRI ⊢
    go_enter Tryz.func26, Tryz.ntmps26
    go_upto_region 1 with fail
    have hN := Whole.new W 24 [.int .i64 (p : Int), .int .i64 (m : Int), .slice A n c]
    have hal : Chg [] W (W.alloc (.cells #[.int .i64 (p : Int), .int .i64 (m : Int), .slice A n c] 24)) := (Chg.refl [] W).alloc _
    obtain ⟨g, hg⟩ : ∃ g, g = W.heap.size := ⟨_, rfl⟩
    rw [← hg] at hN ⊢
    have HU := Lib.hid hN
    have HC := Lib.hid hal
    generalize W.alloc (.cells #[.int .i64 (p : Int), .int .i64 (m : Int), .slice A n c] 24) = w1 at HU HC ⊢
    clear hN hal hg
    have u0 := HU.out.cell 0
    have u1 := HU.out.cell 1
    have u2 := HU.out.cell 2
    go_upto_region 4 with (go_at_call 52
                           refine (HRI.out _ HC.out).mono ?_
                           rintro e w2 ⟨rfl, hc2⟩
                           have HU2 := Lib.hid (HU.out.keep hc2)
                           have HC2 := Lib.hid (HC.out.trans hc2)
                           clear hc2)
    have HHW := Lib.hid (fun (Wx : World) (h : Chg [] w2.drew Wx) => (show Chg [] w2 Wx from (Chg.refl [] w2).drew.trans h))
    refine wp_flow (by kernel_rfl) plainT plainT_ok (by kernel_rfl) ?_
    refine flow1 (r := .pointer (some ⟨g, 0, none⟩)) plainT_ok rfl (.out rfl rfl) rfl (fun ev W he e1 => by go_simp) ?_
    refine flow1h (r := .int .i64 (p : Int)) plainT_ok rfl (.inn rfl) rfl (fun ev Wx he hW e1 => by have r0 := (HU2.out.keep (HHW.out Wx hW)).cell 0; clear hW; go_simp) ?_
    refine flow_callv (.string S1) (by kernel_rfl) rfl (.cons (.inn rfl) .nil) (fun Wx hW => (HI1.out Wx).mono ?_) ?_
    · rintro e w' ⟨rfl, hcq⟩
      rw [plain_by]
      exact ⟨rfl, hcq⟩
    refine flow2 (r := .string Z1) plainT_ok rfl (.const _) (.inn rfl) rfl (fun ev W he e1 e2 => by have q := hadd1 W; go_simp) ?_
    refine flow2 (r := .string Z2) plainT_ok rfl (.inn rfl) (.const _) rfl (fun ev W he e1 e2 => by have q := hadd2 W; go_simp) ?_
    refine flow1 (r := .pointer (some ⟨g, 1, none⟩)) plainT_ok rfl (.out rfl rfl) rfl (fun ev W he e1 => by go_simp) ?_
    refine flow1h (r := .int .i64 (m : Int)) plainT_ok rfl (.inn rfl) rfl (fun ev Wx he hW e1 => by have r0 := (HU2.out.keep (HHW.out Wx hW)).cell 1; clear hW; go_simp) ?_
    refine flow_callv (.string S2) (by kernel_rfl) rfl (.cons (.inn rfl) .nil) (fun Wx hW => (HI2.out Wx).mono ?_) ?_
    · rintro e w' ⟨rfl, hcq⟩
      rw [plain_by]
      exact ⟨rfl, hcq⟩
    refine flow2 (r := .string Z3) plainT_ok rfl (.inn rfl) (.inn rfl) rfl (fun ev W he e1 e2 => by have q := hadd3 W; go_simp) ?_
    refine flow2 (r := .string (strOf (HD ++ [10]))) plainT_ok rfl (.inn rfl) (.const _) rfl (fun ev W he e1 e2 => by have q := hadd3b W; go_simp) ?_
    refine flow_assign plainT_ok rfl (keeps_isV _) (.inr (keeps_isV _)) rfl ?_
    intro vs Wx hW hF
    have e10 : vs 5 = .string (strOf (HD ++ [10])) := hF 5 _ rfl rfl
    have HU3 := Lib.hid (HU2.out.keep (HHW.out Wx hW))
    have HC3 := Lib.hid (HC2.out.trans (HHW.out Wx hW))
    simp only [putAll, Act.put, List.setIfInBounds_toArray, List.set_cons_zero, List.set_cons_succ]
    rw [e10]
    clear hF hW e10 HHW hadd1 hadd2 hadd3 hadd3b HI1 HI2 HU2 HC2 u0 u1 u2 HZL
    have hlenH := HH.out
    obtain ⟨w3, hw3⟩ : ∃ w3 : World, w3 = Wx := ⟨_, rfl⟩
    rw [← hw3] at HU3 HC3 ⊢
    clear hw3
    have u2 := HU3.out.cell 2
    go_wp2_with fail
    go_loopw [5, 28] (fun b i wr => ∃ (k : Nat) (out : List UInt8) (no : Nat), b = .string (strOf out) ∧ i = .int .i64 (k : Int) ∧ k ≤ n ∧ Hid (no = out.length) ∧ no ≤ 100 + 600 * k ∧ Hid (out ++ utFs (l.drop k) = U) ∧ Hid (Chg [] W wr)) (fun _ i _ => n - (intOf i).toNat)
    case atStart => exact ⟨0, HD ++ [10], HD.length + 1, rfl, rfl, by omega, Lib.hid (by rw [List.length_append]; rfl), by omega, HU0, HC3⟩
    case round =>
      obtain ⟨k, out, no, rfl, rfl, hk, HNO, hno, HX, HC5⟩ := hrel
      by_cases hkn : k < n
      · have hkI : (k : Int) < (n : Int) := by omega
        obtain ⟨t, htk⟩ : ∃ t, l[k]? = some t := ⟨l[k]'(by rw [HLN.out]; exact hkn), by simp⟩
        have hmem := List.mem_of_getElem? htk
        obtain ⟨ts, hts⟩ := HFF.out.tok hmem
        obtain ⟨hnm, _, ha0, ha4⟩ := HFF.out.fn htk
        have HSZ := Lib.hid (HSM.out t hmem)
        obtain ⟨hl600, hl512⟩ := utF_len hts ha4
        have HUL := Lib.hid hl600
        have HTL := Lib.hid hl512
        have HTS := Lib.hid hts
        have HNM := Lib.hid hnm
        obtain ⟨fb, fo, rfl, hfbl, e0, e1, e2⟩ := (H.out.keep HC5.out).cell htk
        have HSt := Lib.hid (show out ++ (utF t ++ utFs (l.drop (k + 1))) = U from by
          rw [← HX.out, show l.drop k = t :: l.drop (k + 1) from List.drop_eq_getElem?_toList_append.trans (by rw [htk]; rfl), utFs])
        clear hnm hts hl600 hl512 hmem htk
        obtain ⟨tn, ta, tc⟩ := t
        simp only at e0 e1 e2 ha0 ha4 HSZ HTL HTS HNM
        obtain ⟨q, rfl⟩ : ∃ q : Nat, ta = (q : Int) := ⟨ta.toNat, by omega⟩
        have hq4 : q ≤ 4 := by omega
        have HIQ := Lib.hid (fun w => rnum_any 1 q (by omega) (by omega) w)
        unfold StrPost at HIQ
        have HTX : txC tc = txB false ts := by unfold txC toksOf; rw [HTS.out]; rfl
        obtain ⟨D, hD⟩ : ∃ D, D = decDigits q := ⟨_, rfl⟩
        obtain ⟨TX, hTX⟩ : ∃ D, D = txB false ts := ⟨_, rfl⟩
        have hDl : D.length ≤ 2 := by rw [hD]; exact dig_two _ (by omega)
        have hTl : TX.length ≤ 512 := by rw [hTX, ← HTX]; exact HTL.out
        have hEl := enc_le4 tn
        have HUE := Lib.hid (show out ++ encodeRune tn ++ D ++ [32] ++ TX ++ [10] ++ utFs (l.drop (k + 1)) = U from by
          rw [← HSt.out]
          unfold utF
          simp only
          rw [HTX, hD, hTX]
          simp)
        rw [← hD] at HIQ
        have HGX := Lib.hid (fun (w : World) (Aq : Option Addr) (nq cq : Nat) (hT : Tks w Aq nq cq ts) (hn : nq ≤ 1000) => rtext_any hT (toks_rng HTS.out) hn)
        rw [← hTX] at HGX
        have hol : out.length ≤ 30000 := by rw [← HNO.out]; omega
        have hadd1 := fun W => str_add_enc out tn (by omega) W
        have hadd2 := fun W => str_add (out ++ encodeRune tn) D (by simp; omega) W
        have hadd3 := fun W => str_add (out ++ encodeRune tn ++ D) [32] (by simp; omega) W
        have hadd4 := fun W => str_add (out ++ encodeRune tn ++ D ++ [32]) TX (by simp; omega) W
        have hadd5 := fun W => str_add (out ++ encodeRune tn ++ D ++ [32] ++ TX) [10] (by simp; omega) W
        rw [show strOf [32] = ⟨#[32]⟩ from rfl] at hadd3
        rw [show strOf [10] = ⟨#[10]⟩ from rfl] at hadd5
        have HLE := Lib.hid (show (out ++ encodeRune tn ++ D ++ [32] ++ TX ++ [10]).length ≤ 100 + 600 * (k + 1) from by simp; rw [← HNO.out]; omega)
        unfold StrPost at HGX
        obtain ⟨S5, hS5⟩ : ∃ S, S = out ++ encodeRune tn ++ D ++ [32] ++ TX ++ [10] := ⟨_, rfl⟩
        rw [← hS5] at hadd5 HUE HLE
        generalize strOf (out ++ encodeRune tn ++ D ++ [32] ++ TX) = Z4 at hadd4 hadd5
        generalize strOf (out ++ encodeRune tn ++ D ++ [32]) = Z3 at hadd3 hadd4
        generalize strOf (out ++ encodeRune tn ++ D) = Z2 at hadd2 hadd3
        generalize strOf (out ++ encodeRune tn) = Z1 at hadd1 hadd2
        generalize strOf TX = ZT at hadd4 HGX
        generalize strOf D = ZD at hadd2 HIQ
        generalize strOf out = Z0 at hadd1 ⊢
        clear hD hTX hDl hTl hS5 HTX ha0 ha4 hEl hol
        go_upto_region 8 with fail
        have hX := Whole.new wr 58 [.int .i32 tn, .int .i64 (q : Int), .string tc]
        have hc2 := (Chg.refl [] wr).alloc (.cells #[.int .i32 tn, .int .i64 (q : Int), .string tc] 58)
        have HX2 := Lib.hid hX
        have HC6 := Lib.hid (HC5.out.trans hc2)
        generalize wr.heap.size = gx at HX2 ⊢
        generalize wr.alloc (.cells #[.int .i32 tn, .int .i64 (q : Int), .string tc] 58) = w6 at HX2 HC6 ⊢
        clear hX e0 e1 e2 hfbl hc2
        have x2 := HX2.out.cell 2
        go_upto_region 9 with (go_at_call 50
                               refine (tokens_any tc HSZ.out).mono ?_
                               intro e w7 hq
                               obtain ⟨A7, c7, rfl, hl7, ho7, hc7⟩ := tokPost_own HTS.out hq
                               have HT7 := Lib.hid (Tks.own_at ho7 (by omega))
                               have HL7 := Lib.hid hl7
                               have HC7 := Lib.hid (HC6.out.trans hc7)
                               have HX7 := Lib.hid (HX2.out.keep hc7)
                               clear hc7 hl7 ho7 hq)
        have HHW := Lib.hid (fun (Wx : World) (h : Chg [] w7.drew Wx) => (show Chg [] w7 Wx from (Chg.refl [] w7).drew.trans h))
        refine wp_flow (by kernel_rfl) plainT plainT_ok (by kernel_rfl) ?_
        refine flow_move_out plainT_ok rfl rfl rfl ?_
        refine flow1 (r := .pointer (some ⟨gx, 0, none⟩)) plainT_ok rfl (.out rfl rfl) rfl (fun ev W he e1 => by go_simp) ?_
        refine flow1h (r := .int .i32 tn) plainT_ok rfl (.inn rfl) rfl (fun ev Wx he hW e1 => by have r0 := (HX7.out.keep (HHW.out Wx hW)).cell 0; clear hW; go_simp) ?_
        refine flow1 (r := .string (Utf8.encode tn)) plainT_ok rfl (.inn rfl) rfl (fun ev W he e1 => by go_simp) ?_
        refine flow2 (r := .string Z1) plainT_ok rfl (.inn rfl) (.inn rfl) rfl (fun ev W he e1 e2 => by have q := hadd1 W; go_simp) ?_
        refine flow1 (r := .pointer (some ⟨gx, 1, none⟩)) plainT_ok rfl (.out rfl rfl) rfl (fun ev W he e1 => by go_simp) ?_
        refine flow1h (r := .int .i64 (q : Int)) plainT_ok rfl (.inn rfl) rfl (fun ev Wx he hW e1 => by have r0 := (HX7.out.keep (HHW.out Wx hW)).cell 1; clear hW; go_simp) ?_
        refine flow_callv (.string ZD) (by kernel_rfl) rfl (.cons (.inn rfl) .nil) (fun Wx hW => (HIQ.out Wx).mono ?_) ?_
        · rintro e w' ⟨rfl, hcq⟩
          rw [plain_by]
          exact ⟨rfl, hcq⟩
        refine flow2 (r := .string Z2) plainT_ok rfl (.inn rfl) (.inn rfl) rfl (fun ev W he e1 e2 => by have q := hadd2 W; go_simp) ?_
        refine flow2 (r := .string Z3) plainT_ok rfl (.inn rfl) (.const _) rfl (fun ev W he e1 e2 => by have q := hadd3 W; go_simp) ?_
        refine flow_move_out plainT_ok rfl rfl rfl ?_
        refine flow_callv (.string ZT) (by kernel_rfl) rfl (.cons (.inn rfl) .nil) (fun Wx hW => (HGX.out _ _ _ _ (HT7.out.keep (HHW.out Wx hW)) (by have := HL7.out; omega)).mono ?_) ?_
        · rintro e w' ⟨rfl, hcq⟩
          rw [plain_by]
          exact ⟨rfl, hcq⟩
        refine flow2 (r := .string Z4) plainT_ok rfl (.inn rfl) (.inn rfl) rfl (fun ev W he e1 e2 => by have q := hadd4 W; go_simp) ?_
        refine flow2 (r := .string (strOf S5)) plainT_ok rfl (.inn rfl) (.const _) rfl (fun ev W he e1 e2 => by have q := hadd5 W; go_simp) ?_
        refine flow_assign plainT_ok rfl (keeps_isV _) (.inr (keeps_isV _)) rfl ?_
        intro vs Wx hW hF
        have e10 : vs 5 = .string (strOf S5) := hF 5 _ rfl rfl
        have HC8 := Lib.hid (HC7.out.trans (HHW.out Wx hW))
        simp only [putAll, Act.put, List.setIfInBounds_toArray, List.set_cons_zero, List.set_cons_succ]
        rw [e10]
        clear hF hW e10 HHW hadd1 hadd2 hadd3 hadd4 hadd5
        go_wp2_with fail
        go_roundw
        case rel => exact ⟨k + 1, S5, S5.length, rfl, by go_num, by omega, Lib.hid rfl, HLE.out, HUE, HC8⟩
        case measure => simp [intOf]; omega
      · have hkI : ¬ (k : Int) < (n : Int) := by omega
        have HXE := Lib.hid (show out = U from by
          have := HX.out
          rw [List.drop_eq_nil_of_le (by rw [HLN.out]; omega), show utFs [] = [] from rfl, List.append_nil] at this
          exact this)
        have hsz : (strOf out).size = no := by rw [strOf_len, HNO.out]
        by_cases h2 : 2048 < no
        · have h2I : (2048 : Int) < (no : Int) := by omega
          have HQ := Lib.hid (show 2048 < U.length by rw [← HXE.out, ← HNO.out]; exact h2)
          have HPP := Lib.hid (show UTextPost O RO W (.returned (.tuple #[.string ⟨#[]⟩, .int .i64 3])) wr from by
            rw [HOO.out, HRO.out, if_pos HQ.out, if_pos HQ.out]; exact ⟨rfl, HC5.out⟩)
          clear h2
          go_wp2_with fail
          go_ret2
          exact HPP.out
        · have h2I : ¬ (2048 : Int) < (no : Int) := by omega
          have HQ := Lib.hid (show ¬ 2048 < U.length by rw [← HXE.out, ← HNO.out]; exact h2)
          have HPP := Lib.hid (show UTextPost O RO W (.returned (.tuple #[.string (strOf out), .int .i64 0])) wr from by
            rw [HOO.out, HRO.out, if_neg HQ.out, if_neg HQ.out, HXE.out]; exact ⟨rfl, HC5.out⟩)
          clear h2
          go_wp2_with fail
          go_ret2
          exact HPP.out
  · obtain ⟨R, hRR⟩ : ∃ R, R = rRight pages most l := ⟨_, rfl⟩
    have hT : rText pages most l = ([], R) := by unfold rText; rw [if_neg hR, hRR]
    rw [hT]
    rw [← hRR] at HRI hR
    have hd : (R == 0) = false := by simpa using hR
    have HPO := Lib.hid (show ∀ w', Chg [] W w' → UTextPost [] R W (.returned (.tuple #[.string ⟨#[]⟩, .int .i64 R])) w' from fun w' hc => ⟨rfl, hc⟩)
    clear h hsm hT hRR
    unfold unitV at HRI ⊢
    simp only
    go_enter Tryz.func26, Tryz.ntmps26
    go_upto_region 1 with fail
    have hal : Chg [] W (W.alloc (.cells #[.int .i64 pages, .int .i64 most, .slice A n c] 24)) := (Chg.refl [] W).alloc _
    have HC := Lib.hid hal
    have hN := Whole.new W 24 [.int .i64 pages, .int .i64 most, .slice A n c]
    obtain ⟨g, hg⟩ : ∃ g, g = W.heap.size := ⟨_, rfl⟩
    rw [← hg] at hN ⊢
    generalize W.alloc (.cells #[.int .i64 pages, .int .i64 most, .slice A n c] 24) = w1 at HC hN ⊢
    have u0 := hN.cell 0
    have u1 := hN.cell 1
    have u2 := hN.cell 2
    clear hal hN hg
    go_wp2_with (go_at_call 52
                 refine (HRI.out _ HC.out).mono ?_
                 rintro e w2 ⟨rfl, hc2⟩
                 have HC2 := Lib.hid (HC.out.trans hc2)
                 clear hc2)
    go_ret2
    exact HPO.out _ HC2.out
end
end Go.Proofs.YtbkfhndmeljlcaaGreatDoor
