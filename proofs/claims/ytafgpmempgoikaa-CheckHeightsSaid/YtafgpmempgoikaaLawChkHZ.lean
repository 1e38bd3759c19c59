/-
  The walk of CheckHeights.
-/
import Derived.Test.YtafgpmempgoikaaZNestWithin1
import Derived.Test.YtafgpmempgoikaaZNestWithin2
import Derived.Test.YtafgpmempgoikaaZNestWithin3
import Derived.Test.YtafgpmempgoikaaZNestWithin4
import Derived.Test.YtafgpmempgoikaaZNestWithin5
import Derived.Test.YtafgpmempgoikaaZNestWithin6
import Derived.Test.YtafgpmempgoikaaFrZ
import Derived.Test.YtafgpmempgoikaaCTakesZ
import Derived.Test.YtafgpmempgoikaaWkMemZ
import Derived.Test.YtafgpmempgoikaaWkHalveZ
import Derived.Test.YtafgpmempgoikaaWkEndZ
import Derived.Test.YtafgpmempgoikaaWkLeaveZ
import Derived.Test.YtafgpmempgoikaaWkTurnZ
import Derived.Test.YtafgpmempgoikaaWkStepZ
import Derived.Test.YtafgpmempgoikaaWkPureZ
import Derived.Test.YtafgpmempgoikaaGl1Z
import Derived.Test.YtafgpmempgoikaaGl2Z
import Derived.Test.YtafgpmempgoikaaGlPureZ
import Derived.Test.YtafgpmempgoikaaGlMemZ
import Derived.Test.YtafgpmempgoikaaGlTakeZ
import Derived.Test.YtafgpmempgoikaaGlTokZ
import Derived.Test.YtafgpmempgoikaaWkFuncZ
import Derived.Test.YtafgpmempgoikaaOddZ
import Derived.Test.YtafgpmempgoikaaOddsZ
import Derived.Test.YtafgpmempgoikaaChkSameZ
import Derived.Test.YtafgpmempgoikaaChkTakesZ
import Derived.Test.YtafgpmempgoikaaChkKnownZ
import Derived.Test.YtafgpmempgoikaaChkPureZ
namespace Go.Proofs.Ytafgpmempgoikaa
open Go.RowKit
/-- What is known of a function of a tape. -/
theorem func_facts {fl : List FnV} (hg : GoodU fl) {k : Nat} {f : FnV} (hk : fl[k]? = some f) : ∃ ts hs, tokR f.code = some ts ∧ rFn fl (k : Int) = (0, hs) ∧ hs.length = ts.length ∧ hs[0]? = some 0 ∧ 0 < ts.length ∧
    ∀ i t x, ts[i]? = some t → hs[i]? = some x → (-1 ≤ x ∧ x ≤ 64) ∧ (0 ≤ x → ¬ Odd1 t.sign → ∃ p q, rTakes fl t.sign t.name = (p, q, true) ∧ p ≤ x ∧ ∀ y, hs[i + 1]? = some y → y = x - p + q) := by
  obtain ⟨h0, hr⟩ := hg.func hk
  obtain ⟨ts, t, d, htk, hn, hw⟩ := rFunc_ok h0
  have hne := rFunc_ne h0 htk
  rw [hr]
  rw [← hw] at h0 ⊢
  obtain ⟨hs, h1, h2, h3, h4⟩ := rWalk_facts fl ts 0 [] [] h0 ⟨by simp, fun x hx => by simp at hx, fun _ x hx => by simp at hx⟩ (fun x hx => by simp at hx) (by omega)
  refine ⟨ts, hs, htk, ?_, h2, h3 hne, hne, h4⟩
  rw [List.nil_append] at h1
  exact Prod.ext h0 h1
section
variable {w : World} {A : Option Addr} {n c : Nat} {l : List Int}
set_option maxHeartbeats 16000000 in
set_option maxRecDepth 100000 in
theorem checkHeights_any (hs : Src w A (nms l)) (hlen : l.length = n) (hspot : 0 < n → ∀ ad, A = some ad → ad.spot = none) (hn : n ≤ 9223372036854775807) (hrng : ∀ x ∈ l, -9223372036854775808 ≤ x ∧ x ≤ 9223372036854775807) :
    Calls Try.prog 8 #[.slice A n c] w (LawPost w) := by
  have HUN := Lib.hid (unit_any (c := c) hs hlen hspot hn hrng)
  clear hs hlen hspot hn hrng
  go_enter Try.func8, Try.ntmps8
  go_wp2_with fail
  refine HUN.out.mono ?_
  rintro e w2 ⟨pg, ms, v, fl, rfl, hp0, hp1, hm0, hm1, ho, hg, hfl0, hc2⟩
  obtain ⟨FA, fc, rfl, hFr⟩ := Fnr.of_own ho (by have := hg.lo; omega) (fun f hf => by have := hg.args f hf; omega)
  have HGD := Lib.hid hg
  have HF2 := Lib.hid hFr
  have HC2 := Lib.hid hc2
  clear HUN ho hg hFr hp0 hp1 hm0 hm1 hc2 hfl0
  obtain ⟨fn, hfn⟩ : ∃ fn, fn = fl.length := ⟨_, rfl⟩
  rw [← hfn] at HF2 ⊢
  have hfm : fn ≤ 1000 := HF2.out.max
  have HFN := Lib.hid hfn
  clear hfn
  go_upto_region 2 with fail
  have hU := Whole.new w2 26 [.int .i64 pg, .int .i64 ms, .slice FA fn fc]
  have hal := (Chg.refl [] w2).alloc (.cells #[.int .i64 pg, .int .i64 ms, .slice FA fn fc] 26)
  have HF3 := Lib.hid (HF2.out.keep hal)
  have HC3 := Lib.hid (HC2.out.new hal)
  obtain ⟨gu, hgu⟩ : ∃ gu, gu = w2.heap.size := ⟨_, rfl⟩
  rw [← hgu] at hU ⊢
  have HU3 := Lib.hid hU
  generalize w2.alloc (.cells #[.int .i64 pg, .int .i64 ms, .slice FA fn fc] 26) = w3 at HF3 HC3 HU3 ⊢
  clear hU hal hgu HF2 HC2
  have u2 := HU3.out.cell 2
  go_wp2_with fail
  clear u2
  go_loopw [20] (fun i wr => ∃ k : Nat, i = .int .i64 (k : Int) ∧ k ≤ fn ∧ Hid (Chg [] w3 wr)) (fun i _ => fn - (intOf i).toNat)
  case atStart => exact ⟨0, rfl, by omega, Lib.hid (Chg.refl _ _)⟩
  case round =>
    obtain ⟨k, rfl, hk, HCr⟩ := hrel
    by_cases hkn : k < fn
    · have hkI : (k : Int) < (fn : Int) := by omega
      obtain ⟨f, hfk⟩ : ∃ f, fl[k]? = some f := ⟨fl[k]'(by rw [← HFN.out]; exact hkn), by simp⟩
      have hcs := HGD.out.size f (List.mem_of_getElem? hfk)
      obtain ⟨ts, hs, htk, hRF, hsl, hs0, hne, hfacts⟩ := func_facts HGD.out hfk
      have HTK := Lib.hid htk
      have HFT := Lib.hid hfacts
      have HSL := Lib.hid hsl
      have HS0 := Lib.hid hs0
      have HCS := Lib.hid hcs
      have HFr := Lib.hid (HF3.out.keep HCr.out)
      have HRF := Lib.hid (show Calls Try.prog 23 #[unitV pg ms FA fn fc, .int .i64 (k : Int)] = Calls Try.prog 23 #[.agg #[.int .i64 pg, .int .i64 ms, .slice FA fn fc], .int .i64 (k : Int)] from rfl)
      have HFC := Lib.hid (fun (V : World) (hV : Chg [] w3 V) => show Calls Try.prog 23 #[.agg #[.int .i64 pg, .int .i64 ms, .slice FA fn fc], .int .i64 (k : Int)] V (FnPost (0, hs) V) from by
        rw [← hRF]
        exact cfunc_any (HF3.out.keep hV) (fun f hf => by have := HGD.out.size f hf; omega) (k : Int))
      obtain ⟨fb, fo, rfl, hfbl, e0, e1, e2⟩ := HFr.out.cell hfk
      clear htk hRF hsl hs0 hfacts hcs HRF
      obtain ⟨nm, ar, cd⟩ := f
      simp only at e0 e1 e2 HTK HCS
      clear hfk
      go_upto_region 5 with fail
      have hX := Whole.new wr 30 [.int .i32 nm, .int .i64 ar, .string cd]
      have hal := (Chg.refl [] wr).alloc (.cells #[.int .i32 nm, .int .i64 ar, .string cd] 30)
      have HC4 := Lib.hid (HCr.out.new hal)
      obtain ⟨gx, hgx⟩ : ∃ g, g = wr.heap.size := ⟨_, rfl⟩
      rw [← hgx] at hX ⊢
      have HX := Lib.hid hX
      generalize wr.alloc (.cells #[.int .i32 nm, .int .i64 ar, .string cd] 30) = w4 at HC4 HX ⊢
      clear hX hal hgx e0 e1 e2 hfbl HCr HFr
      have HU4 := Lib.hid (HU3.out.keep HC4.out)
      have u0 := HU4.out.cell 0
      have u1 := HU4.out.cell 1
      have u2 := HU4.out.cell 2
      go_wp2_with fail
      refine (HFC.out w4 HC4.out).mono ?_
      rintro e w5 ⟨v5, rfl, ho5, hc5⟩
      obtain ⟨A5, c5, rfl, _⟩ := own_slice ho5
      have HC5 := Lib.hid (HC4.out.new hc5)
      have x2 := (HX.out.keep hc5).cell 2
      have HO5 := Lib.hid ho5
      clear ho5 hc5 u0 u1 u2 HU4 HFC
      go_wp2_with fail
      refine (tok_of cd ts HTK.out (by have := HCS.out; omega)).mono ?_
      rintro e w6 ⟨TA, tc, rfl, hT6, hc6, htm⟩
      have HT6 := Lib.hid hT6
      have HC6 := Lib.hid (HC5.out.new hc6)
      have HO6 := Lib.hid (own_keep HO5.out hc6)
      clear hT6 hc6 x2 HO5 HTK HCS
      obtain ⟨tn, htn⟩ : ∃ tn, tn = ts.length := ⟨_, rfl⟩
      have HHL := Lib.hid (show hs.length = tn from by rw [HSL.out, htn])
      rw [← htn] at HT6 htm hne ⊢
      simp only at HO6 ⊢
      rw [HHL.out] at HO6 ⊢
      have HTN := Lib.hid htn
      clear htn HSL
      obtain ⟨A5', c5', e5, _, _, hsrc, hsp⟩ := own_slice HO6.out
      injection e5 with e5a e5b e5c
      subst e5a; subst e5c
      clear e5b
      obtain ⟨ad, rfl, hadb, hadx⟩ := hsrc (by rw [nms_len, HHL.out]; exact hne)
      obtain ⟨b, o, sp⟩ := ad
      obtain rfl : sp = none := (hsp _ rfl).1
      have HSX := Lib.hid (fun (W : World) (hW : Chg [] w6 W) (i : Nat) (x : Int) (hx : hs[i]? = some x) => show W.cell? ⟨b, o + i, none⟩ = some (.int .i64 x) from by
        have h1 := hadx i (.int .i64 x) (by simp [nms, hx])
        rw [add_plain] at h1
        exact cell_keep h1 hW)
      have z0 : w6.cell? ⟨b, o, none⟩ = some (.int .i64 0) := HSX.out w6 (Chg.refl _ _) 0 0 HS0.out
      clear hsrc hsp hadx hadb HO6
      have hne0 : ¬ (tn : Int) ≤ 0 := by omega
      have hneI : (0 : Int) < (tn : Int) := by omega
      go_wp2_with fail
      clear z0
      go_loopw [59] (fun i wr => ∃ j : Nat, i = .int .i64 (j : Int) ∧ j ≤ tn ∧ Hid (Chg [] w6 wr)) (fun i _ => tn - (intOf i).toNat)
      case atStart => exact ⟨0, rfl, by omega, Lib.hid (Chg.refl _ _)⟩
      case round =>
        obtain ⟨i, rfl, hi, HCi⟩ := hrel
        by_cases hin : i < tn
        · have hiI : (i : Int) < (tn : Int) := by omega
          obtain ⟨t, hti⟩ : ∃ t, ts[i]? = some t := ⟨ts[i]'(by rw [← HTN.out]; exact hin), by simp⟩
          obtain ⟨x, hxi⟩ : ∃ x, hs[i]? = some x := ⟨hs[i]'(by rw [HHL.out]; exact hin), by simp⟩
          obtain ⟨⟨hx0, hx1⟩, hst⟩ := HFT.out i t x hti hxi
          have HST := Lib.hid hst
          have z0 := HSX.out wr HCi.out i x hxi
          have HTr := Lib.hid (HT6.out.keep HCi.out)
          obtain ⟨kb, ko, rfl, htbl, t0, t1, t2⟩ := HTr.out.cell hti
          have HTI := Lib.hid hti
          obtain ⟨s, tN, tM⟩ := t
          simp only at t0 t1 t2 HST
          clear hst hti hxi htbl
          have dx0 : decide (x < -1) = false := by simp; omega
          have dx1 : decide (64 < x) = false := by simp; omega
          have hi1 : IntKind.i64.wrap ((i : Int) + 1) = (i : Int) + 1 := IntWalk.i64_in _ (by omega)
          by_cases c1 : i + 1 = tn
          · have q1 : ((i : Int) + 1 == (tn : Int)) = true := by simp; omega
            clear c1
            go_wp2_with fail
            go_roundw
            case rel => exact ⟨i + 1, by go_num, by omega, HCi⟩
            case measure => simp [intOf]; omega
          have q1 : ((i : Int) + 1 == (tn : Int)) = false := by simp; omega
          by_cases c2 : x < 0
          · have d2 : decide (x < 0) = true := by simpa using c2
            go_wp2_with fail
            go_roundw
            case rel => exact ⟨i + 1, by go_num, by omega, HCi⟩
            case measure => simp [intOf]; omega
          have d2 : decide (x < 0) = false := by simpa using c2
          have hx00 : 0 ≤ x := by omega
          by_cases h58 : s = 58
          · have q58 : (s == 58) = true := by simpa using h58
            clear h58
            go_wp2_with fail
            go_roundw
            case rel => exact ⟨i + 1, by go_num, by omega, HCi⟩
            case measure => simp [intOf]; omega
          have q58 : (s == 58) = false := by simpa using h58
          by_cases h59 : s = 59
          · have q59 : (s == 59) = true := by simpa using h59
            clear h59
            go_wp2_with fail
            go_roundw
            case rel => exact ⟨i + 1, by go_num, by omega, HCi⟩
            case measure => simp [intOf]; omega
          have q59 : (s == 59) = false := by simpa using h59
          by_cases h93 : s = 93
          · have q93 : (s == 93) = true := by simpa using h93
            clear h93
            go_wp2_with fail
            go_roundw
            case rel => exact ⟨i + 1, by go_num, by omega, HCi⟩
            case measure => simp [intOf]; omega
          have q93 : (s == 93) = false := by simpa using h93
          by_cases h126 : s = 126
          · have q126 : (s == 126) = true := by simpa using h126
            clear h126
            go_wp2_with fail
            go_roundw
            case rel => exact ⟨i + 1, by go_num, by omega, HCi⟩
            case measure => simp [intOf]; omega
          have q126 : (s == 126) = false := by simpa using h126
          by_cases h161 : s = 161
          · have q161 : (s == 161) = true := by simpa using h161
            clear h161
            go_wp2_with fail
            go_roundw
            case rel => exact ⟨i + 1, by go_num, by omega, HCi⟩
            case measure => simp [intOf]; omega
          have q161 : (s == 161) = false := by simpa using h161
          obtain ⟨p, q, hpq, hpx, hnext⟩ := HST.out hx00 (by unfold Odd1; omega)
          obtain ⟨y, hyi⟩ : ∃ y, hs[i + 1]? = some y := ⟨hs[i + 1]'(by rw [HHL.out]; omega), by simp⟩
          have hyx := hnext y hyi
          have y0 := HSX.out wr HCi.out (i + 1) y hyi
          have hin2 := rTakes_in fl s tM
          rw [hpq] at hin2
          simp only at hin2
          have HU6 := Lib.hid (HU3.out.keep (HC6.out.new HCi.out))
          have HF6 := Lib.hid (HF3.out.keep (HC6.out.new HCi.out))
          have HTC := Lib.hid (fun (V : World) (hV : Chg [] wr V) => show Calls Try.prog 24 #[.agg #[.int .i64 pg, .int .i64 ms, .slice (some ⟨fb, fo, none⟩) fn fc], .agg #[.int .i32 s, .int .i64 tN, .int .i32 tM]] V (TakesPost (p, q, true) V) from by
            have h := ctakes_any (pages := pg) (most := ms) (HF6.out.keep hV) ⟨s, tN, tM⟩
            rw [hpq] at h
            exact h)
          have HDR := Lib.hid ((Chg.refl [] wr).drew)
          have HT0 := Lib.hid (And.intro t0 (And.intro t1 t2))
          have HYX := Lib.hid hyx
          have HZ0 := Lib.hid z0
          have HY0 := Lib.hid y0
          have hi5 : (i : Int) + 1 < (tn : Int) := by omega
          clear h58 h59 h93 h126 h161 c1 c2 hnext hyi hpq HST hyx y0 HS0
          go_upto_region 16 with fail
          clear z0 t0 t1 t2
          refine wp_flow (by kernel_rfl) plainT plainT_ok (by kernel_rfl) ?_
          refine flow1h (r := .agg #[.int .i64 pg, .int .i64 ms, .slice (some ⟨fb, fo, none⟩) fn fc]) plainT_ok rfl (.out rfl rfl) rfl (fun ev W he hW e1 => by have u0 := (HU6.out.keep (HDR.out.trans (show Chg [] wr.drew _ from hW))).cell 0; have u1 := (HU6.out.keep (HDR.out.trans (show Chg [] wr.drew _ from hW))).cell 1; have u2 := (HU6.out.keep (HDR.out.trans (show Chg [] wr.drew _ from hW))).cell 2; go_simp) ?_
          refine flow_move_out plainT_ok rfl rfl rfl ?_
          refine flow_move_out plainT_ok rfl rfl rfl ?_
          refine flow2 (r := .pointer (some ⟨kb, ko + i * 3, none⟩)) plainT_ok rfl (.inn rfl) (.inn rfl) rfl (fun ev W he e1 e2 => by go_simp) ?_
          refine flow1h (r := .agg #[.int .i32 s, .int .i64 tN, .int .i32 tM]) plainT_ok rfl (.inn rfl) rfl (fun ev W he hW e1 => by have t0 := cell_keep HT0.out.1 (HDR.out.trans (show Chg [] wr.drew _ from hW)); have t1 := cell_keep HT0.out.2.1 (HDR.out.trans (show Chg [] wr.drew _ from hW)); have t2 := cell_keep HT0.out.2.2 (HDR.out.trans (show Chg [] wr.drew _ from hW)); go_simp) ?_
          refine flow_callv (.tuple #[.int .i64 p, .int .i64 q, .bool true]) (by kernel_rfl) rfl (.cons (.inn rfl) (.cons (.inn rfl) .nil)) (fun V hV => (HTC.out V (HDR.out.trans (show Chg [] wr.drew _ from hV))).mono fun e w' hb => ⟨hb.1, by rw [plain_by]; exact hb.2⟩) ?_
          refine flow_move plainT_ok rfl (keeps_isV _) (.inr (keeps_isV _)) rfl ?_
          refine flow1 (r := .int .i64 p) plainT_ok rfl (.inn rfl) rfl (fun ev W he e1 => by go_simp) ?_
          refine flow1 (r := .int .i64 q) plainT_ok rfl (.inn rfl) rfl (fun ev W he e1 => by go_simp) ?_
          refine flow1 (r := .bool true) plainT_ok rfl (.inn rfl) rfl (fun ev W he e1 => by go_simp) ?_
          refine flow_assign plainT_ok rfl (keeps_isV _) (.inr (keeps_isV _)) rfl ?_
          refine flow_assign plainT_ok rfl (keeps_isV _) (.inr (keeps_isV _)) rfl ?_
          refine flow_assign plainT_ok rfl (keeps_isV _) (.inr (keeps_isV _)) rfl ?_
          intro vs V hV hG
          obtain e12 : vs 12 = .int .i64 p := hG 12 _ rfl (by kernel_rfl)
          obtain e13 : vs 13 = .int .i64 q := hG 13 _ rfl (by kernel_rfl)
          obtain e14 : vs 14 = .bool true := hG 14 _ rfl (by kernel_rfl)
          have hV' : Chg [] wr V := HDR.out.trans (show Chg [] wr.drew _ from hV)
          have HCV := Lib.hid (HCi.out.new hV')
          have z0 := cell_keep HZ0.out hV'
          have y0 := cell_keep HY0.out hV'
          simp only [putAll, Act.put, List.setIfInBounds_toArray, List.set_cons_zero, List.set_cons_succ, e12, e13, e14]
          clear hG hV hV' e12 e13 e14
          have dxp : decide (x < p) = false := by simp; omega
          have hw1 : IntKind.i64.wrap (x - p) = x - p := IntWalk.i64_in _ (by omega)
          have hw2 : IntKind.i64.wrap (x - p + q) = x - p + q := IntWalk.i64_in _ (by omega)
          have hyq : (y != x - p + q) = false := by rw [HYX.out]; simp
          have hyq2 : (y == x - p + q) = true := by rw [HYX.out]; simp
          have hi6 : ((i : Int) + 1).toNat = i + 1 := by omega
          have hi7 : (0 : Int) ≤ (i : Int) + 1 := by omega
          have hi8 : (i : Int).toNat = i := Int.toNat_natCast _
          go_upto_region 17 with fail
          go_quiet (fail)
          have HCW := Lib.hid (HCV.out.new ((Chg.refl [] V).drewN nq))
          clear hw1 hw2 hi6
          go_wp2_with fail
          go_roundw
          case rel => exact ⟨i + 1, by go_num, by omega, HCW⟩
          case measure => simp [intOf]; omega
        · have hiI : (tn : Int) ≤ (i : Int) := by omega
          have HCZ := Lib.hid (HC6.out.new HCi.out)
          go_wp2_with fail
          go_roundw
          case rel => exact ⟨k + 1, by go_num, by omega, HCZ⟩
          case measure => simp [intOf]; omega
    · have hkI : (fn : Int) ≤ (k : Int) := by omega
      have HCZ := Lib.hid (HC3.out.new HCr.out)
      go_wp2_with fail
      refine cknown_any.mono ?_
      rintro e w12 ⟨rfl, hc12⟩
      have HP := Lib.hid (show LawPost w (.returned (.bool true)) w12 from ⟨rfl, HCZ.out.new hc12⟩)
      clear hc12
      go_wp2_with fail
      go_ret
      exact HP.out
end
end Go.Proofs.Ytafgpmempgoikaa
