/-
  K: StoTorn.
-/
import Derived.Test.YtddjgncdjdjgeaaZK4
import Derived.Test.YtddjgncdjdjgeaaZK24
import Derived.Test.YtddjgncdjdjgeaaZK28
import Derived.Test.YtddjgncdjdjgeaaZK34
import Derived.Test.YtddjgncdjdjgeaaZK36
import Derived.Test.YtddjgncdjdjgeaaZK37
namespace Go.Proofs.Ytddjgncdjdjgeaa
open Go.RowKit
theorem strOf_tl {y z : List UInt8} (h : (strOf y).toList = (strOf z).toList) : y = z := by
  rw [ByteArray.toList_eq, ByteArray.toList_eq] at h
  exact h
section
variable {w : World} {A C : Option Addr} {n c m d : Nat} {l : List UInt8} {us : List Value} {ws : List (List UInt8)}
def TornPost (w : World) (s : St) (ws : List (List UInt8)) (L E : Nat) (e : Ending) (w' : World) : Prop :=
  ∃ b : Bool, e = .returned (.bool b) ∧ (b = false → ∀ (i : Nat) (x : List UInt8), (scanS (logB s L) E).1[i]? = some x → ws[i]? = some x) ∧ Chg [] w w'
set_option maxHeartbeats 4000000 in
set_option maxRecDepth 100000 in
theorem torn_any {L P E : Nat} (hB : Bs w A n c l) (h64 : n = 2560) (hC : Src w C us) (hsp : ∀ ad, C = some ad → ad.spot = none) (hu : us.length = m) (hli : Lists w us ws) (hm : m ≤ 1000)
    (hb : bestK 40 l 2 = ⟨L, P, E⟩) (hr : rightR L P E (40 : Nat) = true) (hE : E < 4294967296) :
    Calls Try.prog 20 #[.slice A n c, .slice C m d] w (TornPost w ⟨l, l, falses 40⟩ ws L E) := by
  have h1 := rightR_true.1 hr
  have HB := Lib.hid hB
  have HC := Lib.hid hC
  have HSP := Lib.hid hsp
  have HLI := Lib.hid hli
  have HU := Lib.hid hu
  have HBE := Lib.hid hb
  have HRT := Lib.hid hr
  have HLP := Lib.hid (show 1 ≤ L ∧ L ≤ 64 ∧ 1 ≤ P ∧ P ≤ 64 ∧ 1 ≤ E from by omega)
  have H64 := Lib.hid h64
  have HE := Lib.hid hE
  have HM := Lib.hid hm
  have hof := rof_yes (n := n) (c := c) HB.out.len HB.out.src (by omega) (by omega) (by omega)
  have HOF := Lib.hid hof
  clear h1 hB hC hsp hli hu hb hr h64 hE hof
  go_enter Try.func20, Try.ntmps20
  go_wp2_with fail
  refine HOF.out.mono ?_
  rintro e w1 ⟨p, gL, gN, gW, rL, rN, m0, rfl, hR, _, _, _, _, hc1⟩
  have e40 : n / 64 = 40 := by have := H64.out; omega
  rw [e40] at hR
  have HR := Lib.hid hR
  clear e40
  have HC1 := Lib.hid hc1
  clear hR hc1
  go_wp2_with fail
  refine (rbest_any HR.out).mono ?_
  rintro e w2 ⟨rfl, hc2⟩
  have HR2 := Lib.hid (HR.out.keep hc2)
  have HC2 := Lib.hid (HC1.out.new hc2)
  have HBE2 := Lib.hid (show bestK (⟨l, l, falses 40⟩ : St).V.length (⟨l, l, falses 40⟩ : St).S 2 = ⟨L, P, E⟩ from by show bestK (falses 40).length l 2 = _; rw [falses_len]; exact HBE.out)
  rw [HBE2.out]
  simp only
  have hE0 : decide (0 < E) = true := by have := HLP.out; simp; omega
  rw [hE0]
  unfold rootV
  clear hc2 HR hE0
  go_upto_region 7 with fail
  have hR3 := Whole.new w2 61 [.int .i64 (L : Int), .int .i64 (P : Int), .int .u32 (E : Int)]
  have hal := (Chg.refl [] w2).alloc (.cells #[.int .i64 (L : Int), .int .i64 (P : Int), .int .u32 (E : Int)] 61)
  have HR3 := Lib.hid (HR2.out.keep hal)
  have HC3 := Lib.hid (HC2.out.new hal)
  obtain ⟨gr, hgr⟩ : ∃ g, g = w2.heap.size := ⟨_, rfl⟩
  rw [← hgr] at hR3 ⊢
  generalize w2.alloc (.cells #[.int .i64 (L : Int), .int .i64 (P : Int), .int .u32 (E : Int)] 61) = w3 at hal hR3 HR3 HC3 ⊢
  have HRT3 := Lib.hid hR3
  obtain ⟨lg, hlg⟩ : ∃ lg, lg = logB (⟨l, l, falses 40⟩ : St) L := ⟨_, rfl⟩
  have HLG := Lib.hid (show logL (⟨l, l, falses 40⟩ : St) L P E = lg from by rw [hlg]; unfold logL; rw [if_pos (by show rightR L P E (falses 40).length = true; rw [falses_len]; exact HRT.out), Int.toNat_natCast])
  have HLS := Lib.hid (show lg.length ≤ 4096 by rw [← HLG.out]; exact logL_small _ _ _ _)
  obtain ⟨X, hX⟩ : ∃ X, X = scanS lg E := ⟨_, rfl⟩
  have HX := Lib.hid (And.intro hX hlg)
  clear hal hR3 hgr hlg HR2 HC2
  have hC0 := (Chg.refl [] w3).drew
  refine wp_flow (by kernel_rfl) plainT plainT_ok (by kernel_rfl) ?_
  refine flow_move_out plainT_ok rfl rfl rfl ?_
  refine flow1h (r := rootV L P E) plainT_ok rfl (.out rfl rfl) rfl (fun ev W he hW e1 => by have hx := HRT3.out.keep (hC0.new hW); have r0 := hx.cell 0; have r1 := hx.cell 1; have r2 := hx.cell 2; clear hW hx; unfold rootV; go_simp) ?_
  refine flow_calld (ownF w3.heap.size 5 (bts lg)) (keeps_own _ _ _) (.inr (keeps_own _ _ _)) (by kernel_rfl) rfl (.cons (.inn rfl) (.cons (.inn rfl) .nil)) (fun W hW => (rlog_any (HR3.out.keep (hC0.new hW)) L P E).mono ?_) ?_
  · rintro e w' ⟨v, rfl, ho, hc⟩
    rw [HLG.out] at ho
    exact ⟨_, rfl, hc, by rw [ownF, bts_len]; exact own_more ho (hC0.new hW).size⟩
  refine flow1 (r := .pointer (some ⟨gr, 2, none⟩)) plainT_ok rfl (.out rfl rfl) rfl (fun ev W he e1 => by go_simp) ?_
  refine flow1h (r := .int .u32 (E : Int)) plainT_ok rfl (.inn rfl) rfl (fun ev W he hW e1 => by have r2 := (HRT3.out.keep (hC0.new hW)).cell 2; clear hW; go_simp) ?_
  refine flow_call (scanF w3.heap.size X) (keeps_scan _ _) (.inr (keeps_scan _ _)) (by kernel_rfl) rfl (fun ev W he hW hf => ?_) ?_
  · have h1 : (ownF w3.heap.size 5 (bts lg)) (ev (.tmp 26)) W := hf.1
    have h2 : ev (.tmp 28) = .int .u32 (E : Int) := hf.2.1
    rw [ownF, bts_len] at h1
    obtain ⟨A, c, e1, hB, _⟩ := Bs.of_own h1
    rw [show (List.map ev (#[.tmp 26, .tmp 28] : Array Operand).toList).toArray = #[ev (.tmp 26), ev (.tmp 28)] by simp]
    rw [e1, h2]
    refine (rscan_any hB E (by have := HLS.out; omega)).mono ?_
    rintro e w' ⟨v, vs, rfl, ho, hr, hc⟩
    rw [← HX.out.1] at ho hr ⊢
    exact ⟨_, rfl, hc, v, vs, rfl, own_more ho (hC0.new hW).size, rows_more hr (hC0.new hW).size⟩
  refine flow_move plainT_ok rfl (keeps_scan _ _) (.inr (keeps_scan _ _)) rfl ?_
  refine flow_scan0 plainT_ok (keeps_frm _ _) (.inr (keeps_frm _ _)) rfl rfl ?_
  refine flow_scan1 plainT_ok rfl rfl ?_
  refine flow_assign plainT_ok rfl (keeps_frm _ _) (.inr (keeps_frm _ _)) rfl ?_
  refine flow_assign plainT_ok rfl (keeps_isV _) (.inr (keeps_isV _)) rfl ?_
  intro vs W hW hF
  obtain ⟨rs, ho, hrows⟩ := hF 8 _ rfl rfl
  have e9 : vs 9 = .int .i64 (X.2 : Int) := hF 9 _ rfl rfl
  generalize hFv : vs 8 = Fv at ho
  simp only [putAll, Act.put, List.setIfInBounds_toArray, List.set_cons_zero, List.set_cons_succ]
  rw [e9, hFv]
  obtain ⟨A6, c6, rfl, hl6, _, hs6, hp6⟩ := own_slice ho
  have HCW := Lib.hid (HC3.out.new (hC0.new hW))
  have HS6 := Lib.hid hs6
  have HP6 := Lib.hid hp6
  have HROW := Lib.hid hrows
  have HL6 := Lib.hid hl6
  have hmx := own_max ho
  obtain ⟨q, hq⟩ : ∃ q, q = X.1.length := ⟨_, rfl⟩
  have HQ := Lib.hid hq
  rw [← hq] at hmx ⊢
  clear hF hW hC0 e9 hFv ho hs6 hp6 hrows hl6 hq
  go_wp2_with fail
  go_loopw [34] (fun i wr => ∃ j : Nat, i = .int .i64 (j : Int) ∧ j ≤ q ∧ Hid (∀ (i : Nat) (x : List UInt8), i < j → X.1[i]? = some x → ws[i]? = some x) ∧ Hid (Chg [] W wr)) (fun i _ => q - (intOf i).toNat)
  case atStart => exact ⟨0, rfl, Nat.zero_le _, Lib.hid (fun i x h => absurd h (by omega)), Lib.hid (Chg.refl _ _)⟩
  case round =>
    obtain ⟨j, rfl, hj, HIr, HCr⟩ := hrel
    by_cases hlt : j < q
    · have hjI : (j : Int) < (q : Int) := by omega
      have hj0 : (0 : Int) ≤ (j : Int) := by omega
      have hjX : j < X.1.length := by rw [← HQ.out]; exact hlt
      have hjr : j < rs.length := by rw [HL6.out, ← HQ.out]; exact hlt
      obtain ⟨ad, rfl, _, hcell⟩ := (HS6.out.keep HCr.out) (by omega)
      obtain ⟨b7, o7, s7⟩ := ad
      obtain rfl : s7 = none := (HP6.out _ rfl).1
      have hc := hcell j rs[j] (List.getElem?_eq_getElem hjr)
      obtain ⟨A7, c7, e7, hB7, _⟩ := Bs.of_own ((HROW.out.keep HCr.out).2 j rs[j] X.1[j] (List.getElem?_eq_getElem hjr) (List.getElem?_eq_getElem hjX))
      rw [e7, add_plain] at hc
      obtain ⟨y, hy⟩ : ∃ y, y = X.1[j] := ⟨_, rfl⟩
      have HY := Lib.hid (show X.1[j]? = some y by rw [hy]; exact List.getElem?_eq_getElem hjX)
      rw [← hy] at hB7 hc
      have HB7 := Lib.hid hB7
      obtain ⟨n7, hn7⟩ : ∃ n7, n7 = y.length := ⟨_, rfl⟩
      rw [← hn7] at HB7 hc
      clear hcell e7 hB7 hy hjX hjr hn7
      go_upto_region 11 with fail
      have hC0 := (Chg.refl [] wr).drew
      clear hc
      refine wp_flow (by kernel_rfl) plainT plainT_ok (by kernel_rfl) ?_
      refine flow_move_out plainT_ok rfl rfl rfl ?_
      refine flow_move_out plainT_ok rfl rfl rfl ?_
      refine flow_lend plainT_ok (.inn rfl) (fun ev W he e1 => by go_simp) rfl ?_
      by_cases hjm : j < m
      · have hju : j < us.length := by rw [HU.out]; exact hjm
        have hjw : j < ws.length := by rw [← HLI.out.1]; exact hju
        have hcr : Chg [] w wr := HCW.out.new HCr.out
        obtain ⟨ad, rfl, _, hcell⟩ := (HC.out.keep hcr) (by omega)
        obtain ⟨b8, o8, s8⟩ := ad
        obtain rfl : s8 = none := HSP.out _ rfl
        have hc8 := hcell j us[j] (List.getElem?_eq_getElem hju)
        obtain ⟨A8, n8, c8, e8, hB8⟩ := (HLI.out.keep hcr).2 j us[j] ws[j] (List.getElem?_eq_getElem hju) (List.getElem?_eq_getElem hjw)
        rw [e8, add_plain] at hc8
        obtain ⟨z, hz⟩ : ∃ z, z = ws[j] := ⟨_, rfl⟩
        have HZ := Lib.hid (show ws[j]? = some z by rw [hz]; exact List.getElem?_eq_getElem hjw)
        rw [← hz] at hB8
        have HC8 := Lib.hid hc8
        have HB8 := Lib.hid hB8
        have hge : ¬ (m : Int) ≤ (j : Int) := by omega
        clear hz e8 hcell hc8 hB8 hcr
        refine flow2 (r := .bool false) plainT_ok rfl (.inn rfl) (.inn rfl) rfl (fun ev W he e1 e2 => by go_simp) ?_
        refine flow_move plainT_ok rfl (keeps_isV _) (.inr (keeps_isV _)) rfl ?_
        refine flow_move_out plainT_ok rfl rfl rfl ?_
        refine flow_strd plainT_ok (.inn rfl) (fun W hW => HB7.out.keep (hC0.new hW)) Try.underlying44 Try.underlying5 Try.underlying9 rfl ?_
        refine flow_move_out plainT_ok rfl rfl rfl ?_
        refine flow_move_out plainT_ok rfl rfl rfl ?_
        refine flow2 (r := .pointer (some ⟨b8, o8 + j, none⟩)) plainT_ok rfl (.inn rfl) (.inn rfl) rfl (fun ev W he e1 e2 => by go_simp) ?_
        refine flow1h (r := .slice A8 n8 c8) plainT_ok rfl (.inn rfl) rfl (fun ev W he hW e1 => by have q0 := cell_keep HC8.out (hC0.new hW); go_simp) ?_
        refine flow_strd plainT_ok (.inn rfl) (fun W hW => HB8.out.keep (hC0.new hW)) Try.underlying44 Try.underlying5 Try.underlying9 rfl ?_
        by_cases hyz : y = z
        · subst hyz
          refine flow2 (r := .bool false) plainT_ok rfl (.inn rfl) (.inn rfl) rfl (fun ev W he e1 e2 => by go_simp) ?_
          refine flow_or_false plainT_ok rfl rfl rfl ?_
          intro vs2 W2 hW2 hF2
          have e52 : vs2 52 = .bool false := hF2 52 _ rfl rfl
          have HC9 := Lib.hid (HCr.out.new (hC0.new hW2))
          simp only [putAll, Act.put, List.setIfInBounds_toArray, List.set_cons_zero, List.set_cons_succ]
          rw [e52]
          clear hF2 hW2 hC0 e52
          go_wp2_with fail
          go_roundw
          case rel => exact ⟨j + 1, by go_num, by omega, Lib.hid (fun i x hi hx => by
            rcases Nat.lt_or_ge i j with h | h
            · exact HIr.out i x h hx
            · obtain rfl : i = j := by omega
              rw [HY.out] at hx
              rw [HZ.out]; exact hx), HC9⟩
          case measure => simp [intOf]; omega
        · have hne2 : ¬ (strOf y).toList = (strOf z).toList := fun h => hyz (strOf_tl h)
          refine flow2 (r := .bool true) plainT_ok rfl (.inn rfl) (.inn rfl) rfl (fun ev W he e1 e2 => by go_simp) ?_
          refine flow_or_false plainT_ok rfl rfl rfl ?_
          intro vs2 W2 hW2 hF2
          have e52 : vs2 52 = .bool true := hF2 52 _ rfl rfl
          have HC9 := Lib.hid (HCW.out.new (HCr.out.new (hC0.new hW2)))
          simp only [putAll, Act.put, List.setIfInBounds_toArray, List.set_cons_zero, List.set_cons_succ]
          rw [e52]
          clear hF2 hW2 hC0 e52
          go_wp2_with fail
          go_ret
          exact ⟨true, rfl, (fun h => by cases h), HC9.out⟩
      · have hge : (m : Int) ≤ (j : Int) := by omega
        refine flow2 (r := .bool true) plainT_ok rfl (.inn rfl) (.inn rfl) rfl (fun ev W he e1 e2 => by go_simp) ?_
        refine flow_move plainT_ok rfl (keeps_isV _) (.inr (keeps_isV _)) rfl ?_
        refine flow_skip rfl ?_
        refine flow_skip rfl ?_
        refine flow_skip rfl ?_
        refine flow_skip rfl ?_
        refine flow_skip rfl ?_
        refine flow_skip rfl ?_
        refine flow_skip rfl ?_
        refine flow_skip rfl ?_
        refine flow_or_true plainT_ok rfl rfl rfl ?_
        intro vs2 W2 hW2 hF2
        have e52 : vs2 52 = .bool true := hF2 52 _ rfl rfl
        have HC9 := Lib.hid (HCW.out.new (HCr.out.new (hC0.new hW2)))
        simp only [putAll, Act.put, List.setIfInBounds_toArray, List.set_cons_zero, List.set_cons_succ]
        rw [e52]
        clear hF2 hW2 hC0 e52
        go_wp2_with fail
        go_ret
        exact ⟨true, rfl, (fun h => by cases h), HC9.out⟩
    · obtain rfl : q = j := by omega
      have hjI : ¬ (q : Int) < (q : Int) := by omega
      have HP := Lib.hid (show TornPost w ⟨l, l, falses 40⟩ ws L E (.returned (.bool false)) wr from ⟨false, rfl, fun _ i x hx => by
        rw [← HX.out.2, ← HX.out.1] at hx
        exact HIr.out i x (by rw [HQ.out]; exact (List.getElem?_eq_some_iff.1 hx).1) hx, HCW.out.new HCr.out⟩)
      go_wp2_with fail
      go_ret
      exact HP.out
end
end Go.Proofs.Ytddjgncdjdjgeaa
