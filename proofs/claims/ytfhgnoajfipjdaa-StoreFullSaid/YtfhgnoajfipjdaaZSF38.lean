/-
  SF: LawStoreFull.
-/
import Derived.Test.YtfhgnoajfipjdaaZSF12
import Derived.Test.YtfhgnoajfipjdaaZSF36
import Derived.Test.YtfhgnoajfipjdaaZSF37
namespace Go.Proofs.Ytfhgnoajfipjdaa
open Go.RowKit
theorem fits_mostF {L m : Nat} (hL : 1 ≤ L ∧ L ≤ 12) (hm : m ≤ 6) : fitsB (L : Int) ((0 : Nat) : Int) (m : Int) = decide ((m : Int) ≤ mostI (L : Int) 6) := by
  unfold fitsB leftI sizeI needI mostI
  rw [if_neg (by omega), if_neg (by omega), if_neg (by omega), decide_eq_true (show (0 : Int) < 18 + (m : Int) * 66 by omega), Bool.true_and]
  apply decide_eq_decide.2
  omega
def allF (P : Nat) (ps : List (List UInt8)) : Fact := fun v W => ∃ g us, v = .slice (some ⟨g, 0, none⟩) P P ∧ Fr 0 W g P us ps P
theorem keeps_all (P : Nat) (ps : List (List UInt8)) : Keeps (Chg []) (allF P ps) := fun _ _ _ ⟨g, us, e, h⟩ hc => ⟨g, us, e, h.keep hc⟩
theorem Fr.zero {B : Nat} {w : World} {g n k : Nat} {us : List Value} {ps : List (List UInt8)} (h : Fr B w g n us ps k) : Fr 0 w g n us ps k := ⟨h.len, h.lenP, h.row, fun j hj r hr => by obtain ⟨x, h1, h2, _⟩ := h.at_ j hj r hr; exact ⟨x, h1, h2, Nat.zero_le _⟩⟩
def seenF (l : List UInt8) : Fact := fun v W => ∃ g, v = .slice (some ⟨g, 0, none⟩) l.length l.length ∧ Whole W g 5 (bts l)
theorem keeps_seen (l : List UInt8) : Keeps (Chg []) (seenF l) := fun _ _ _ ⟨g, e, h⟩ hc => ⟨g, e, h.keep hc⟩
section
variable {w : World} {A : Option Addr} {n c : Nat} {xs : List Int}
set_option maxHeartbeats 16000000 in
set_option maxRecDepth 100000 in
theorem storeFull_any (lg : Int) (hlg0 : -9223372036854775808 ≤ lg) (hlg1 : lg ≤ 9223372036854775807) (hl : xs.length = n) (hs : Src w A (nms xs)) (hsp : 0 < n → ∀ ad, A = some ad → ad.spot = none ∧ ad.block < w.heap.size) (hr : ∀ x ∈ xs, -9223372036854775808 ≤ x ∧ x ≤ 9223372036854775807) (hnm : n ≤ 9223372036854775807) :
    Calls Try.prog 9 #[.int .i64 lg, .slice A n c] w (LawPost w) := by
  have HXL := Lib.hid hl
  have HSR := Lib.hid hs
  have HSP := Lib.hid hsp
  have HXR := Lib.hid hr
  clear hl hs hsp hr
  obtain ⟨L, hL, hL1, hL12⟩ : ∃ L : Nat, withinI lg 1 12 = (L : Int) ∧ 1 ≤ L ∧ L ≤ 12 := by
    have hin := into_within lg 1 12 (by omega)
    exact ⟨(withinI lg 1 12).toNat, by have := hin.1; omega, by have := hin.1; omega, by have := hin.1; have := hin.2.1; omega⟩
  have HLI := Lib.hid hL
  have hrt : rightR L 6 1 (St.new 40).V.length = true := by rw [newV]; exact rightR_true.2 (by omega)
  clear hL
  go_enter Try.func9, Try.ntmps9
  go_wp2_with fail
  refine (new_int 40 (by omega) (by omega)).mono ?_
  rintro e w1 ⟨p, bL, bS, bW, rfl, hd1, hp, hbL, hbS, hbW, hc1⟩
  have HD1 := Lib.hid hd1
  have HC1 := Lib.hid hc1
  have HB := Lib.hid (show w.heap.size ≤ p ∧ w.heap.size ≤ bL ∧ w.heap.size ≤ bS ∧ w.heap.size ≤ bW from ⟨hp, hbL, hbS, hbW⟩)
  clear hd1 hc1 hp hbL hbS hbW
  go_wp2_with fail
  with_reducible refine (within_is lg 1 12 (by omega) (by omega) (by omega) hlg0 hlg1).mono ?_
  rintro e w' ⟨rfl, rfl⟩
  rw [HLI.out]
  go_wp2_with fail
  refine (format_any HD1.out L 6).mono ?_
  rintro e w3 hF
  obtain ⟨rfl, hd3, hc3⟩ : e = .returned (.int .i64 0) ∧ DskS w3 p bL bS bW (fmt (St.new 40) L 6) ∧ Chg [bL, bS, bW] w1 w3 := by
    rcases hF with ⟨_, h1, h2, h3⟩ | ⟨h0, _⟩
    · exact ⟨h1, h2, h3⟩
    · exact absurd h0 (by show ¬ rightR L 6 1 (St.new 40).V.length = false; rw [hrt]; decide)
  have hfr : ∀ i ∈ [bL, bS, bW], w.heap.size ≤ i := fun i hi => by
    have := HB.out
    simp only [List.mem_cons, List.not_mem_nil, or_false] at hi
    rcases hi with rfl | rfl | rfl <;> omega
  have HFR := Lib.hid hfr
  have HD3 := Lib.hid hd3
  have HC3 := Lib.hid (HC1.out.then_ hc3 (fun i hi hw => by have := HFR.out i hi; omega))
  clear hF hd3 hc3 hfr HD1
  go_wp2_with fail
  refine (opened_any (gd_new 40) L 6 hrt HD3.out).mono ?_
  rintro e w4 ⟨g, gN, v4, s4, x4, rfl, hg, hgN, hs4, hk4, hL4, hP4, hE4, hc4⟩
  have HG := Lib.hid (show w3.heap.size ≤ g ∧ w3.heap.size ≤ gN from ⟨hg, hgN⟩)
  have HC4 := Lib.hid (HC3.out.then_ hc4 (fun i hi hw => by have := HFR.out i hi; omega))
  have HS4 := Lib.hid hs4
  have HK4 := Lib.hid hk4
  have HX4 := Lib.hid (And.intro hL4 (And.intro hP4 hE4))
  clear hg hgN hs4 hk4 hL4 hP4 hE4 hc4 HD3
  go_upto_region 8 with fail
  have hal := (Chg.refl [] w4).alloc (.cells #[.slice A n c, .int .i64 0] 69)
  have hTW : Whole (w4.alloc (.cells #[.slice A n c, .int .i64 0] 69)) w4.heap.size 69 [.slice A n c, .int .i64 0] := Whole.new w4 69 [.slice A n c, .int .i64 0]
  obtain ⟨pt, hpt⟩ : ∃ g, g = w4.heap.size := ⟨_, rfl⟩
  rw [← hpt] at hTW ⊢
  generalize w4.alloc (.cells #[.slice A n c, .int .i64 0] 69) = w6 at hal hTW ⊢
  have HS6 := Lib.hid (HS4.out.more (q := pt) hal (by omega) hTW.lt)
  have HC6 := Lib.hid (HC4.out.new hal)
  have HPT := Lib.hid (show (∀ i ∈ [p, bL, bS, bW, g, gN], i ≠ pt) ∧ w.heap.size ≤ pt from ⟨fun i hi => by
    have h1 := HS4.out.lts i (by simp only [SK.D]; exact hi)
    omega, by have := HC4.out.size; omega⟩)
  have HT6 := Lib.hid (show Tp w6 pt A n c xs 0 from ⟨by simpa using hTW, HXL.out, HSR.out.keep HC6.out, fun h0 ad e => ⟨(HSP.out h0 ad e).1, by have h1 := (HSP.out h0 ad e).2; have h2 := HPT.out.2; omega⟩, HXR.out, Nat.zero_le _, hnm⟩)
  clear hal hTW hpt HS4
  have HFW := Lib.hid (show ∀ i ∈ SK.W ⟨p, bL, bS, bW, g, gN, [pt]⟩, w.heap.size ≤ i ∧ i ≠ pt from fun i hi => by
    have h0 := HPT.out.1
    have h1 := HB.out
    have h2 := HG.out
    have h3 := HC3.out.size
    simp only [SK.W, List.mem_cons, List.not_mem_nil, or_false] at hi
    rcases hi with rfl | rfl | rfl | rfl | rfl
    · exact ⟨by omega, h0 _ (by simp)⟩
    · exact ⟨by omega, h0 _ (by simp)⟩
    · exact ⟨by omega, h0 _ (by simp)⟩
    · exact ⟨by omega, h0 _ (by simp)⟩
    · exact ⟨by omega, h0 _ (by simp)⟩)
  go_wp2_with fail
  go_loopw [9] (fun i wr => ∃ j : Nat, i = .int .i64 (j : Int) ∧ j ≤ 12 ∧ Hid (∃ s x v a, Sto wr ⟨p, bL, bS, bW, g, gN, [pt]⟩ s x v ∧ x.L = L ∧ x.P = 6 ∧ x.E ≤ 2 + j ∧ Tp wr pt A n c xs a) ∧ Hid (Chg [] w wr)) (fun i _ => 12 - (intOf i).toNat)
  case atStart => exact ⟨0, rfl, by omega, Lib.hid ⟨s4, x4, v4, 0, HS6.out, HX4.out.1, HX4.out.2.1, by have := HX4.out.2.2; omega, HT6.out⟩, HC6⟩
  case round =>
    obtain ⟨j, rfl, hj, HKr, HCr⟩ := hrel
    by_cases hlt : j < 12
    rotate_left
    · have hjI : ¬ (j : Int) < 12 := by omega
      clear hlt
      go_wp2_with fail
      refine known18.mono ?_
      rintro e wk ⟨rfl, hck⟩
      have HCk := Lib.hid (HCr.out.new hck)
      clear hck
      go_wp2_with fail
      go_ret
      exact ⟨rfl, HCk.out⟩
    have hjI : (j : Int) < 12 := by omega
    obtain ⟨s, x, v, a, hs, hxL, hxP, hxE, hT⟩ := HKr.out
    have HS := Lib.hid hs
    have HT := Lib.hid hT
    have HX := Lib.hid (And.intro hxL (And.intro hxP hxE))
    clear HKr hs hxL hxP hxE hT HS6 HT6
    go_wp2_with fail
    refine (changes_any HT.out 6 (by omega)).mono ?_
    rintro e w7 ⟨vc, rfl, hso⟩
    obtain ⟨Ac, cc, ls, a7, rfl, hch, hin, hT7, hc7, hl7⟩ := chso_in hso (by omega) HS.out.lts
    have HS7 := Lib.hid (HS.out.past hc7 (by simp) HPT.out.1)
    have HC7 := Lib.hid (HCr.out.then_ hc7 (fun i hi hw => by simp only [List.mem_singleton] at hi; have := HPT.out.2; omega))
    have HIN := Lib.hid (show InL x.P ls by rw [HX.out.2.1]; exact hin)
    have HCH7 := Lib.hid hch
    have HT7 := Lib.hid hT7
    obtain ⟨m, hm⟩ : ∃ m, m = ls.length := ⟨_, rfl⟩
    have HM := Lib.hid (And.intro hm hl7)
    rw [← hm]
    have hC0 := (Chg.refl [] w7).drew
    have h64 : ∀ l ∈ x.pages, l.length ≤ 1000 := fun l hl => by have := HS7.out.p64 l hl; omega
    have H64 := Lib.hid h64
    clear hso hch hin hT7 hc7 hl7 HS HT hm h64
    go_upto_region 12 with fail
    refine wp_flow (by kernel_rfl) plainT plainT_ok (by kernel_rfl) ?_
    refine flow_move_out plainT_ok rfl rfl rfl ?_
    refine flow_calld (allF x.P x.pages) (keeps_all _ _) (.inr (keeps_all _ _)) (by kernel_rfl) rfl (.cons (.inn rfl) .nil) (fun W hW => (sall_any (HS7.out.keep (hC0.new hW))).mono ?_) ?_
    · rintro e w' ⟨g, us, rfl, hfr, _, hc⟩
      exact ⟨_, rfl, hc, g, us, rfl, hfr.zero⟩
    refine flow_call (isV (.string (strOf x.pages.flatten))) (keeps_isV _) (.inr (keeps_isV _)) (by kernel_rfl) rfl (fun ev W he hW hfs => ?_) ?_
    · obtain ⟨f1, _⟩ := hfs
      have f1' : allF x.P x.pages (ev (.tmp 48)) W := f1
      obtain ⟨gA, us, e1, hfr⟩ := f1'
      rw [show (List.map ev (#[.tmp 48] : Array Operand).toList).toArray = #[ev (.tmp 48)] by simp]
      rw [e1]
      refine (join_any (c := x.P) (Src.of_all hfr.row) (fun ad e => by injection e with e; subst e; rfl) hfr.len hfr.lenP (by have := HX.out; omega) (hfr.lists H64.out) H64.out).mono ?_
      rintro e w' ⟨rfl, hc⟩
      exact ⟨_, rfl, hc, rfl⟩
    refine flow_move_out plainT_ok rfl rfl rfl ?_
    refine flow_calld (seenF s.S) (keeps_seen _) (.inr (keeps_seen _)) (by kernel_rfl) rfl (.cons (.inn rfl) .nil) (fun W hW => (seen_any (HS7.out.keep (hC0.new hW)).dsk).mono ?_) ?_
    · rintro e w' ⟨rfl, hw, hc⟩
      exact ⟨_, rfl, hc, _, rfl, hw⟩
    refine flow_op (isV (.string (strOf s.S))) (keeps_isV _) (.inr (keeps_isV _)) rfl (fun ev W he hW hfs => ?_) ?_
    · obtain ⟨f1, _⟩ := hfs
      have f1' : seenF s.S (ev (.tmp 51)) W := f1
      obtain ⟨gS, e1, hWS⟩ := f1'
      have hsl := Dsk.lenS HS7.out.dsk
      have hsv := Dsk.le HS7.out.dsk
      have hr := (Bs.of_all hWS (by omega)).str (P := Try.prog) 46 5 9 Try.underlying46 Try.underlying5 Try.underlying9
      simp only [execOp, e1, Sem.run_bind, hr, Result.andThen_ok, Sem.run_pure]
      exact ⟨plainT_ok.by_refl _ W, rfl⟩
    refine flow_move_out plainT_ok rfl rfl rfl ?_
    refine flow_callv (.int .i64 (x.used : Int)) (by kernel_rfl) rfl (.cons (.inn rfl) .nil) (fun W hW => (used_any (HS7.out.keep (hC0.new hW))).mono ?_) ?_
    · rintro e w' ⟨rfl, hc⟩; exact ⟨rfl, hc⟩
    refine flow_move_out plainT_ok rfl rfl rfl ?_
    refine flow_callv (.int .u32 (x.seq : Int)) (by kernel_rfl) rfl (.cons (.inn rfl) .nil) (fun W hW => (seq_any (HS7.out.keep (hC0.new hW))).mono ?_) ?_
    · rintro e w' ⟨rfl, hc⟩; exact ⟨rfl, hc⟩
    refine flow_assign plainT_ok rfl (keeps_isV _) (.inr (keeps_isV _)) rfl ?_
    refine flow_assign plainT_ok rfl (keeps_isV _) (.inr (keeps_isV _)) rfl ?_
    refine flow_assign plainT_ok rfl (keeps_isV _) (.inr (keeps_isV _)) rfl ?_
    refine flow_assign plainT_ok rfl (keeps_isV _) (.inr (keeps_isV _)) rfl ?_
    intro vs W hW hF
    have e11 : vs 11 = .string (strOf x.pages.flatten) := hF 11 _ rfl rfl
    have e12 : vs 12 = .string (strOf s.S) := hF 12 _ rfl rfl
    have e13 : vs 13 = .int .i64 (x.used : Int) := hF 13 _ rfl rfl
    have e14 : vs 14 = .int .u32 (x.seq : Int) := hF 14 _ rfl rfl
    have hcw := hC0.new hW
    have HS8 := Lib.hid (HS7.out.keep hcw)
    have HC8 := Lib.hid (HC7.out.new hcw)
    have HCH8 := Lib.hid (HCH7.out.chg hcw (fun _ h => by cases h))
    have HT8 := Lib.hid (HT7.out.keep hcw)
    simp only [putAll, Act.put, List.setIfInBounds_toArray, List.set_cons_zero, List.set_cons_succ]
    rw [e11, e12, e13, e14]
    clear hF hW hcw hC0 e11 e12 e13 e14 HS7 HC7 HCH7 HT7
    obtain ⟨w8, hw8⟩ : ∃ w8 : World, w8 = W := ⟨_, rfl⟩
    rw [← hw8] at HS8 HC8 HCH8 HT8 ⊢
    clear hw8
    have HCO := Lib.hid (commit_any (d := cc) HS8.out HCH8.out HM.out.1.symm (by have := HM.out; omega))
    have hAW : 0 < n → ∀ ad, A = some ad → ad.block ∉ SK.W ⟨p, bL, bS, bW, g, gN, [pt]⟩ := fun h0 ad e hm => by
      have h1 := (HFW.out _ hm).1
      have h2 := (HSP.out h0 ad e).2
      omega
    have HAW := Lib.hid hAW
    have HTK := Lib.hid (fun (w1 w2 : World) (hc : Chg (SK.W ⟨p, bL, bS, bW, g, gN, [pt]⟩) w1 w2) (h : Tp w1 pt A n c xs a7) => (show Tp w2 pt A n c xs a7 from { h with rec_ := h.rec_.chg hc (fun hm => (HFW.out _ hm).2 rfl), src := h.src.chg hc (fun h0 ad e => HAW.out (by rw [nms_len, HXL.out] at h0; exact h0) ad e) }))
    clear hAW
    go_wp2_with fail
    refine HCO.out.mono ?_
    rintro e w9 (⟨h0, _⟩ | ⟨_, hno, rfl, hc9⟩ | ⟨_, _, rfl, ⟨v9, hs9⟩, hc9⟩)
    · rw [HIN.out.2.1] at h0; cases h0
    rotate_left
    · have HT9 := Lib.hid (HTK.out _ _ hc9 HT8.out)
      have HS9 := Lib.hid hs9
      have HC9 := Lib.hid (HC8.out.then_ hc9 (fun i hi hw => by have := (HFW.out _ hi).1; omega))
      clear hs9 hc9 HCO HS8 HT8
      go_wp2_with fail
      go_roundw
      case rel => exact ⟨j + 1, by go_num, by omega, Lib.hid ⟨_, _, v9, a7, HS9.out, HX.out.1, HX.out.2.1, (by have := HX.out.2.2; show x.E ≤ _; omega), HT9.out⟩, HC9⟩
      case measure => simp [intOf]; omega
    have HS9 := Lib.hid (HS8.out.keep hc9)
    have HT9 := Lib.hid (HT8.out.keep hc9)
    have HC9 := Lib.hid (HC8.out.new hc9)
    have HCH9 := Lib.hid (HCH8.out.chg hc9 (fun _ h => by cases h))
    clear hc9 hno HCO HS8 HT8 HCH8
    go_wp2_with fail
    refine (sall_any HS9.out).mono ?_
    rintro e w10 ⟨gB, uB, rfl, hfr, _, hc10⟩
    have HJ := Lib.hid (join_any (c := x.P) (Src.of_all hfr.row) (fun ad e => by injection e with e; subst e; rfl) hfr.len hfr.lenP (by have := HX.out; omega) (hfr.lists H64.out) H64.out)
    have HS10 := Lib.hid (HS9.out.keep hc10)
    have HT10 := Lib.hid (HT9.out.keep hc10)
    have HC10 := Lib.hid (HC9.out.new hc10)
    have HCH10 := Lib.hid (HCH9.out.chg hc10 (fun _ h => by cases h))
    clear hfr hc10 HS9 HT9 HCH9
    go_wp2_with fail
    refine HJ.out.mono ?_
    rintro e w11 ⟨rfl, hc11⟩
    have HS11 := Lib.hid (HS10.out.keep hc11)
    have HT11 := Lib.hid (HT10.out.keep hc11)
    have HC11 := Lib.hid (HC10.out.new hc11)
    have HCH11 := Lib.hid (HCH10.out.chg hc11 (fun _ h => by cases h))
    clear hc11 HS10 HT10 HCH10 HJ
    go_wp2_with fail
    refine (seen_any HS11.out.dsk).mono ?_
    rintro e w12 ⟨rfl, hWS, hc12⟩
    have hsl := Dsk.lenS HS11.out.dsk
    have hsv := Dsk.le HS11.out.dsk
    have hcv := (Bs.of_all hWS (by omega)).str (P := Try.prog) 46 5 9 Try.underlying46 Try.underlying5 Try.underlying9
    have HS12 := Lib.hid (HS11.out.keep hc12)
    have HT12 := Lib.hid (HT11.out.keep hc12)
    have HC12 := Lib.hid (HC11.out.new hc12)
    have HCH12 := Lib.hid (HCH11.out.chg hc12 (fun _ h => by cases h))
    clear hc12 hWS hsl hsv HS11 HT11 HCH11
    go_wp2_with fail
    refine (used_any HS12.out).mono ?_
    rintro e w13 ⟨rfl, hc13⟩
    have HS13 := Lib.hid (HS12.out.keep hc13)
    have HT13 := Lib.hid (HT12.out.keep hc13)
    have HC13 := Lib.hid (HC12.out.new hc13)
    have HCH13 := Lib.hid (HCH12.out.chg hc13 (fun _ h => by cases h))
    clear hc13 hcv HS12 HT12 HCH12
    go_wp2_with fail
    refine (seq_any HS13.out).mono ?_
    rintro e w14 ⟨rfl, hc14⟩
    have HS14 := Lib.hid (HS13.out.keep hc14)
    have HT14 := Lib.hid (HT13.out.keep hc14)
    have HC14 := Lib.hid (HC13.out.new hc14)
    have HCH14 := Lib.hid (HCH13.out.chg hc14 (fun _ h => by cases h))
    clear hc14 HS13 HT13 HCH13
    go_wp2_with fail
    refine (checkpoint_any HS14.out (by have := HX.out.2.2; omega)).mono ?_
    rintro e w15 ⟨rfl, ⟨v15, hs15⟩, hc15⟩
    have HS15 := Lib.hid hs15
    have HT15 := Lib.hid (HTK.out _ _ hc15 HT14.out)
    have HC15 := Lib.hid (HC14.out.then_ hc15 (fun i hi hw => by have := (HFW.out _ hi).1; omega))
    have HCH15 := Lib.hid (HCH14.out.chg hc15 (by simp [SK.W, SK.D]))
    have HX15 := Lib.hid (show (ckV x).L = L ∧ (ckV x).P = 6 ∧ (ckV x).E ≤ 2 + (j + 1) ∧ (ckV x).used = 0 from ⟨HX.out.1, HX.out.2.1, by have := HX.out.2.2; show x.E + 1 ≤ _; omega, rfl⟩)
    have HIN15 := Lib.hid (show InL (ckV x).P ls from HIN.out)
    obtain ⟨s15, hse⟩ : ∃ s15, s15 = ckS s x := ⟨_, rfl⟩
    obtain ⟨x15, hxe⟩ : ∃ x15, x15 = ckV x := ⟨_, rfl⟩
    rw [← hse, ← hxe] at HS15
    rw [← hxe] at HX15 HIN15
    have HCO := Lib.hid (commit_any (d := cc) HS15.out HCH15.out HM.out.1.symm (by have := HM.out; omega))
    have HMOST := Lib.hid (show fitsB x15.L x15.used (m : Int) = decide ((m : Int) ≤ mostI (L : Int) 6) from by
      have h1 := HIN15.out.2.1
      have h2 : rightS (-1) (x15.P : Int) ls = true := by unfold rightB at h1; rw [Bool.and_eq_true] at h1; exact h1.2
      obtain ⟨h3, _⟩ := rs_len h2 (by omega)
      have h4 := HX15.out
      rw [h4.1, h4.2.2.2]
      exact fits_mostF ⟨hL1, hL12⟩ (by have := HM.out.1; omega))
    clear hs15 hc15 hse hxe HS14 HT14 HCH14
    go_wp2_with fail
    refine HCO.out.mono ?_
    rintro e w16 hO
    obtain ⟨r, s16, x16, v16, rfl, hr16, hs16, hL16, hP16, hE16, hc16⟩ : ∃ (r : Int) (s' : St) (x' : SV) (v' : Value), e = .returned (.int .i64 r) ∧ ((r = 0 ∧ decide ((m : Int) ≤ mostI (L : Int) 6) = true) ∨ (r = 24 ∧ decide ((m : Int) ≤ mostI (L : Int) 6) = false)) ∧ Sto w16 ⟨p, bL, bS, bW, g, gN, [pt]⟩ s' x' v' ∧ x'.L = L ∧ x'.P = 6 ∧ x'.E ≤ 2 + (j + 1) ∧ Chg (SK.W ⟨p, bL, bS, bW, g, gN, [pt]⟩) w15 w16 := by
      rcases hO with ⟨h0, _⟩ | ⟨_, hno, h1, hc⟩ | ⟨_, hyes, h1, ⟨v', hs'⟩, hc⟩
      · rw [HIN15.out.2.1] at h0; cases h0
      · rw [← HM.out.1, HMOST.out] at hno
        exact ⟨24, s15, x15, v15, h1, .inr ⟨rfl, hno⟩, HS15.out.keep hc, HX15.out.1, HX15.out.2.1, HX15.out.2.2.1, hc.sub (fun _ h => by cases h)⟩
      · rw [← HM.out.1, HMOST.out] at hyes
        exact ⟨0, _, _, v', h1, .inl ⟨rfl, hyes⟩, hs', HX15.out.1, HX15.out.2.1, HX15.out.2.2.1, hc⟩
    have HS16 := Lib.hid hs16
    have HT16 := Lib.hid (HTK.out _ _ hc16 HT15.out)
    have HC16 := Lib.hid (HC15.out.then_ hc16 (fun i hi hw => by have := (HFW.out _ hi).1; omega))
    have HX16 := Lib.hid (And.intro hL16 (And.intro hP16 hE16))
    have HR16 := Lib.hid hr16
    clear hO hr16 hs16 hL16 hP16 hE16 hc16 HCO HS15 HT15 HCH15 HMOST
    obtain ⟨mo, hmo0⟩ : ∃ mo, mo = mostI (L : Int) 6 := ⟨_, rfl⟩
    have HMO0 := Lib.hid hmo0
    rw [← hmo0] at HR16
    clear hmo0
    rcases HR16.out with ⟨rfl, hd⟩ | ⟨rfl, hd⟩
    · have hq : (m : Int) ≤ mo := of_decide_eq_true hd
      clear HR16 hd
      go_wp2_with fail
      refine (sroot_any HS16.out).mono ?_
      rintro e w17 ⟨rfl, hc17⟩
      have HS17 := Lib.hid (HS16.out.keep hc17)
      have HT17 := Lib.hid (HT16.out.keep hc17)
      have HC17 := Lib.hid (HC16.out.new hc17)
      rw [HX16.out.1, HX16.out.2.1]
      have hmo := rmost_any (w := w17) (L : Int) ((6 : Nat) : Int) (x16.E : Int) (by omega)
      rw [show ((6 : Nat) : Int) = 6 from rfl, ← HMO0.out] at hmo
      unfold rootV at hmo ⊢
      have HMO := Lib.hid hmo
      clear hc17 hmo HS16 HT16 HC16
      go_wp2_with fail
      refine HMO.out.mono ?_
      rintro e w18 ⟨rfl, hc18⟩
      have HS18 := Lib.hid (HS17.out.keep hc18)
      have HT18 := Lib.hid (HT17.out.keep hc18)
      have HC18 := Lib.hid (HC17.out.new hc18)
      clear hc18 HS17 HT17
      go_wp2_with fail
      go_roundw
      case rel => exact ⟨j + 1, by go_num, by omega, Lib.hid ⟨s16, x16, v16, a7, HS18.out, HX16.out.1, HX16.out.2.1, HX16.out.2.2, HT18.out⟩, HC18⟩
      case measure => simp [intOf]; omega
    · have hq : ¬ (m : Int) ≤ mo := of_decide_eq_false hd
      clear HR16 hd
      go_wp2_with fail
      refine (sroot_any HS16.out).mono ?_
      rintro e w17 ⟨rfl, hc17⟩
      have HS17 := Lib.hid (HS16.out.keep hc17)
      have HT17 := Lib.hid (HT16.out.keep hc17)
      have HC17 := Lib.hid (HC16.out.new hc17)
      rw [HX16.out.1, HX16.out.2.1]
      have hmo := rmost_any (w := w17) (L : Int) ((6 : Nat) : Int) (x16.E : Int) (by omega)
      rw [show ((6 : Nat) : Int) = 6 from rfl, ← HMO0.out] at hmo
      unfold rootV at hmo ⊢
      have HMO := Lib.hid hmo
      clear hc17 hmo HS16 HT16 HC16
      go_wp2_with fail
      refine HMO.out.mono ?_
      rintro e w18 ⟨rfl, hc18⟩
      have HS18 := Lib.hid (HS17.out.keep hc18)
      have HT18 := Lib.hid (HT17.out.keep hc18)
      have HC18 := Lib.hid (HC17.out.new hc18)
      clear hc18 HS17 HT17
      go_wp2_with fail
      go_roundw
      case rel => exact ⟨j + 1, by go_num, by omega, Lib.hid ⟨s16, x16, v16, a7, HS18.out, HX16.out.1, HX16.out.2.1, HX16.out.2.2, HT18.out⟩, HC18⟩
      case measure => simp [intOf]; omega
end
end Go.Proofs.Ytfhgnoajfipjdaa
