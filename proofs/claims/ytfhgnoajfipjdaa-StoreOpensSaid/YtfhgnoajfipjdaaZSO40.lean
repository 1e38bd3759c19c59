/-
  SO: LawStoreOpens.
-/
import Derived.Test.YtfhgnoajfipjdaaZSO38
import Derived.Test.YtfhgnoajfipjdaaZSO39
namespace Go.Proofs.Ytfhgnoajfipjdaa
open Go.RowKit
theorem Fr.lists {B : Nat} {w : World} {g n : Nat} {us : List Value} {ps : List (List UInt8)} (h : Fr B w g n us ps n) (h64 : ∀ l ∈ ps, l.length ≤ 1000) : Lists w us ps := by
  refine ⟨by rw [h.len, h.lenP], fun i v l hv hl => ?_⟩
  have hi : i < n := by rw [← h.lenP]; exact (List.getElem?_eq_some_iff.1 hl).1
  obtain ⟨x, h1, h2, _⟩ := h.at_ i hi l hl
  rw [hv] at h1
  injection h1 with h1
  exact ⟨_, _, _, h1, Bs.of_all h2 (by have := h64 l (List.mem_of_getElem? hl); omega)⟩
theorem i64_and3 (n : Int) : ∃ q : Nat, bits .and .i64 n 3 = (q : Int) ∧ q ≤ 3 := by
  have hb : (BitVec.ofInt 64 n &&& BitVec.ofInt 64 3).toNat ≤ 3 := by
    rw [BitVec.toNat_and]
    exact Nat.le_trans Nat.and_le_right (by decide)
  refine ⟨(BitVec.ofInt 64 n &&& BitVec.ofInt 64 3).toNat, ?_, hb⟩
  show IntKind.i64.wrap ((BitVec.ofInt 64 n &&& BitVec.ofInt 64 3).toNat : Int) = _
  rw [IntKind.wrap_i64]
  omega
section
variable {w : World} {A : Option Addr} {n c : Nat} {xs : List Int}
set_option maxHeartbeats 16000000 in
set_option maxRecDepth 100000 in
theorem storeOpens_any (hl : xs.length = n) (hs : Src w A (nms xs)) (hsp : 0 < n → ∀ ad, A = some ad → ad.spot = none ∧ ad.block < w.heap.size) (hr : ∀ x ∈ xs, -9223372036854775808 ≤ x ∧ x ≤ 9223372036854775807) (hnm : n ≤ 9223372036854775807) (times : Int) :
    Calls Try.prog 10 #[.slice A n c, .int .i64 times] w (LawPost w) := by
  have HXL := Lib.hid hl
  have HSR := Lib.hid hs
  have HSP := Lib.hid hsp
  have HXR := Lib.hid hr
  clear hl hs hsp hr
  go_enter Try.func10, Try.ntmps10
  go_wp2_with fail
  refine (new_int 40 (by omega) (by omega)).mono ?_
  rintro e w1 ⟨p, bL, bS, bW, rfl, hd1, hp, hbL, hbS, hbW, hc1⟩
  have HD1 := Lib.hid hd1
  have HC1 := Lib.hid hc1
  have HB := Lib.hid (show w.heap.size ≤ p ∧ w.heap.size ≤ bL ∧ w.heap.size ≤ bS ∧ w.heap.size ≤ bW from ⟨hp, hbL, hbS, hbW⟩)
  clear hd1 hc1 hp hbL hbS hbW
  go_wp2_with fail
  refine (format_any HD1.out 20 5).mono ?_
  rintro e w3 hF
  obtain ⟨rfl, hd3, hc3⟩ : e = .returned (.int .i64 0) ∧ DskS w3 p bL bS bW (fmt (St.new 40) 20 5) ∧ Chg [bL, bS, bW] w1 w3 := by
    rcases hF with ⟨_, h1, h2, h3⟩ | ⟨h0, _⟩
    · exact ⟨h1, h2, h3⟩
    · exact absurd h0 (by show ¬ rightR 20 5 1 (St.new 40).V.length = false; rw [newV]; decide)
  have hfr : ∀ i ∈ [bL, bS, bW], w.heap.size ≤ i := fun i hi => by
    have := HB.out
    simp only [List.mem_cons, List.not_mem_nil, or_false] at hi
    rcases hi with rfl | rfl | rfl <;> omega
  have HFR := Lib.hid hfr
  have HD3 := Lib.hid hd3
  have HC3 := Lib.hid (HC1.out.then_ hc3 (fun i hi hw => by have := HFR.out i hi; omega))
  clear hF hd3 hc3 hfr HD1
  go_wp2_with fail
  refine (opened_any (gd_new 40) 20 5 (by rw [newV]; decide) HD3.out).mono ?_
  rintro e w4 ⟨g, gN, v4, s4, x4, rfl, hg, hgN, hs4, hk4, hL4, hP4, hE4, hc4⟩
  have HG := Lib.hid (show w3.heap.size ≤ g ∧ w3.heap.size ≤ gN from ⟨hg, hgN⟩)
  have HC4 := Lib.hid (HC3.out.then_ hc4 (fun i hi hw => by have := HFR.out i hi; omega))
  have HS4 := Lib.hid hs4
  have HK4 := Lib.hid hk4
  have HX4 := Lib.hid (And.intro hL4 (And.intro hP4 hE4))
  clear hg hgN hs4 hk4 hL4 hP4 hE4 hc4 HD3
  go_upto_region 8 with fail
  have hal := (Chg.refl [] w4).alloc (.cells #[.slice A n c, .int .i64 0] 69)
  have hTW : Whole (w4.alloc (.cells #[.slice A n c, .int .i64 0] 69)) w4.heap.size 69 [.slice A n c, .int .i64 0] := Whole.new w4 69 [.slice A n c, .int .i64 0]
  obtain ⟨pt, hpt⟩ : ∃ g, g = w4.heap.size := ⟨_, rfl⟩
  rw [← hpt] at hTW ⊢
  generalize w4.alloc (.cells #[.slice A n c, .int .i64 0] 69) = w6 at hal hTW ⊢
  have HS6 := Lib.hid (HS4.out.more (q := pt) hal (by omega) hTW.lt)
  have HC6 := Lib.hid (HC4.out.new hal)
  have HPT := Lib.hid (show (∀ i ∈ [p, bL, bS, bW, g, gN], i ≠ pt) ∧ w.heap.size ≤ pt from ⟨fun i hi => by
    have h1 := HS4.out.lts i (by simp only [SK.D]; exact hi)
    omega, by have := HC4.out.size; omega⟩)
  have HT6 := Lib.hid (show Tp w6 pt A n c xs 0 from ⟨by simpa using hTW, HXL.out, HSR.out.keep HC6.out, fun h0 ad e => ⟨(HSP.out h0 ad e).1, by have h1 := (HSP.out h0 ad e).2; have h2 := HPT.out.2; omega⟩, HXR.out, Nat.zero_le _, hnm⟩)
  clear hal hTW hpt HS4
  have HFW := Lib.hid (show ∀ i ∈ SK.W ⟨p, bL, bS, bW, g, gN, [pt]⟩, w.heap.size ≤ i ∧ i ≠ pt from fun i hi => by
    have h0 := HPT.out.1
    have h1 := HB.out
    have h2 := HG.out
    have h3 := HC3.out.size
    simp only [SK.W, List.mem_cons, List.not_mem_nil, or_false] at hi
    rcases hi with rfl | rfl | rfl | rfl | rfl
    · exact ⟨by omega, h0 _ (by simp)⟩
    · exact ⟨by omega, h0 _ (by simp)⟩
    · exact ⟨by omega, h0 _ (by simp)⟩
    · exact ⟨by omega, h0 _ (by simp)⟩
    · exact ⟨by omega, h0 _ (by simp)⟩)
  go_wp2_with fail
  refine (changes_any HT6.out 5 (by omega)).mono ?_
  rintro e w7 ⟨vc, rfl, hso⟩
  obtain ⟨Ac, cc, ls, a7, rfl, hch, hin, hT7, hc7, hl7⟩ := chso_in hso (by omega) HS6.out.lts
  have HS7 := Lib.hid (HS6.out.past hc7 (by simp) HPT.out.1)
  have HC7 := Lib.hid (HC6.out.then_ hc7 (fun i hi hw => by simp only [List.mem_singleton] at hi; have := HPT.out.2; omega))
  have hin' : InL x4.P ls := by rw [HX4.out.2.1]; exact hin
  have HCK := Lib.hid (commit_keep (d := cc) HS7.out HK4.out hch hin')
  have HT7 := Lib.hid hT7
  generalize ls.length = n7 at HCK ⊢
  clear hso hch hin hT7 hc7 hl7 hin' HS6 HT6
  go_wp2_with fail
  refine HCK.out.mono ?_
  rintro e w8 ⟨r8, s8, x8, ms8, v8, rfl, hs8, hk8, hL8, hP8, hE8, hc8⟩
  have hAW : 0 < n → ∀ ad, A = some ad → ad.block ∉ SK.W ⟨p, bL, bS, bW, g, gN, [pt]⟩ := fun h0 ad e hm => by
    have h1 := (HFW.out _ hm).1
    have h2 := (HSP.out h0 ad e).2
    omega
  have HAW := Lib.hid hAW
  have HT8 := Lib.hid (show Tp w8 pt A n c xs a7 from { HT7.out with rec_ := HT7.out.rec_.chg hc8 (fun hm => (HFW.out _ hm).2 rfl), src := HT7.out.src.chg hc8 (fun h0 ad e => HAW.out (by rw [nms_len, HXL.out] at h0; exact h0) ad e) })
  have HS8 := Lib.hid hs8
  have HK8 := Lib.hid hk8
  have HC8 := Lib.hid (HC7.out.then_ hc8 (fun i hi hw => by have := (HFW.out _ hi).1; omega))
  have HX8 := Lib.hid (show x8.L = 20 ∧ x8.P = 5 ∧ x8.E = 2 from ⟨hL8.trans HX4.out.1, hP8.trans HX4.out.2.1, hE8.trans HX4.out.2.2⟩)
  clear hs8 hk8 hL8 hP8 hE8 hc8 hAW HT7 HS7 HCK HK4 HX4
  go_wp2_with fail
  refine (changes_any HT8.out 5 (by omega)).mono ?_
  rintro e w9 ⟨vc, rfl, hso⟩
  obtain ⟨Ae, ce, le, a9, rfl, hch, hin, hT9, hc9, hl9⟩ := chso_in hso (by omega) HS8.out.lts
  have HS9 := Lib.hid (HS8.out.past hc9 (by simp) HPT.out.1)
  have HC9 := Lib.hid (HC8.out.then_ hc9 (fun i hi hw => by simp only [List.mem_singleton] at hi; have := HPT.out.2; omega))
  have hin' : InL x8.P le := by rw [HX8.out.2.1]; exact hin
  have HCK := Lib.hid (commit_keep (d := ce) HS9.out HK8.out hch hin')
  generalize le.length = n9 at HCK ⊢
  clear hso hch hin hT9 hc9 hl9 hin' HS8 HT8
  go_wp2_with fail
  refine HCK.out.mono ?_
  rintro e w10 ⟨r10, s10, x10, ms10, v10, rfl, hs10, hk10, hL10, hP10, hE10, hc10⟩
  have HS10 := Lib.hid hs10
  have HC10 := Lib.hid (HC9.out.then_ hc10 (fun i hi hw => by have := (HFW.out _ hi).1; omega))
  have HX10 := Lib.hid (show x10.L = 20 ∧ x10.P = 5 ∧ x10.E = 2 from ⟨hL10.trans HX8.out.1, hP10.trans HX8.out.2.1, hE10.trans HX8.out.2.2⟩)
  have HK10 := Lib.hid hk10.flA
  clear hs10 hk10 hL10 hP10 hE10 hc10 HS9 HCK HK8 HX8
  go_wp2_with fail
  refine (sync_any HS10.out).mono ?_
  rintro e w11 ⟨rfl, hs11, hc11⟩
  have HS11 := Lib.hid hs11
  have HC11 := Lib.hid (HC10.out.then_ hc11 (fun i hi hw => by have := HFR.out i hi; omega))
  clear hs11 hc11 HS10
  go_wp2_with fail
  have h64 : ∀ l ∈ x10.pages, l.length ≤ 1000 := fun l hl => by have := HS11.out.p64 l hl; omega
  refine (sall_any HS11.out).mono ?_
  rintro e w12 ⟨gA, uA, rfl, hfr, hgA, hc12⟩
  have HJ := Lib.hid (join_any (c := x10.P) (Src.of_all hfr.row) (fun ad e => by injection e with e; subst e; rfl) hfr.len hfr.lenP (by have := HX10.out; omega) (hfr.lists h64) h64)
  have HC12 := Lib.hid (HC11.out.new hc12)
  have HS12 := Lib.hid (HS11.out.keep hc12)
  clear hfr hgA hc12 h64 HS11
  go_wp2_with fail
  refine HJ.out.mono ?_
  rintro e w13 ⟨rfl, hc13⟩
  have HC13 := Lib.hid (HC12.out.new hc13)
  have HS13 := Lib.hid (HS12.out.keep hc13)
  clear hc13 HS12 HJ
  go_wp2_with fail
  refine (sroot_any HS13.out).mono ?_
  rintro e w14 ⟨rfl, hc14⟩
  have HC14 := Lib.hid (HC13.out.new hc14)
  have HS14 := Lib.hid (HS13.out.keep hc14)
  rw [HX10.out.1, HX10.out.2.1, HX10.out.2.2]
  unfold rootV
  have hfe := epoch_of w14 (.int .i64 20) (.int .i64 5) (.int .u32 2)
  clear hc14 HS13
  have HD14 := Lib.hid HS14.out.dsk
  go_wp2_with fail
  obtain ⟨q3, hq3, hq3l⟩ := i64_and3 times
  have hw3 : wrap64 (1 + (q3 : Int)) = ((1 + q3 : Nat) : Int) := by first | (rw [wrap64_in (by omega) (by omega)]; omega) | (unfold wrap64; omega)
  go_loopw [10, 11] (fun ep i wr => ∃ j e1 : Nat, i = .int .i64 (j : Int) ∧ j ≤ 4 ∧ ep = .int .u32 (e1 : Int) ∧ Hid (e1 = 2 + j) ∧ Hid (∃ s' x' ms', DskS wr p bL bS bW (flA s') ∧ Kept (flA s') x' ms' ∧ x'.pages = x10.pages ∧ x'.L = 20 ∧ x'.P = 5 ∧ x'.E = 2 + j ∧ logB (flA s') 20 = logB (flA s10) 20) ∧ Hid (Chg [] w wr)) (fun _ i _ => 5 - (intOf i).toNat)
  case atStart => exact ⟨0, 2, rfl, by omega, rfl, Lib.hid rfl, Lib.hid ⟨s10, x10, ms10, HD14.out, HK10.out.k, rfl, HX10.out.1, HX10.out.2.1, HX10.out.2.2, rfl⟩, HC14⟩
  case round =>
    obtain ⟨j, e1, rfl, hj, rfl, HE1, HKr, HCr⟩ := hrel
    by_cases hlt : j < 1 + q3
    rotate_left
    · have hjI : ¬ (j : Int) < ((1 + q3 : Nat) : Int) := by omega
      clear hq3l hlt
      go_wp2_with fail
      refine known18.mono ?_
      rintro e wk ⟨rfl, hck⟩
      have HCk := Lib.hid (HCr.out.new hck)
      clear hck
      go_wp2_with fail
      go_ret
      exact ⟨rfl, HCk.out⟩
    have hjI : (j : Int) < ((1 + q3 : Nat) : Int) := by omega
    obtain ⟨s', x', ms', hd', hk', hpg, hxL, hxP, hxE, hlog⟩ := HKr.out
    have HK' := Lib.hid hk'
    have HD' := Lib.hid hd'
    have HX' := Lib.hid (And.intro hpg (And.intro hxL (And.intro hxP (And.intro hxE hlog))))
    clear HKr hd' hk' hpg hxL hxP hxE hlog
    go_wp2_with fail
    refine (crash_flA HD'.out).mono ?_
    rintro e w20 ⟨rfl, hd20, hc20⟩
    have HC20 := Lib.hid (HCr.out.then_ hc20 (fun i hi hw => by have := HFR.out i hi; omega))
    have hno : ¬ readOk (logB (flA s') x'.L) (x'.E + 1) 0 := by
      have hz := HK10.out.z
      rw [HX10.out.1, HX10.out.2.1, HX10.out.2.2] at hz
      rw [HX'.out.2.1, HX'.out.2.2.2.2]
      exact hz.other (by omega) (by omega) (by have := HX'.out.2.2.2.1; omega)
    have HAG := Lib.hid (again_any hd20 HK'.out hno (by have := HX'.out.2.2.2.1; omega))
    clear hd20 hc20 hno HD'
    go_wp2_with fail
    refine HAG.out.mono ?_
    rintro e w21 ⟨g2, gN2, v21, s2, x2, rfl, _, _, hs21, hk21, hp21, hL21, hP21, hE21, hu21, hq21, hlog21, hc21⟩
    have HC21 := Lib.hid (HC20.out.then_ hc21 (fun i hi hw => by have := HFR.out i hi; omega))
    have HS21 := Lib.hid hs21
    have HD21 := Lib.hid hs21.dsk
    have HK21 := Lib.hid hk21
    have hpp : x2.pages = x10.pages := hp21.trans HX'.out.1
    have hPP : x2.P = 5 := hP21.trans HX'.out.2.2.1
    have hLL : x2.L = 20 := hL21.trans HX'.out.2.1
    have hEE : x2.E = 2 + (j + 1) := by rw [hE21, HX'.out.2.2.2.1]; omega
    have hGG : logB (flA s2) 20 = logB (flA s10) 20 := by
      rw [← HX'.out.2.2.2.2, ← HX'.out.2.1]; exact hlog21
    have HX2 := Lib.hid (And.intro hpp (And.intro hLL (And.intro hPP (And.intro hEE hGG))))
    have HUQ := Lib.hid (And.intro hu21 hq21)
    clear hs21 hk21 hp21 hL21 hP21 hE21 hu21 hq21 hlog21 hc21 hpp hPP hLL hEE hGG HAG HK' HX'
    go_wp2_with fail
    have h64 : ∀ l ∈ x2.pages, l.length ≤ 1000 := fun l hl => by have := HS21.out.p64 l hl; omega
    refine (sall_any HS21.out).mono ?_
    rintro e w22 ⟨gB, uB, rfl, hfr, hgB, hc22⟩
    have HJ := Lib.hid (join_any (c := x2.P) (Src.of_all hfr.row) (fun ad e => by injection e with e; subst e; rfl) hfr.len hfr.lenP (by have := HX2.out; omega) (hfr.lists h64) h64)
    have HC22 := Lib.hid (HC21.out.new hc22)
    have HS22 := Lib.hid (HS21.out.keep hc22)
    have HD22 := Lib.hid (Dsk.keep HD21.out hc22)
    clear hfr hgB hc22 h64 HS21 HD21
    go_wp2_with fail
    refine HJ.out.mono ?_
    rintro e w23 ⟨rfl, hc23⟩
    rw [HX2.out.1]
    have HC23 := Lib.hid (HC22.out.new hc23)
    have HS23 := Lib.hid (HS22.out.keep hc23)
    have HD23 := Lib.hid (Dsk.keep HD22.out hc23)
    clear hc23 HS22 HD22 HJ
    go_wp2_with fail
    refine (sroot_any HS23.out).mono ?_
    rintro e w24 ⟨rfl, hc24⟩
    have HC24 := Lib.hid (HC23.out.new hc24)
    have HS24 := Lib.hid (HS23.out.keep hc24)
    have HD24 := Lib.hid (Dsk.keep HD23.out hc24)
    rw [HX2.out.2.1, HX2.out.2.2.1, HX2.out.2.2.2.1]
    unfold rootV
    obtain ⟨e3, he3⟩ : ∃ e3, e3 = 2 + (j + 1) := ⟨_, rfl⟩
    have HE3 := Lib.hid he3
    have hwE : IntKind.u32.wrap ((e1 : Int) + 1) = (e3 : Int) := by have := HE1.out; rw [IntKind.wrap_u32]; omega
    rw [← he3]
    have hfe := epoch_of w24 (.int .i64 20) (.int .i64 5) (.int .u32 (e3 : Int))
    clear hc24 HS23 HD23 he3
    go_wp2_with fail
    refine (used_any HS24.out).mono ?_
    rintro e w25 ⟨rfl, hc25⟩
    have HC25 := Lib.hid (HC24.out.new hc25)
    have HS25 := Lib.hid (HS24.out.keep hc25)
    have HD25 := Lib.hid (Dsk.keep HD24.out hc25)
    rw [HUQ.out.1, show ((0 : Nat) : Int) = 0 from rfl]
    clear hc25 HS24 HD24 hfe
    go_wp2_with fail
    refine (seq_any HS25.out).mono ?_
    rintro e w26 ⟨rfl, hc26⟩
    have HC26 := Lib.hid (HC25.out.new hc26)
    have HD26 := Lib.hid (Dsk.keep HD25.out hc26)
    rw [HUQ.out.2, show ((0 : Nat) : Int) = 0 from rfl]
    clear hc26 HS25 HD25
    go_wp2_with fail
    go_roundw
    case rel => exact ⟨j + 1, e3, by go_num, by omega, rfl, HE3, Lib.hid ⟨s2, x2, [], HD26.out, HK21.out, HX2.out⟩, HC26⟩
    case measure => simp [intOf]; omega
end
end Go.Proofs.Ytfhgnoajfipjdaa
