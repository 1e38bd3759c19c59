/-
  E: Heal3, Made1, LawHealA.
-/
import Derived.Test.YtddjgncdjdjgeaaGreatZE6
import Derived.Test.YtddjgncdjdjgeaaGreatZE10
import Derived.Test.YtddjgncdjdjgeaaGreatZE12
import Derived.Test.YtddjgncdjdjgeaaGreatZE30
import Derived.Test.YtddjgncdjdjgeaaGreatZE31
import Derived.Test.YtddjgncdjdjgeaaGreatZE33
import Derived.Test.YtddjgncdjdjgeaaGreatZE34
import Derived.Test.YtddjgncdjdjgeaaGreatZE37
namespace Go.Proofs.YtddjgncdjdjgeaaGreat
open Go.RowKit
theorem recF_64 (P : Int) : ∀ (rs : List (List UInt8)), ∀ m ∈ (recF P rs).1, ∀ a ∈ m, a.B.length = 64
  | [], m, h => by simp [recF] at h
  | b :: rs, m, h => by
    rw [recF] at h
    split at h
    · rename_i hok
      rcases List.mem_cons.1 h with rfl | h
      · intro a ha
        unfold recM chsOf at ha
        obtain ⟨k, hk, rfl⟩ := List.mem_map.1 ha
        have hk' := List.mem_range.1 hk
        have h1 := hok.2.1
        show ((b.drop (2 + k * 66 + 2)).take 64).length = 64
        rw [List.length_take, List.length_drop]
        omega
      · exact recF_64 P rs m h
    · simp at h
theorem okD_op {s : St} (h : Gd s) : ∀ d ∈ opDs s, okD s.V.length d := by
  intro d hd
  unfold opDs at hd
  split at hd
  · rename_i hok
    have hr := (bestK_right s.V.length s.S 2).resolve_left (by omega)
    have hr2 := rightR_true.1 hr
    generalize bestK s.V.length s.S 2 = o at hd hok hr hr2
    have h1 : (openV s o).L = o.log ∧ (openV s o).P = o.pages ∧ (openV s o).E = o.epoch := ⟨(turn_same _ _).1, (turn_same _ _).2.1, (turn_same _ _).2.2.1⟩
    refine okD_ck (x := openV s o) (by rw [h1.1, h1.2.1, h1.2.2]; exact hr) ?_ ?_ d hd
    · rw [h1.2.1]
      exact (fold_lens _ _).1.trans (pagesL_len _ _ _)
    · refine fold_64 _ _ (pagesL_64 h _ _ (by omega)) (fun m hm a ha => ?_)
      exact recF_64 _ _ m hm a ha
  · cases hd
theorem DdV.slice {w : World} {B : Nat} {d : Deed} {u : Value} (h : DdV w B d u) : ∃ A n c, u = .slice A n c := by
  cases d with
  | none => exact ⟨none, 0, 0, h⟩
  | some x =>
    obtain ⟨A, c, e, _⟩ := own_slice h
    exact ⟨A, _, c, e⟩
def DoPost (w : World) (p bL bS bW : Nat) (s : St) (e : Ending) (w' : World) : Prop := e = .returned (.tuple #[]) ∧ DskS w' p bL bS bW s ∧ Chg [bL, bS, bW] w w'
section
variable {w : World} {p bL bS bW B : Nat} {s : St}
set_option maxHeartbeats 2000000 in
set_option maxRecDepth 100000 in
theorem do_any (h : DskS w p bL bS bW s) (d : Deed) (u : Value) (hu : DdV w B d u) (hok : okD s.V.length d) :
    Calls Tryz.prog 86 #[.agg #[.bool d.isNone, .int .i64 (keyD d : Int), u], .pointer (some ⟨p, 0, none⟩)] w (DoPost w p bL bS bW (dOne s d)) := by
  cases d with
  | none =>
    have hu' : u = .slice none 0 0 := hu
    subst hu'
    have H := Lib.hid h
    clear h hu hok
    show Calls Tryz.prog 86 #[.agg #[.bool true, .int .i64 0, .slice none 0 0], .pointer (some ⟨p, 0, none⟩)] w _
    go_enter Tryz.func86, Tryz.ntmps86
    go_upto_region 1 with fail
    have hX := Whole.new w 119 [.bool true, .int .i64 0, .slice none 0 0]
    have hal := (Chg.refl [] w).alloc (.cells #[.bool true, .int .i64 0, .slice none 0 0] 119)
    have HD := Lib.hid (Dsk.keep H.out hal)
    have HC := Lib.hid hal
    generalize w.heap.size = gx at hX ⊢
    generalize w.alloc (.cells #[.bool true, .int .i64 0, .slice none 0 0] 119) = w1 at hX HD HC ⊢
    have x0 := hX.cell 0
    clear hX hal
    go_wp2_with fail
    refine (flush_any HD.out).mono ?_
    rintro e w2 ⟨rfl, hd2, hc2⟩
    have HP := Lib.hid (show DoPost w p bL bS bW (dOne s none) (.returned (.tuple #[])) w2 from ⟨rfl, hd2, (HC.out.sub (T' := [bL, bS, bW]) (fun _ h => by cases h)).trans hc2⟩)
    clear hd2 hc2 x0
    go_wp2_with fail
    go_end0
    exact HP.out
  | some y =>
    obtain ⟨k, l⟩ := y
    obtain ⟨hk, hl⟩ := hok
    have hk' : k < s.V.length := hk
    have hl' : l.length = 64 := hl
    have hu' : w.ownsRow B 5 1 u l.length (bts l) := hu
    rw [hl'] at hu'
    obtain ⟨A, c, rfl, _, _, hs, _⟩ := own_slice hu'
    have H := Lib.hid h
    have HS := Lib.hid hs
    have HK := Lib.hid (And.intro hk' hl')
    clear h hu hu' hk hl hk' hl' hs
    show Calls Tryz.prog 86 #[.agg #[.bool false, .int .i64 (k : Int), .slice A 64 c], .pointer (some ⟨p, 0, none⟩)] w _
    go_enter Tryz.func86, Tryz.ntmps86
    go_upto_region 1 with fail
    have hX := Whole.new w 119 [.bool false, .int .i64 (k : Int), .slice A 64 c]
    have hal := (Chg.refl [] w).alloc (.cells #[.bool false, .int .i64 (k : Int), .slice A 64 c] 119)
    have HD := Lib.hid (Dsk.keep H.out hal)
    have HC := Lib.hid hal
    have HS1 := Lib.hid (HS.out.keep hal)
    generalize w.heap.size = gx at hX ⊢
    generalize w.alloc (.cells #[.bool false, .int .i64 (k : Int), .slice A 64 c] 119) = w1 at hX HD HC HS1 ⊢
    have x0 := hX.cell 0
    have x1 := hX.cell 1
    have x2 := hX.cell 2
    clear hX hal
    go_wp2_with fail
    refine (write_yes HD.out k HK.out.1 HK.out.2 HS1.out).mono ?_
    rintro e w2 ⟨rfl, hd2, hc2⟩
    have HP := Lib.hid (show DoPost w p bL bS bW (dOne s (some (k, l))) (.returned (.tuple #[])) w2 from ⟨rfl, hd2, (HC.out.sub (T' := [bL, bS, bW]) (fun _ h => by cases h)).trans (hc2.sub (by simp))⟩)
    clear hd2 hc2 x0 x1 x2
    go_wp2_with fail
    go_end0
    exact HP.out
def clampN (n : Int) (m : Nat) : Nat := min n.toNat m
def PartPost (w : World) (p bL bS bW : Nat) (s : St) (n : Int) (e : Ending) (w' : World) : Prop :=
  e = .returned (.int .i64 ((clampN n (opDs s).length : Nat) : Int)) ∧ DskS w' p bL bS bW (doD s ((opDs s).take (clampN n (opDs s).length))) ∧ Chg [bL, bS, bW] w w'
set_option maxHeartbeats 4000000 in
set_option maxRecDepth 100000 in
theorem hdeeds_any (h : DskS w p bL bS bW s) : Calls Tryz.prog 34 #[.pointer (some ⟨p, 0, none⟩)] w fun e w' => e = .returned (.int .i64 ((opDs s).length : Int)) ∧ Chg [] w w' := by
  have HD := Lib.hid (deeds_any h)
  clear h
  go_enter Tryz.func34, Tryz.ntmps34
  go_wp2_with fail
  refine HD.out.mono ?_
  rintro e w1 ⟨v, rfl, ⟨zs, hz1, hz2, _⟩, hc⟩
  obtain ⟨A, c, rfl, _⟩ := rown_slice hz2
  have HC := Lib.hid hc
  obtain ⟨n, hn⟩ : ∃ n, n = (opDs s).length := ⟨_, rfl⟩
  have HN := Lib.hid hn
  rw [← hn]
  clear hz1 hz2 hc hn
  go_wp2_with fail
  go_ret
  exact ⟨by rw [← HN.out]; rfl, HC.out⟩
set_option maxHeartbeats 4000000 in
set_option maxRecDepth 100000 in
theorem hdeeds_nil : Calls Tryz.prog 34 #[.pointer none] w fun e w' => e = .returned (.int .i64 0) ∧ Chg [] w w' := by
  have HN := Lib.hid (show ∀ W : World, Calls Tryz.prog 82 #[.pointer none] W fun e w' => e = .returned (.slice none 0 0) ∧ W = w' from fun W => by
    go_enter Tryz.func82, Tryz.ntmps82
    go_wp2_with fail
    go_ret
    exact ⟨rfl, rfl⟩)
  go_enter Tryz.func34, Tryz.ntmps34
  go_wp2_with fail
  refine (HN.out w).mono ?_
  rintro e w1 ⟨rfl, rfl⟩
  go_wp2_with fail
  go_ret
  exact ⟨rfl, Chg.refl _ _⟩
theorem doD_take (s : St) (ds : List Deed) (j : Nat) (d : Deed) (h : ds[j]? = some d) : doD s (ds.take (j + 1)) = dOne (doD s (ds.take j)) d := by
  obtain ⟨hj, he⟩ := List.getElem?_eq_some_iff.1 h
  unfold doD
  rw [List.take_succ_eq_append_getElem hj, List.foldl_append, he]; rfl
set_option maxHeartbeats 8000000 in
set_option maxRecDepth 100000 in
theorem part_any (h : DskS w p bL bS bW s) (n : Int) :
    Calls Tryz.prog 37 #[.pointer (some ⟨p, 0, none⟩), .int .i64 n] w (PartPost w p bL bS bW s n) := by
  have HD := Lib.hid (deeds_any h)
  have HOK := Lib.hid (okD_op (s := s) (Dsk.lenS h))
  have H := Lib.hid h
  have HLT := Lib.hid (show bL < w.heap.size ∧ bS < w.heap.size ∧ bW < w.heap.size from ⟨(Dsk.last h).lt, (Dsk.seen h).lt, (Dsk.wait h).lt⟩)
  clear h
  go_enter Tryz.func37, Tryz.ntmps37
  go_wp2_with fail
  refine HD.out.mono ?_
  rintro e w1 ⟨v, rfl, ⟨zs, hz1, hz2, hz3⟩, hc1⟩
  have HH := Lib.hid (show DskS w1 p bL bS bW (doD s ((opDs s).take 0)) from Dsk.keep H.out hc1)
  have HC1 := Lib.hid (show Chg [bL, bS, bW] w w1 from hc1.sub (fun _ h => by cases h))
  obtain ⟨A, c, rfl, hnc, hcm, hA⟩ := rown_slice hz2
  have HA := Lib.hid hA
  have HO := Lib.hid hz2
  have HZ := Lib.hid (And.intro hz1 hz3)
  have HSZ := Lib.hid hc1.size
  obtain ⟨m, hm⟩ : ∃ m, m = (opDs s).length := ⟨_, rfl⟩
  obtain ⟨q, hq⟩ : ∃ q, q = clampN n m := ⟨_, rfl⟩
  have HM := Lib.hid hm
  have HQ := Lib.hid (show q = clampN n m from hq)
  rw [← hm] at HO hnc ⊢
  have hqm : q ≤ m := by rw [hq]; exact Nat.min_le_right _ _
  obtain ⟨z, hz⟩ : ∃ z : Nat, z = n.toNat := ⟨_, rfl⟩
  have e1 : max n 0 = (z : Int) := by omega
  have e2 : min (z : Int) (m : Int) = (q : Int) := by rw [hq]; unfold clampN; omega
  have e3 : (q : Int) ≤ (c : Int) := by omega
  have e4 : q ≤ c := by omega
  clear hz1 hz2 hz3 hc1 hA hm hq hz HD
  go_wp2_with fail
  clear e1 e2
  go_loopw [19] (fun i wr => ∃ j : Nat, i = .int .i64 (j : Int) ∧ j ≤ q ∧ Hid (DskS wr p bL bS bW (doD s ((opDs s).take j))) ∧ Hid (Chg [bL, bS, bW] w1 wr)) (fun i _ => q - (intOf i).toNat)
  case atStart => exact ⟨0, rfl, Nat.zero_le _, HH, Lib.hid (Chg.refl _ _)⟩
  case round =>
    obtain ⟨j, rfl, hj, HDr, HCr⟩ := hrel
    clear HH
    by_cases hlt : j < q
    · have hjI : (j : Int) < (q : Int) := by omega
      have hj0 : (0 : Int) ≤ (j : Int) := by omega
      have hjz : j < zs.length := by have h1 := congrArg List.length HZ.out.1; rw [List.length_map, ← HM.out] at h1; omega
      have hT : ∀ i ∈ [bL, bS, bW], i < w.heap.size ∨ w1.heap.size ≤ i := fun i hi => by
        have := HLT.out
        simp only [List.mem_cons, List.not_mem_nil, or_false] at hi
        rcases hi with rfl | rfl | rfl <;> omega
      have hOr := rown_chg HO.out HCr.out hT
      obtain ⟨z, hz⟩ : ∃ z, zs[j]? = some z := ⟨zs[j], List.getElem?_eq_getElem hjz⟩
      obtain ⟨g0, g1, g2⟩ := dd_get zs j z hz
      obtain ⟨ga, rfl, k0⟩ := rown_cell hOr rfl g0
      obtain ⟨gb, eb, k1⟩ := rown_cell hOr rfl g1
      obtain ⟨gc, ec, k2⟩ := rown_cell hOr rfl g2
      injection eb with eb; injection eb with eb; subst eb
      injection ec with ec; injection ec with ec; subst ec
      have hdv := (HZ.out.2 z (List.mem_of_getElem? hz)).chg HCr.out hT
      have hds : (opDs s)[j]? = some z.1 := by rw [← HZ.out.1, List.getElem?_map, hz]; rfl
      have HTK := Lib.hid (doD_take s (opDs s) j z.1 hds)
      have hok := HOK.out z.1 (List.mem_of_getElem? hds)
      have h1c := hdv.one
      obtain ⟨d, u⟩ := z
      simp only at g0 g1 g2 k0 k1 k2 hdv hds HTK hok h1c
      have HDV := Lib.hid hdv
      have HOKD := Lib.hid (show okD (doD s ((opDs s).take j)).V.length d from by rw [doD_len]; exact hok)
      obtain ⟨sd, hsd⟩ : ∃ sd, sd = doD s ((opDs s).take j) := ⟨_, rfl⟩
      rw [← hsd] at HDr HTK HOKD
      clear hOr hz g0 g1 g2 hdv hds hok hjz hT hsd
      obtain ⟨Au, nu, cu, rfl⟩ := HDV.out.slice
      obtain ⟨bn, hbn⟩ : ∃ bn, bn = d.isNone := ⟨_, rfl⟩
      obtain ⟨kn, hkn⟩ : ∃ kn, kn = keyD d := ⟨_, rfl⟩
      have HBK := Lib.hid (And.intro hbn hkn)
      rw [← hbn] at k0
      rw [← hkn] at k1
      clear h1c hbn hkn
      go_upto_region 6 with fail
      have hX := Whole.new wr 119 [.bool bn, .int .i64 (kn : Int), .slice Au nu cu]
      have hal := (Chg.refl [] wr).alloc (.cells #[.bool bn, .int .i64 (kn : Int), .slice Au nu cu] 119)
      have hd2 := Dsk.keep HDr.out hal
      have hdv2 := HDV.out.keep hal
      have HC2 := Lib.hid (HCr.out.new hal)
      have hDO := do_any hd2 d _ hdv2 HOKD.out
      rw [← HBK.out.1, ← HBK.out.2] at hDO
      have HDO := Lib.hid hDO
      generalize wr.heap.size = gx at hX ⊢
      generalize wr.alloc (.cells #[.bool bn, .int .i64 (kn : Int), .slice Au nu cu] 119) = w2 at hX HC2 HDO ⊢
      have x0 := hX.cell 0
      have x1 := hX.cell 1
      have x2 := hX.cell 2
      clear hX hal hd2 hdv2 hDO k0 k1 k2
      go_wp2_with fail
      refine HDO.out.mono ?_
      rintro e w3 ⟨rfl, hd3, hc3⟩
      have HD3 := Lib.hid (show DskS w3 p bL bS bW (doD s ((opDs s).take (j + 1))) from by rw [HTK.out]; exact hd3)
      have HC3 := Lib.hid (HC2.out.trans hc3)
      clear hd3 hc3 x0 x1 x2
      go_wp2_with fail
      go_roundw
      case rel => exact ⟨j + 1, by go_num, by omega, HD3, HC3⟩
      case measure => simp [intOf]; omega
    · obtain rfl : q = j := by omega
      have hjI : ¬ (q : Int) < (q : Int) := by omega
      have HP := Lib.hid (show PartPost w p bL bS bW s n (.returned (.int .i64 (q : Int))) wr from by
        unfold PartPost
        rw [← HM.out, ← HQ.out]
        exact ⟨rfl, HDr.out, HC1.out.trans HCr.out⟩)
      go_wp2_with fail
      go_ret
      exact HP.out
end
end Go.Proofs.YtddjgncdjdjgeaaGreat
namespace Go.Proofs.YtddjgncdjdjgeaaGreat
open Go.RowKit
theorem Crs.either {s : St} (h : Eqn s) (ws : List Nat) (cuts : List Int) (hw : ∀ k ∈ ws, k < s.V.length) (hcut : ∀ i, cutAt cuts i ≤ 64) : ∀ i, i ≤ ws.length → ∀ j : Nat, ((s.crash ws cuts i).S[j]? = s.S[j]? ∨ (s.crash ws cuts i).S[j]? = s.L[j]?) ∧ ((s.crash ws cuts i).L[j]? = s.S[j]? ∨ (s.crash ws cuts i).L[j]? = s.L[j]?)
  | 0, _, j => ⟨.inl rfl, .inr rfl⟩
  | i + 1, hi, j => by
    obtain ⟨h1, h2⟩ := Crs.either h ws cuts hw hcut i (by omega) j
    have ih := Crs.crash h ws cuts hw hcut i (by omega)
    have hk : ws.getD i 0 ∈ ws := by rw [List.getD_eq_getElem?_getD, List.getElem?_eq_getElem (by omega)]; exact List.getElem_mem _
    have hkv : ws.getD i 0 < (s.crash ws cuts i).V.length := by rw [ih.v]; exact hw _ hk
    show (((s.crash ws cuts i).settle (ws.getD i 0) (cutAt cuts i)).S[j]? = _ ∨ ((s.crash ws cuts i).settle (ws.getD i 0) (cutAt cuts i)).S[j]? = _) ∧ (((s.crash ws cuts i).settle (ws.getD i 0) (cutAt cuts i)).L[j]? = _ ∨ ((s.crash ws cuts i).settle (ws.getD i 0) (cutAt cuts i)).L[j]? = _)
    rw [settle_S ih.eq hkv (hcut i), settle_L ih.eq hkv (hcut i)]
    constructor
    · split
      · exact h2
      · exact h1
    · split
      · exact h1
      · exact h2
/-- .. with the roots that lie there, and how the log begins. -/
structure KeptM (s : St) (x : SV) (ms : List (List ChV)) (u : Nat) : Prop where
  k : KeptS s x ms u
  z4 : (∀ j : Nat, j < 4 → s.L[128 + j]? = some 0) ∨ 4 ≤ u
  r1 : secV s 1 = rootL x.L x.P 1
  r0 : secV s 0 = rootL x.L x.P 2
  e : x.E = 2
theorem flA_L {s : St} (h : Sa s) : (flA s).L = s.S := by rw [flA_is h]
theorem KeptM.flA {s : St} {x : SV} {ms : List (List ChV)} {u : Nat} (h : KeptM s x ms u) : KeptM (flA s) x ms x.used := by
  refine ⟨h.k.flA, ?_, (secV_flA _ _).trans h.r1, (secV_flA _ _).trans h.r0, h.e⟩
  have hz := h.k.k.z.z
  have h1 := rightR_true.1 h.k.k.z.k.rt
  cases ms with
  | nil =>
    refine .inl fun j hj => ?_
    rw [flA_L h.k.sa]
    have hl := hz.log
    have h3 : (frsL x.E 0 []).length = 0 := rfl
    have hl2 : (logB s x.L)[j]? = some 0 := by
      rw [hl]
      show ([] ++ zeros (x.L * 64 - x.used))[j]? = _
      have h4 := hz.len
      rw [h3] at h4
      rw [List.nil_append, zeros, List.getElem?_replicate, if_pos (by omega)]
    unfold logB at hl2
    rw [List.getElem?_take, if_pos (by omega), List.getElem?_drop] at hl2
    exact hl2
  | cons m ms =>
    have h3 := frsL_ge x.E (m :: ms) 0
    have h4 := hz.len
    rw [List.length_cons] at h3
    exact .inr (by omega)
theorem KeptM.com {s : St} {x : SV} {ms : List (List ChV)} {u : Nat} {m : List ChV} (h : KeptM s x ms u) (hm : InL x.P m) (hf : x.used + (18 + 66 * m.length) ≤ x.L * 64) : KeptM (comS s x m) (comV x m) (ms ++ [m]) u := by
  have h1 := rightR_true.1 h.k.k.z.k.rt
  have hl : (comL x m).length = 18 + 66 * m.length := by unfold comL; rw [frameL_len, back_len hm.1]; omega
  have h2 := h.k.k.eq.lenS
  exact ⟨h.k.com hm hf, h.z4, (secV_apS (by omega) 1 (by omega)).trans h.r1, (secV_apS (by omega) 0 (by omega)).trans h.r0, h.e⟩
theorem flA_LS {s : St} (h : Sa s) : (flA s).L = (flA s).S := by rw [flA_is h]
theorem ckS_LS {s : St} (h : Sa s) {x : SV} (hr : rightR x.L x.P x.E s.V.length = true) (hp : x.pages.length = x.P) (h64 : ∀ l ∈ x.pages, l.length = 64) : (ckS s x).L = (ckS s x).S := by
  have h1 := rightR_true.1 hr
  exact flA_LS (((h.flA.homeN (by rw [flA_len]; exact hr) hp h64 x.P (Nat.le_refl _)).flA).write (by rw [flA_len, homeN_len, flA_len]; omega) (rootL_len _ _ _))
theorem logB_get {s : St} {L j : Nat} (hj : j < L * 64) : (logB s L)[j]? = s.S[128 + j]? := by
  unfold logB
  rw [List.getElem?_take, if_pos hj, List.getElem?_drop]
theorem keptM_new {s : St} (h : Eqn s) (hs : Sa s) (L P : Nat) (hr : rightR L P 1 s.V.length = true) : KeptM (ckS (fmt s L P) (openV (fmt s L P) ⟨L, P, 1⟩)) (ckV (openV (fmt s L P) ⟨L, P, 1⟩)) [] 0 := by
  have h1 := rightR_true.1 hr
  have hS := keptS_new h hs L P hr
  obtain ⟨hk, _⟩ := kept_fmt h.lenS L P hr
  obtain ⟨o1, o2, o3, o4, o5⟩ := hk.open_
  obtain ⟨l1, l2, l3⟩ := hk.lens
  have hgf := hk.gd
  have hsa := hs.fmt L P (by omega)
  have o3' : (openV (fmt s L P) ⟨L, P, 1⟩).L = L := o3
  have o4' : (openV (fmt s L P) ⟨L, P, 1⟩).P = P := o4
  have o5' : (openV (fmt s L P) ⟨L, P, 1⟩).E = 1 := o5
  have o1' : (openV (fmt s L P) ⟨L, P, 1⟩).pages = (homeV (fmt s L P) ⟨L, P, 1⟩).pages := o1
  clear o1 o2 o3 o4 o5
  generalize openV (fmt s L P) ⟨L, P, 1⟩ = x at *
  have hr' : rightR x.L x.P x.E (fmt s L P).V.length = true := by rw [o3', o4', o5', fmt_len]; exact hr
  have hp' : x.pages.length = x.P := by rw [o4']; exact (congrArg List.length o1').trans l1
  have h64 : ∀ l ∈ x.pages, l.length = 64 := fun l hl => l3 l (by rw [← o1']; exact hl)
  have hsec := secV_ckS hgf hr' hp' h64
  have hf := secV_fmt h.lenS L P (by omega)
  have hLS := ckS_LS hsa hr' hp' h64
  refine ⟨hS, .inl fun j hj => ?_, ?_, ?_, by show x.E + 1 = 2; rw [o5']⟩
  · have hl := hS.k.z.z.log
    have e : (ckV x).L = L := o3'
    rw [e] at hl
    rw [hLS, ← logB_get (L := L) (by omega), hl]
    show ([] ++ zeros (L * 64 - 0))[j]? = _
    rw [List.nil_append, zeros, List.getElem?_replicate, if_pos (by omega)]
  · rw [hsec 1, o5', if_neg (by decide), if_neg (by omega), hf 1 (by omega), if_pos rfl]
    show _ = rootL x.L x.P 1
    rw [o3', o4']
  · rw [hsec 0, o5', if_pos (by decide)]; rfl
/-- A disk behind a crash. -/
def MadeI (n : Nat) (l : List UInt8) : Prop := ∃ (s : St) (x : SV) (ms : List (List ChV)) (u : Nat), KeptM s x ms u ∧ s.V.length = n ∧ l.length = 64 * n ∧ Crs s ⟨l, l, falses n⟩ (wl s.V s.V.length) ∧ ∀ j : Nat, l[j]? = s.S[j]? ∨ l[j]? = s.L[j]?
theorem KeptM.made {s : St} {x : SV} {ms : List (List ChV)} {u : Nat} (h : KeptM s x ms u) (cuts : List Int) : ∃ l, s.crash (wl s.V s.V.length) cuts (wl s.V s.V.length).length = ⟨l, l, falses s.V.length⟩ ∧ MadeI s.V.length l := by
  obtain ⟨l, hl, he⟩ := h.k.sa.crash cuts
  have hw : ∀ k ∈ wl s.V s.V.length, k < s.V.length := fun k hk => ((wl_mem s.V s.V.length k).1 hk).1
  have h1 := Crs.crash h.k.k.eq (wl s.V s.V.length) cuts hw (fun i => cutAt_le cuts i) (wl s.V s.V.length).length (Nat.le_refl _)
  have h2 := Crs.either h.k.k.eq (wl s.V s.V.length) cuts hw (fun i => cutAt_le cuts i) (wl s.V s.V.length).length (Nat.le_refl _)
  rw [he] at h1 h2
  exact ⟨l, he, s, x, ms, u, h, rfl, hl, h1, fun j => (h2 j).1⟩
end Go.Proofs.YtddjgncdjdjgeaaGreat
namespace Go.Proofs.YtddjgncdjdjgeaaGreat
open Go.RowKit
theorem opDs_eq {s s' : St} (hS : s'.S = s.S) (hV : s'.V.length = s.V.length) : opDs s' = opDs s := by
  unfold opDs
  rw [bestK_eq hS hV, openV_eq hS hV]
theorem opDs_new (n : Nat) (h : 2 ≤ n) : opDs (St.new n) = [] := by
  unfold opDs
  rw [best_new n h, if_neg (by show ¬ (0 < 0 ∧ _); omega)]
theorem homeDs_none {x : SV} (h : ∀ i, x.named.getD i false = false) : ∀ k, homeDs x k = []
  | 0 => rfl
  | k + 1 => by rw [homeDs, homeDs_none h k, h k, if_neg (by decide)]; rfl
theorem opDs_fmt {s : St} (h : Gd s) (L P : Nat) (hr : rightR L P 1 s.V.length = true) : ∃ r, opDs (fmt s L P) = [none, none, r, none] := by
  have hk := (kept_fmt h L P hr).1
  unfold opDs
  rw [best_fmt h L P hr, if_pos (by show (0 < 1 ∧ 1 < 4294967295); omega)]
  have h1 : openV (fmt s L P) ⟨L, P, 1⟩ = homeV (fmt s L P) ⟨L, P, 1⟩ := hk.recs _
  rw [h1]
  unfold ckDs
  rw [homeDs_none (fun i => by
    show (List.replicate P false).getD i false = false
    rw [List.getD_eq_getElem?_getD, List.getElem?_replicate]
    split <;> rfl)]
  exact ⟨_, rfl⟩
section
variable {w : World}
set_option maxHeartbeats 8000000 in
set_option maxRecDepth 100000 in
theorem known19 : Calls Tryz.prog 11 #[] w (fun e w' => e = .returned (.bool true) ∧ Chg [] w w') := by
  obtain ⟨r4, hr4⟩ := opDs_fmt (gd_new 12) 3 2 (by rw [newV]; decide)
  have HR4 := Lib.hid hr4
  have HN0 := Lib.hid (opDs_new 12 (by omega))
  clear hr4
  go_enter Tryz.func11, Tryz.ntmps11
  go_wp2_with fail
  refine (new_int 12 (by omega) (by omega)).mono ?_
  rintro e w1 ⟨p, bL, bS, bW, rfl, hd1, hp, hbL, hbS, hbW, hc1⟩
  have HD1 := Lib.hid (show DskS w1 p bL bS bW (St.new 12) from hd1)
  have HC1 := Lib.hid hc1
  have HFR := Lib.hid (show ∀ i ∈ [bL, bS, bW], w.heap.size ≤ i from fun i hi => by
    simp only [List.mem_cons, List.not_mem_nil, or_false] at hi
    rcases hi with rfl | rfl | rfl <;> omega)
  clear hd1 hc1 hp hbL hbS hbW
  go_wp2_with fail
  refine (hdeeds_any HD1.out).mono ?_
  rintro e w2 ⟨rfl, hc2⟩
  rw [HN0.out, show (([] : List Deed).length : Int) = 0 from rfl]
  have HD2 := Lib.hid (Dsk.keep HD1.out hc2)
  have HC2 := Lib.hid (HC1.out.new hc2)
  clear hc2
  go_wp2_with fail
  refine (part_any HD2.out 5).mono ?_
  rintro e w3 ⟨rfl, hd3, hc3⟩
  rw [HN0.out, show (clampN 5 ([] : List Deed).length : Nat) = 0 from rfl, show ((0 : Nat) : Int) = 0 from rfl]
  rw [HN0.out] at hd3
  have HD3 := Lib.hid (show DskS w3 p bL bS bW (St.new 12) from hd3)
  have HC3 := Lib.hid (HC2.out.then_ hc3 (fun i hi hw => by have := HFR.out i hi; omega))
  clear hd3 hc3
  go_wp2_with fail
  refine hdeeds_nil.mono ?_
  rintro e w4 ⟨rfl, hc4⟩
  have HD4 := Lib.hid (Dsk.keep HD3.out hc4)
  have HC4 := Lib.hid (HC3.out.new hc4)
  clear hc4
  go_wp2_with fail
  refine (format_any HD4.out 3 2).mono ?_
  rintro e w5 hF
  obtain ⟨rfl, hd5, hc5⟩ : e = .returned (.int .i64 0) ∧ DskS w5 p bL bS bW (fmt (St.new 12) 3 2) ∧ Chg [bL, bS, bW] w4 w5 := by
    rcases hF with ⟨_, h1, h2, h3⟩ | ⟨h0, _⟩
    · exact ⟨h1, h2, h3⟩
    · exact absurd h0 (by rw [newV]; decide)
  have HD5 := Lib.hid hd5
  have HC5 := Lib.hid (HC4.out.then_ hc5 (fun i hi hw => by have := HFR.out i hi; omega))
  clear hF hd5 hc5
  go_wp2_with fail
  refine (hdeeds_any HD5.out).mono ?_
  rintro e w6 ⟨rfl, hc6⟩
  rw [HR4.out, show (([none, none, r4, none] : List Deed).length : Int) = 4 from rfl]
  have HD6 := Lib.hid (Dsk.keep HD5.out hc6)
  have HC6 := Lib.hid (HC5.out.new hc6)
  clear hc6
  go_wp2_with fail
  refine (part_any HD6.out 0).mono ?_
  rintro e w7 ⟨rfl, hd7, hc7⟩
  rw [HR4.out, show (clampN 0 ([none, none, r4, none] : List Deed).length : Nat) = 0 from rfl, show ((0 : Nat) : Int) = 0 from rfl]
  rw [HR4.out] at hd7
  have HD7 := Lib.hid (show DskS w7 p bL bS bW (fmt (St.new 12) 3 2) from hd7)
  have HC7 := Lib.hid (HC6.out.then_ hc7 (fun i hi hw => by have := HFR.out i hi; omega))
  clear hd7 hc7
  go_wp2_with fail
  refine (part_any HD7.out 2).mono ?_
  rintro e w8 ⟨rfl, hd8, hc8⟩
  rw [HR4.out, show (clampN 2 ([none, none, r4, none] : List Deed).length : Nat) = 2 from rfl, show ((2 : Nat) : Int) = 2 from rfl]
  rw [HR4.out] at hd8
  have HD8 := Lib.hid (show DskS w8 p bL bS bW (flA (flA (fmt (St.new 12) 3 2))) from hd8)
  have HC8 := Lib.hid (HC7.out.then_ hc8 (fun i hi hw => by have := HFR.out i hi; omega))
  have hop : opDs (flA (flA (fmt (St.new 12) 3 2))) = [none, none, r4, none] := by rw [opDs_eq (s := fmt (St.new 12) 3 2) (by rw [flA_S, flA_S]) (by rw [flA_len, flA_len])]; exact HR4.out
  have HOP := Lib.hid hop
  clear hd8 hc8 hop
  go_wp2_with fail
  refine (part_any HD8.out 99).mono ?_
  rintro e w9 ⟨rfl, hd9, hc9⟩
  rw [HOP.out, show (clampN 99 ([none, none, r4, none] : List Deed).length : Nat) = 4 from rfl, show ((4 : Nat) : Int) = 4 from rfl]
  have HC9 := Lib.hid (HC8.out.then_ hc9 (fun i hi hw => by have := HFR.out i hi; omega))
  clear hd9 hc9
  go_wp2_with fail
  go_ret
  exact ⟨rfl, HC9.out⟩
/-- What pair makes of an image. -/
def PairPost (w : World) (n : Nat) (l : List UInt8) (e : Ending) (w' : World) : Prop := ∃ p bL bS bW q gL gN gW rL rN m, e = .returned (.tuple #[.pointer (some ⟨p, 0, none⟩), .pointer (some ⟨q, 0, none⟩)]) ∧ DskS w' p bL bS bW ⟨l, l, falses n⟩ ∧ Rfd w' q gL gN gW rL rN m ⟨l, l, falses n⟩ ∧
  (∀ i ∈ [p, bL, bS, bW, q, gL, gN, gW], w.heap.size ≤ i) ∧ (∀ i ∈ [p, bL, bS, bW], i ∉ [q, gL, gN, gW]) ∧ Chg [] w w'
set_option maxHeartbeats 4000000 in
set_option maxRecDepth 100000 in
theorem pair_yes {A : Option Addr} {n c : Nat} {l : List UInt8} (hl : l.length = n) (hs : Src w A (bts l)) (h1 : 64 ≤ n) (h2 : n < 10304) (h3 : n % 64 = 0) :
    Calls Tryz.prog 10 #[.slice A n c] w (PairPost w (n / 64) l) := by
  have HO := Lib.hid (of_yes (c := c) hl hs h1 h2 h3)
  have HRO := Lib.hid (fun (w' : World) (hc : Chg [] w w') => rof_yes (c := c) hl (hs.keep hc) h1 h2 h3)
  clear hl hs h1 h2 h3
  go_enter Tryz.func10, Tryz.ntmps10
  go_wp2_with fail
  refine HO.out.mono ?_
  rintro e w1 ⟨p, bL, bS, bW, rfl, hd1, hp, hbL, hbS, hbW, hc1⟩
  have HD1 := Lib.hid hd1
  have HC1 := Lib.hid hc1
  have HLT := Lib.hid (show p < w1.heap.size ∧ bL < w1.heap.size ∧ bS < w1.heap.size ∧ bW < w1.heap.size from ⟨(Dsk.rec_ hd1).lt, (Dsk.last hd1).lt, (Dsk.seen hd1).lt, (Dsk.wait hd1).lt⟩)
  have HGE := Lib.hid (show w.heap.size ≤ p ∧ w.heap.size ≤ bL ∧ w.heap.size ≤ bS ∧ w.heap.size ≤ bW from ⟨hp, hbL, hbS, hbW⟩)
  clear hd1 hc1 hp hbL hbS hbW
  go_wp2_with fail
  refine (HRO.out w1 HC1.out).mono ?_
  rintro e w2 ⟨q, gL, gN, gW, rL, rN, m, rfl, hr2, hq, hgL, hgN, hgW, hc2⟩
  have HP := Lib.hid (show PairPost w (n / 64) l (.returned (.tuple #[.pointer (some ⟨p, 0, none⟩), .pointer (some ⟨q, 0, none⟩)])) w2 from ⟨p, bL, bS, bW, q, gL, gN, gW, rL, rN, m, rfl, Dsk.keep HD1.out hc2, hr2, fun i hi => by
    have h1 := HGE.out
    have h2 := HC1.out.size
    simp only [List.mem_cons, List.not_mem_nil, or_false] at hi
    rcases hi with rfl | rfl | rfl | rfl | rfl | rfl | rfl | rfl <;> omega, fun i hi hm => by
    have h1 := HLT.out
    simp only [List.mem_cons, List.not_mem_nil, or_false] at hi hm
    omega, HC1.out.new hc2⟩)
  clear hr2 hq hgL hgN hgW hc2
  go_wp2_with fail
  go_ret2
  exact HP.out
end
end Go.Proofs.YtddjgncdjdjgeaaGreat
