/-
  S: Sto15, OpenX, Sto16, Sto17, Sto18, StoSane, LawStoreOpens.
-/
import Derived.Test.YtddjgncdjdjgeaaGreatZS8
import Derived.Test.YtddjgncdjdjgeaaGreatZS32
namespace Go.Proofs.YtddjgncdjdjgeaaGreat
open Go.RowKit
theorem Sto.more {w w' : World} {p bL bS bW g gN : Nat} {ex : List Nat} {s : St} {x : SV} {vP : Value} (h : Sto w ⟨p, bL, bS, bW, g, gN, ex⟩ s x vP) (hc : Chg [] w w') {q : Nat} (hq : w.heap.size ≤ q) (hq2 : q < w'.heap.size) : Sto w' ⟨p, bL, bS, bW, g, gN, q :: ex⟩ s x vP := by
  have h1 := rightR_true.1 h.rt
  have hpl := h.pl
  have h64 := h.p64
  have hk := h.keep hc
  obtain ⟨A, c, us, e, hc1, hs, hu, hA, hR⟩ := h.pgs
  have hin : ∀ i, i ∈ SK.D ⟨p, bL, bS, bW, g, gN, q :: ex⟩ → i = q ∨ i ∈ SK.D ⟨p, bL, bS, bW, g, gN, ex⟩ := fun i hi => by
    simp only [SK.D, List.mem_cons] at hi ⊢
    rcases hi with h | h | h | h | h | h | h | h <;> simp [h]
  refine { dsk := hk.dsk, rec_ := hk.rec_, pgs := ?_, nm := hk.nm, ng := hk.ng, rt := hk.rt, ep := hk.ep, pl := hk.pl, nl := hk.nl, p64 := hk.p64, us := hk.us, sq := hk.sq, exl := fun i hi => ?_ }
  · refine ⟨A, c, us, e, hc1, hs.keep hc, hu, fun ad ha => ⟨(hA ad ha).1, fun hm => ?_⟩, fun i u l hu' hl => ?_⟩
    · rcases hin _ hm with hm | hm
      · obtain ⟨ad', ea, hb, _⟩ := hs (by omega)
        rw [ha] at ea
        injection ea with ea
        subst ea
        omega
      · exact (hA ad ha).2 hm
    · obtain ⟨A', n', c', eu, hB, hD⟩ := hR i u l hu' hl
      refine ⟨A', n', c', eu, hB.keep hc, fun ad ha hm => ?_⟩
      rcases hin _ hm with hm | hm
      · obtain ⟨ad', ea, hb, _⟩ := hB.src (by rw [bts_len, h64 l (List.mem_of_getElem? hl)]; omega)
        rw [ha] at ea
        injection ea with ea
        subst ea
        omega
      · exact hD ad ha hm
  · simp only [List.mem_cons] at hi
    rcases hi with rfl | hi
    · exact hq2
    · exact hk.exl i hi
end Go.Proofs.YtddjgncdjdjgeaaGreat
namespace Go.Proofs.YtddjgncdjdjgeaaGreat
open Go.RowKit
def OpenPostX (w : World) (p bL bS bW : Nat) (ex : List Nat) (s : St) (e : Ending) (w' : World) : Prop :=
  ((bestK s.V.length s.S 2).epoch = 0 ∧ e = .returned (.tuple #[.pointer none, .int .i64 22]) ∧ Chg [] w w') ∨
  ((bestK s.V.length s.S 2).epoch = 4294967295 ∧ e = .returned (.tuple #[.pointer none, .int .i64 24]) ∧ Chg [] w w') ∨
  (0 < (bestK s.V.length s.S 2).epoch ∧ (bestK s.V.length s.S 2).epoch < 4294967295 ∧ ∃ g gN v, e = .returned (.tuple #[.pointer (some ⟨g, 0, none⟩), .int .i64 0]) ∧ w.heap.size ≤ g ∧ w.heap.size ≤ gN ∧
    Sto w' ⟨p, bL, bS, bW, g, gN, ex⟩ (ckS s (openV s (bestK s.V.length s.S 2))) (ckV (openV s (bestK s.V.length s.S 2))) v ∧ Chg [bL, bS, bW] w w')
section
variable {w : World} {p bL bS bW : Nat} {ex : List Nat} {s : St}
set_option maxHeartbeats 16000000 in
set_option maxRecDepth 100000 in
theorem open_ex (h : DskS w p bL bS bW s) (hx : ∀ i ∈ ex, i < w.heap.size) : Calls Tryz.prog 21 #[.pointer (some ⟨p, 0, none⟩)] w (OpenPostX w p bL bS bW ex s) := by
  have H := Lib.hid h
  have HEX := Lib.hid hx
  have hlt := bestK_lt s.V.length s.S 2
  have hrt := bestK_right s.V.length s.S 2
  have hbe := best_any h
  clear h hx
  obtain ⟨o, ho⟩ : ∃ o, o = bestK s.V.length s.S 2 := ⟨_, rfl⟩
  have HO := Lib.hid ho
  rw [← ho] at hlt hrt hbe
  have HLT := Lib.hid hlt
  have HRT := Lib.hid hrt
  have HBE := Lib.hid hbe
  clear ho hrt hbe
  go_enter Tryz.func21, Tryz.ntmps21
  go_wp2_with fail
  refine HBE.out.mono ?_
  rintro e w1 ⟨rfl, hc1⟩
  have HC1 := Lib.hid hc1
  unfold rootV
  clear hc1
  go_upto_region 4 with fail
  have hR := Whole.new w1 58 [.int .i64 (o.log : Int), .int .i64 (o.pages : Int), .int .u32 (o.epoch : Int)]
  have hal := (Chg.refl [] w1).alloc (.cells #[.int .i64 (o.log : Int), .int .i64 (o.pages : Int), .int .u32 (o.epoch : Int)] 58)
  have HC2 := Lib.hid (HC1.out.new hal)
  obtain ⟨gr, hgr⟩ : ∃ g, g = w1.heap.size := ⟨_, rfl⟩
  rw [← hgr] at hR ⊢
  generalize w1.alloc (.cells #[.int .i64 (o.log : Int), .int .i64 (o.pages : Int), .int .u32 (o.epoch : Int)] 58) = w2 at hR HC2 ⊢
  have HR2 := Lib.hid hR
  have r2 := hR.cell 2
  clear hR hal hgr
  by_cases h0 : o.epoch = 0
  · have q0 : decide (0 < o.epoch) = false := by simp [h0]
    have HP := Lib.hid (show OpenPostX w p bL bS bW ex s (.returned (.tuple #[.pointer none, .int .i64 22])) w2 from .inl ⟨by rw [← HO.out]; exact h0, rfl, HC2.out⟩)
    clear h0 hlt
    go_wp2_with fail
    go_ret2
    exact HP.out
  have q0 : decide (0 < o.epoch) = true := by simp; omega
  by_cases hF : o.epoch = 4294967295
  · have q1 : ((o.epoch : Int) == 4294967295) = true := by simp [hF]
    have HP := Lib.hid (show OpenPostX w p bL bS bW ex s (.returned (.tuple #[.pointer none, .int .i64 24])) w2 from .inr (.inl ⟨by rw [← HO.out]; exact hF, rfl, HC2.out⟩))
    clear h0 hlt hF
    go_wp2_with fail
    go_ret2
    exact HP.out
  have q1 : ((o.epoch : Int) == 4294967295) = false := by simp; omega
  have HE := Lib.hid (show 0 < o.epoch ∧ o.epoch < 4294967295 by omega)
  have hright : rightR (o.log : Int) (o.pages : Int) (o.epoch : Int) s.V.length = true := HRT.out.resolve_left h0
  have HRI := Lib.hid hright
  have hlp := rightR_true.1 hright
  have HLP := Lib.hid (show 1 ≤ o.log ∧ o.log ≤ 64 ∧ 1 ≤ o.pages ∧ o.pages ≤ 64 ∧ 2 + o.log + o.pages ≤ s.V.length by omega)
  clear h0 hF hlt hright hlp
  go_upto_region 8 with fail
  have HW2 := Lib.hid (Dsk.keep H.out HC2.out)
  have HAL := Lib.hid (show allL s o.log o.pages o.epoch = pagesL s o.log o.pages by unfold allL; rw [if_pos HRI.out, Int.toNat_natCast])
  clear r2 q0 q1
  have hC0 := (Chg.refl [] w2).drew
  refine wp_flow (by kernel_rfl) plainT plainT_ok (by kernel_rfl) ?_
  refine flow_move_out plainT_ok rfl rfl rfl ?_
  refine flow1h (r := rootV o.log o.pages o.epoch) plainT_ok rfl (.out rfl rfl) rfl (fun ev W he hW e1 => by have hx := HR2.out.keep (hC0.new hW); have r0 := hx.cell 0; have r1 := hx.cell 1; have r2 := hx.cell 2; clear hW hx; unfold rootV; go_simp) ?_
  refine flow_move_out plainT_ok rfl rfl rfl ?_
  refine flow1h (r := rootV o.log o.pages o.epoch) plainT_ok rfl (.out rfl rfl) rfl (fun ev W he hW e1 => by have hx := HR2.out.keep (hC0.new hW); have r0 := hx.cell 0; have r1 := hx.cell 1; have r2 := hx.cell 2; clear hW hx; unfold rootV; go_simp) ?_
  refine flow_calld (frmF w2.heap.size (pagesL s o.log o.pages)) (keeps_frm _ _) (.inr (keeps_frm _ _)) (by kernel_rfl) rfl (.cons (.inn rfl) (.cons (.inn rfl) .nil)) (fun W hW => (hall_any (Dsk.keep HW2.out (hC0.new hW)) o.log o.pages o.epoch).mono ?_) ?_
  · rintro e w' ⟨v, vs, rfl, ho, hrw, hc⟩
    rw [HAL.out] at ho hrw
    exact ⟨v, rfl, hc, vs, own_more ho (hC0.new hW).size, rows_more hrw (hC0.new hW).size⟩
  refine flow1 (r := .pointer (some ⟨gr, 1, none⟩)) plainT_ok rfl (.out rfl rfl) rfl (fun ev W he e1 => by go_simp) ?_
  refine flow1h (r := .int .i64 (o.pages : Int)) plainT_ok rfl (.inn rfl) rfl (fun ev W he hW e1 => by have r1 := (HR2.out.keep (hC0.new hW)).cell 1; clear hW; go_simp) ?_
  refine flow_op (namF w2.heap.size o.pages) (keeps_nam _ _) (.inr (keeps_nam _ _)) rfl (fun ev W he hW hfs => ?_) ?_
  · obtain ⟨f1, f2, _⟩ := hfs
    have e1 : ev (.tmp 29) = .int .i64 (o.pages : Int) := f1
    have hmk := make_bool o.pages (by have := HLP.out; omega) W
    have hr : (execOp ev ⟨some 30, .makeSlice 67 (.tmp 29) (.tmp 29), 67, "store.go:76", #[{ on := 6, ground := Ground.data }, { on := 6, ground := Ground.data }], none⟩).run Tryz.prog W = .ok (.value (.slice (some ⟨W.heap.size, 0, none⟩) o.pages o.pages)) (W.alloc (.cells (bls (falses o.pages)).toArray 4)) := by
      simp only [execOp, e1, Sem.run_bind, hmk]; rfl
    refine Eq.mpr (congrArg _ hr) ?_
    exact ⟨(Chg.refl [] W).alloc _, W.heap.size, rfl, Whole.new W _ _, (hC0.new hW).size⟩
  refine flow_op (bldF w2.heap.size p o (pagesL s o.log o.pages)) (keeps_bld _ _ _ _) (.inr (keeps_bld _ _ _ _)) rfl (fun ev W he hW hfs => ?_) ?_
  · obtain ⟨f1, f2, f3, f4, _⟩ := hfs
    have e1 : ev (.tmp 23) = .pointer (some ⟨p, 0, none⟩) := f1
    have e2 : ev (.tmp 24) = rootV o.log o.pages o.epoch := f2
    have f3' : frmF w2.heap.size (pagesL s o.log o.pages) (ev (.tmp 27)) W := f3
    have f4' : namF w2.heap.size o.pages (ev (.tmp 30)) W := f4
    obtain ⟨vs, ho, hrw⟩ := f3'
    obtain ⟨gN, e4, hN, hB⟩ := f4'
    have hr : (execOp ev ⟨some 31, .build 94 #[(0, .tmp 23), (1, .tmp 24), (2, .tmp 27), (3, .tmp 30)], 94, "store.go:76", #[{ on := 0, ground := Ground.data }, { on := 1, ground := Ground.data }, { on := 4, ground := Ground.data }, { on := 7, ground := Ground.data }], none⟩).run Tryz.prog W = .ok (.value (.agg (stoV p o (ev (.tmp 27)) gN).toArray)) W := by
      obtain ⟨A27, c27, e27, _⟩ := own_slice ho
      unfold rootV at e2
      unfold stoV
      go_simp
    refine Eq.mpr (congrArg _ hr) ?_
    exact ⟨Chg.refl [] W, ev (.tmp 27), vs, gN, rfl, ho, hrw, hN, hB⟩
  refine flow_op (boxF w2.heap.size p o (pagesL s o.log o.pages)) (keeps_box _ _ _ _) (.inr (keeps_box _ _ _ _)) rfl (fun ev W he hW hfs => ?_) ?_
  · obtain ⟨f1, _⟩ := hfs
    have f1' : bldF w2.heap.size p o (pagesL s o.log o.pages) (ev (.tmp 31)) W := f1
    obtain ⟨vP, vs, gN, e1, ho, hrw, hN, hB⟩ := f1'
    have hr : (execOp ev ⟨some 32, .box 94 (.tmp 31), 42, "store.go:76", #[{ on := 8, ground := Ground.data }], none⟩).run Tryz.prog W = .ok (.value (.pointer (some ⟨W.heap.size, 0, none⟩))) (W.alloc (.cells (stoV p o vP gN).toArray 94)) := by
      simp only [execOp, e1, Sem.run_bind, Instr.box, newVar, newRow, run_newObj_alloc, Sem.run_pure, Result.andThen_ok]
      rfl
    refine Eq.mpr (congrArg _ hr) ?_
    have hal := (Chg.refl [] W).alloc (.cells (stoV p o vP gN).toArray 94)
    exact ⟨hal, W.heap.size, vP, vs, gN, rfl, Whole.new W _ _, (hC0.new hW).size, own_keep ho hal, hrw.keep hal, hN.keep hal, hB⟩
  refine flow_assign plainT_ok rfl (keeps_box _ _ _ _) (.inr (keeps_box _ _ _ _)) rfl ?_
  intro vs8 W hW hF
  have h6 : boxF w2.heap.size p o (pagesL s o.log o.pages) (vs8 6) W := hF 6 _ rfl rfl
  have hcw := hC0.new hW
  obtain ⟨g, vP, us, gN, e6, hG, hgB, hO, hRW, hNM, hNB⟩ := h6
  simp only [putAll, Act.put, List.setIfInBounds_toArray, List.set_cons_zero, List.set_cons_succ]
  rw [e6]
  have HB2 := Lib.hid (show w.heap.size ≤ w2.heap.size from HC2.out.size)
  have HR3 := Lib.hid (HR2.out.keep hcw)
  have HC3 := Lib.hid (HC2.out.new hcw)
  have HW3 := Lib.hid (Dsk.keep HW2.out hcw)
  have HG3 := Lib.hid hG
  have HX3 := Lib.hid (And.intro hO (And.intro hRW hNM))
  have HGB := Lib.hid (And.intro hgB hNB)
  clear hF hW hcw hC0 e6 hG hgB hO hRW hNM hNB HR2 HC2 HW2
  obtain ⟨w3, hw3⟩ : ∃ w3 : World, w3 = W := ⟨_, rfl⟩
  rw [← hw3] at HR3 HC3 HW3 HG3 HX3 ⊢
  clear hw3
  have r0 := HR3.out.cell 0
  have r1 := HR3.out.cell 1
  have r2 := HR3.out.cell 2
  go_wp2_with fail
  refine (rec_any HW3.out o.log o.pages o.epoch).mono ?_
  rintro e w4 ⟨v4, vs4, rfl, ho4, hrc4, hc4⟩
  have HC4 := Lib.hid (HC3.out.new hc4)
  have HLT4 := Lib.hid (show g < w3.heap.size ∧ gN < w3.heap.size from ⟨HG3.out.lt, HX3.out.2.2.lt⟩)
  have HO4 := Lib.hid ho4
  have HRC := Lib.hid hrc4
  have hsto : Sto w4 ⟨p, bL, bS, bW, g, gN, ex⟩ s (homeV s o) vP := by
    have hD4 := Dsk.keep HW3.out hc4
    have hG4 := HG3.out.keep hc4
    have hN4 := HX3.out.2.2.keep hc4
    have h64 : ∀ l ∈ pagesL s o.log o.pages, l.length = 64 := fun l hl => by
      obtain ⟨i, hi, rfl⟩ := List.mem_map.1 hl
      have := List.mem_range.1 hi
      have := HLP.out
      exact sectL_len (Dsk.lenS H.out) (by rw [Int.toNat_natCast]; omega)
    have hlt : ∀ b, b < w.heap.size → b < w2.heap.size := fun b hb => Nat.lt_of_lt_of_le hb HB2.out
    have hT : ∀ i ∈ (SK.D ⟨p, bL, bS, bW, g, gN, ex⟩), i < w2.heap.size ∨ (∃ t cs, Whole w4 i t cs ∧ t ≠ 30 ∧ t ≠ 5) := fun i hi => by
      simp only [SK.D, List.mem_cons] at hi
      rcases hi with rfl | rfl | rfl | rfl | rfl | rfl | hi
      · exact .inl (hlt _ (Dsk.rec_ H.out).lt)
      · exact .inl (hlt _ (Dsk.last H.out).lt)
      · exact .inl (hlt _ (Dsk.seen H.out).lt)
      · exact .inl (hlt _ (Dsk.wait H.out).lt)
      · exact .inr ⟨_, _, hG4, by decide, by decide⟩
      · exact .inr ⟨_, _, hN4, by decide, by decide⟩
      · exact .inl (hlt _ (HEX.out _ hi))
    have hpg := Pgs.of_rows (T := SK.D ⟨p, bL, bS, bW, g, gN, ex⟩) (own_keep HX3.out.1 hc4) rfl (HX3.out.2.1.keep hc4) hT
    exact { dsk := hD4, rec_ := hG4, pgs := hpg, nm := hN4, ng := by have := hlt _ (Dsk.wait H.out).lt; have := HGB.out.2; show gN ≠ bW; omega, rt := HRI.out, ep := by have := HE.out; show o.epoch < _; omega, pl := pagesL_len s o.log o.pages, nl := by show (List.replicate o.pages false).length = o.pages; simp, p64 := h64, us := Nat.zero_le _, sq := by show 0 * 18 ≤ 0; omega, exl := fun i hi => Nat.lt_of_lt_of_le (HEX.out i hi) HC4.out.size }
  have HST := Lib.hid hsto
  obtain ⟨X, hX⟩ : ∃ X, X = recsS s o.log o.pages o.epoch := ⟨_, rfl⟩
  have HXE := Lib.hid hX
  rw [← hX] at HO4 HRC ⊢
  rw [← hX] at ho4
  obtain ⟨A4, c4, rfl, hl4, hcp4, hs4, hA4⟩ := own_slice ho4
  have HL4 := Lib.hid (And.intro hl4 hcp4)
  have hmx := own_max ho4
  obtain ⟨n, hn⟩ : ∃ n, n = X.1.length := ⟨_, rfl⟩
  have HN := Lib.hid hn
  rw [← hn] at HO4 hmx ⊢
  have HA4 := Lib.hid hA4
  clear hsto ho4 hrc4 hc4 hX hl4 hcp4 hs4 hA4 hn r0 r1 r2
  have HRR := Lib.hid (show ∀ m ∈ X.1, rightB (o.pages : Int) m = true by rw [HXE.out]; exact recF_right _ _)
  go_wp2_with fail
  go_loopw [41] (fun i wr => ∃ j : Nat, i = .int .i64 (j : Int) ∧ j ≤ n ∧ Hid (∃ v, Sto wr ⟨p, bL, bS, bW, g, gN, ex⟩ s ((X.1.take j).foldl turnV (homeV s o)) v) ∧ Hid (Chg [g, gN] w4 wr)) (fun i _ => n - (intOf i).toNat)
  case atStart => exact ⟨0, rfl, Nat.zero_le _, Lib.hid ⟨vP, HST.out⟩, Lib.hid (Chg.refl _ _)⟩
  case round =>
    obtain ⟨j, rfl, hj, HSr, HCr⟩ := hrel
    by_cases hlt : j < n
    · have hjI : (j : Int) < (n : Int) := by omega
      have hj0 : (0 : Int) ≤ (j : Int) := by omega
      have hjX : j < X.1.length := by rw [← HN.out]; exact hlt
      have hjv : j < vs4.length := by rw [HL4.out.1]; exact hjX
      have hT3 : ∀ i ∈ [g, gN], i < w3.heap.size ∨ w4.heap.size ≤ i := fun i hi => by
        simp only [List.mem_cons, List.not_mem_nil, or_false] at hi
        have := HLT4.out
        rcases hi with rfl | rfl <;> omega
      obtain ⟨A', c', e', _, _, hsr, _⟩ := own_slice (rown_chg HO4.out HCr.out hT3)
      injection e' with e' _ e2
      subst e' e2
      obtain ⟨ad, rfl, _, hcell⟩ := hsr (by rw [HL4.out.1]; omega)
      obtain ⟨b7, o7, s7⟩ := ad
      obtain rfl : s7 = none := (HA4.out _ rfl).1
      have hc := hcell j vs4[j] (List.getElem?_eq_getElem hjv)
      obtain ⟨ls, g1, g2, g3, g4⟩ := HRC.out.2 j vs4[j] X.1[j] (List.getElem?_eq_getElem hjv) (List.getElem?_eq_getElem hjX)
      have HRB := Lib.hid (HRR.out X.1[j] (List.getElem_mem hjX))
      have HNX := Lib.hid (fold_next turnV (homeV s o) X.1 j X.1[j] (List.getElem?_eq_getElem hjX))
      have g1' := rown_chg g1 HCr.out hT3
      have g2' : ∀ a ∈ ls, RMade wr w3.heap.size a := fun a ha => (g2 a ha).chg HCr.out hT3
      generalize vs4[j] = vv at hc g1'
      generalize X.1[j] = mj at g1' g3 g4 HRB HNX
      obtain ⟨A5, c5, e5, hl5, hch5, _, _, _⟩ := chs_own' g1' (fun a ha => (g2' a ha).ok)
      have hb5 := own_blk g1' e5
      subst e5
      obtain ⟨d, hd⟩ : ∃ d, d = mj.length := ⟨_, rfl⟩
      have hrb : rightB (o.pages : Int) ls = true := by rw [asC_rightB g4]; exact HRB.out
      have hrs : rightS (-1) (o.pages : Int) ls = true := by unfold rightB at hrb; rw [Bool.and_eq_true] at hrb; exact hrb.2
      obtain ⟨hr1, hr2⟩ := rs_len hrs (by have := HLP.out; omega)
      have hd64 : d ≤ 64 := by have := HLP.out; omega
      obtain ⟨vr, hst⟩ := HSr.out
      have hxP : ((X.1.take j).foldl turnV (homeV s o)).P = o.pages := (turn_same _ _).2.1
      have hin : InP ((X.1.take j).foldl turnV (homeV s o)).P ls := fun a ha => by
        rw [hxP]
        exact ⟨by have := (hr2 a ha).1; omega, (hr2 a ha).2.1, (g2' a ha).bl⟩
      have HTU := Lib.hid (turn_any (d := c5) hst hch5 (hl5.trans hd.symm) (by omega) hin (fun _ ad e hm => by
        have h1 := hb5 ad e
        have h2 := HLT4.out
        simp only [List.mem_cons, List.not_mem_nil, or_false] at hm
        rcases hm with h | h <;> (rw [h] at h1; have h1' : w3.heap.size ≤ _ := h1; omega)))
      rw [← hd] at hc
      have HKV := Lib.hid (turnV_key ((X.1.take j).foldl turnV (homeV s o)) g4.1)
      rw [add_plain] at hc
      clear hcell hsr g1 g2 g3 g4 g1' g2' hb5 hl5 hch5 hd hrb hrs hr1 hr2 hd64 hst hxP hin hjX hjv hT3
      go_wp2_with fail
      refine HTU.out.mono ?_
      rintro e w5 ⟨rfl, ⟨v5, hs5⟩, hc5⟩
      have HS5 := Lib.hid (show ∃ v, Sto w5 ⟨p, bL, bS, bW, g, gN, ex⟩ s ((X.1.take (j + 1)).foldl turnV (homeV s o)) v from ⟨v5, by rw [HNX.out, ← HKV.out]; exact hs5⟩)
      have HC5 := Lib.hid (HCr.out.trans hc5)
      clear hs5 hc5
      go_wp2_with fail
      go_roundw
      case rel => exact ⟨j + 1, by go_num, by omega, HS5, HC5⟩
      case measure => simp [intOf]; omega
    · obtain rfl : n = j := by omega
      have hjI : ¬ (n : Int) < (n : Int) := by omega
      obtain ⟨vr, hst⟩ := HSr.out
      have ht : (X.1.take n).foldl turnV (homeV s o) = openV s o := by rw [HN.out, List.take_length, HXE.out]; rfl
      rw [ht] at hst
      have hxE : (openV s o).E = o.epoch := (turn_same _ _).2.2.1
      have HCK := Lib.hid (checkpoint_any hst (by rw [hxE]; exact HE.out.2))
      clear hst ht hxE
      go_wp2_with fail
      refine HCK.out.mono ?_
      rintro e w5 ⟨rfl, ⟨v5, hs5⟩, hc5⟩
      have HP := Lib.hid (show OpenPostX w p bL bS bW ex s (.returned (.tuple #[.pointer (some ⟨g, 0, none⟩), .int .i64 0])) w5 from .inr (.inr (by
        rw [← HO.out]
        have hg1 := HGB.out
        have hg2 := HB2.out
        refine ⟨HE.out.1, HE.out.2, g, gN, v5, rfl, by omega, by omega, hs5, ?_⟩
        have h1 : Chg [bL, bS, bW] w w4 := HC4.out.sub (fun _ h => by cases h)
        have h2 := h1.then_ HCr.out (fun i hi hw => by
          simp only [List.mem_cons, List.not_mem_nil, or_false] at hi
          rcases hi with rfl | rfl <;> omega)
        exact h2.then_ hc5 (fun i hi hw => by
          simp only [SK.W, List.mem_cons, List.not_mem_nil, or_false] at hi ⊢
          rcases hi with h | h | h | rfl | rfl
          · exact .inl h
          · exact .inr (.inl h)
          · exact .inr (.inr h)
          · omega
          · omega))))
      clear hs5 hc5
      go_wp2_with fail
      go_ret2
      exact HP.out
end
/-- Blocks of others are written. -/
theorem Sto.pasts {w w' : World} {k : SK} {s : St} {x : SV} {vP : Value} (h : Sto w k s x vP) {T : List Nat} (hc : Chg T w w') (hq : ∀ i ∈ T, i ∈ k.ex) (hn : ∀ i ∈ [k.p, k.bL, k.bS, k.bW, k.g, k.gN], i ∉ T) : Sto w' k s x vP := by
  exact { h with dsk := Dsk.away h.dsk hc (hn _ (by simp)) (hn _ (by simp)) (hn _ (by simp)) (hn _ (by simp)), rec_ := h.rec_.chg hc (hn _ (by simp)), nm := h.nm.chg hc (hn _ (by simp)), exl := fun i hi => Nat.lt_of_lt_of_le (h.exl i hi) hc.size, pgs := h.pgs.chg hc (fun i hi => by simp only [SK.D, List.mem_cons]; exact .inr (.inr (.inr (.inr (.inr (.inr (hq _ hi))))))) }
end Go.Proofs.YtddjgncdjdjgeaaGreat
namespace Go.Proofs.YtddjgncdjdjgeaaGreat
open Go.RowKit
structure Eqn (s : St) : Prop where
  lenS : s.S.length = 64 * s.V.length
  lenL : s.L.length = s.S.length
theorem settle_S {s : St} (h : Eqn s) {k cut : Nat} (hk : k < s.V.length) (hc : cut ≤ 64) (j : Nat) : (s.settle k cut).S[j]? = if k * 64 + cut ≤ j ∧ j < (k + 1) * 64 then s.L[j]? else s.S[j]? := by
  have h1 := h.lenS
  have h2 := h.lenL
  have lx : ((s.L.drop (k * 64 + cut)).take (64 - cut)).length = 64 - cut := by rw [List.length_take, List.length_drop]; omega
  show (setS s.L s.S k cut)[j]? = _
  unfold setS
  rw [splice_get _ _ _ _ (by rw [lx]; omega), lx]
  by_cases hj : k * 64 + cut ≤ j ∧ j < (k + 1) * 64
  · rw [if_pos (by omega), if_pos hj, List.getElem?_take, if_pos (by omega), List.getElem?_drop]
    congr 1; omega
  · rw [if_neg (by omega), if_neg hj]
theorem settle_L {s : St} (h : Eqn s) {k cut : Nat} (hk : k < s.V.length) (hc : cut ≤ 64) (j : Nat) : (s.settle k cut).L[j]? = if k * 64 ≤ j ∧ j < k * 64 + cut then s.S[j]? else s.L[j]? := by
  have h1 := h.lenS
  have h2 := h.lenL
  have lx : ((s.S.drop (k * 64)).take cut).length = cut := by rw [List.length_take, List.length_drop]; omega
  show (setL s.L s.S k cut)[j]? = _
  unfold setL
  rw [splice_get _ _ _ _ (by rw [lx]; omega), lx]
  by_cases hj : k * 64 ≤ j ∧ j < k * 64 + cut
  · rw [if_pos hj, if_pos hj, List.getElem?_take, if_pos (by omega), List.getElem?_drop]
    congr 1; omega
  · rw [if_neg hj, if_neg hj]
theorem settle_V (s : St) (k cut : Nat) : (s.settle k cut).V.length = s.V.length := by simp [St.settle]
theorem Eqn.settle {s : St} (h : Eqn s) {k cut : Nat} (hk : k < s.V.length) (hc : cut ≤ 64) : Eqn (s.settle k cut) := by
  have h1 := h.lenS
  have h2 := h.lenL
  have lx : ((s.L.drop (k * 64 + cut)).take (64 - cut)).length = 64 - cut := by rw [List.length_take, List.length_drop]; omega
  have ly : ((s.S.drop (k * 64)).take cut).length = cut := by rw [List.length_take, List.length_drop]; omega
  have e1 : (s.settle k cut).S.length = s.S.length := splice_len _ _ _ (by rw [lx]; omega)
  have e2 : (s.settle k cut).L.length = s.L.length := splice_len _ _ _ (by rw [ly]; omega)
  exact ⟨by rw [e1, settle_V]; exact h1, by rw [e1, e2]; exact h2⟩
/-- What both images have alike stands; what does not wait stands. -/
structure Crs (s s' : St) (ws : List Nat) : Prop where
  eq : Eqn s'
  v : s'.V.length = s.V.length
  same : ∀ j : Nat, s.L[j]? = s.S[j]? → s'.S[j]? = s.S[j]? ∧ s'.L[j]? = s.S[j]?
  out : ∀ j : Nat, j / 64 ∉ ws → s'.S[j]? = s.S[j]?
theorem Crs.crash {s : St} (h : Eqn s) (ws : List Nat) (cuts : List Int) (hw : ∀ k ∈ ws, k < s.V.length) (hcut : ∀ i, cutAt cuts i ≤ 64) : ∀ i, i ≤ ws.length → Crs s (s.crash ws cuts i) ws
  | 0, _ => ⟨h, rfl, fun j hj => ⟨rfl, hj⟩, fun j _ => rfl⟩
  | i + 1, hi => by
    have ih := Crs.crash h ws cuts hw hcut i (by omega)
    have hk : ws.getD i 0 ∈ ws := by rw [List.getD_eq_getElem?_getD, List.getElem?_eq_getElem (by omega)]; exact List.getElem_mem _
    have hkv : ws.getD i 0 < (s.crash ws cuts i).V.length := by rw [ih.v]; exact hw _ hk
    refine ⟨ih.eq.settle hkv (hcut i), (settle_V _ _ _).trans ih.v, fun j hj => ?_, fun j hj => ?_⟩
    · obtain ⟨h1, h2⟩ := ih.same j hj
      show ((s.crash ws cuts i).settle (ws.getD i 0) (cutAt cuts i)).S[j]? = _ ∧ ((s.crash ws cuts i).settle (ws.getD i 0) (cutAt cuts i)).L[j]? = _
      rw [settle_S ih.eq hkv (hcut i), settle_L ih.eq hkv (hcut i)]
      constructor
      · split
        · exact h2
        · exact h1
      · split
        · exact h1
        · exact h2
    · show ((s.crash ws cuts i).settle (ws.getD i 0) (cutAt cuts i)).S[j]? = _
      rw [settle_S ih.eq hkv (hcut i), if_neg (fun hx => hj (by rw [show j / 64 = ws.getD i 0 by omega]; exact hk))]
      exact ih.out j hj
end Go.Proofs.YtddjgncdjdjgeaaGreat
namespace Go.Proofs.YtddjgncdjdjgeaaGreat
open Go.RowKit
/-- What lasts and what is seen are alike ahead of u and behind the log. -/
def Alk (s : St) (L u : Nat) : Prop := ∀ j : Nat, (j < 128 + u ∨ 128 + L * 64 ≤ j) → s.L[j]? = s.S[j]?
/-- Only the log waits. -/
def Wtl (s : St) (L : Nat) : Prop := ∀ j : Nat, s.V.getD j false = true → 2 ≤ j ∧ j < 2 + L
theorem flush_eqn {s : St} (h : Eqn s) : ∀ i, i ≤ s.V.length → Eqn (s.flush i)
  | 0, _ => h
  | i + 1, hi => (flush_eqn h i (by omega)).settle (by rw [flush_len]; omega) (by omega)
theorem flush_L {s : St} (h : Eqn s) : ∀ i, i ≤ s.V.length → ∀ j : Nat, (s.flush i).L[j]? = if j < i * 64 then s.S[j]? else s.L[j]?
  | 0, _, j => by rw [if_neg (by omega)]; rfl
  | i + 1, hi, j => by
    show ((s.flush i).settle i 64).L[j]? = _
    rw [settle_L (flush_eqn h i (by omega)) (by rw [flush_len]; omega) (by omega), flush_S, flush_L h i (by omega)]
    by_cases h1 : i * 64 ≤ j ∧ j < i * 64 + 64
    · rw [if_pos h1, if_pos (by omega)]
    · rw [if_neg h1]
      by_cases h2 : j < i * 64
      · rw [if_pos h2, if_pos (by omega)]
      · rw [if_neg h2, if_neg (by omega)]
theorem Eqn.flA {s : St} (h : Eqn s) : Eqn (flA s) := flush_eqn h _ (Nat.le_refl _)
theorem alk_flA {s : St} (h : Eqn s) (L u : Nat) : Alk (flA s) L u := fun j _ => by
  rw [flA_S]
  show (s.flush s.V.length).L[j]? = _
  rw [flush_L h _ (Nat.le_refl _)]
  have h1 := h.lenS
  have h2 := h.lenL
  split
  · rfl
  · rw [List.getElem?_eq_none (by omega), List.getElem?_eq_none (by omega)]
theorem wtl_flA (s : St) (L : Nat) : Wtl (flA s) L := fun j hj => by
  rcases Nat.lt_or_ge j s.V.length with h | h
  · rw [show (flA s).V.getD j false = false from flush_false s s.V.length j h] at hj; cases hj
  · rw [List.getD_eq_getElem?_getD, List.getElem?_eq_none (by rw [flA_len]; exact h)] at hj; cases hj
theorem Eqn.apS {s : St} (h : Eqn s) {a : Nat} {b : List UInt8} (hb : a + b.length ≤ s.S.length) : Eqn (apS s a b) := by
  have h1 := h.lenS
  have h2 := h.lenL
  have e : (Go.Proofs.YtddjgncdjdjgeaaGreat.apS s a b).S.length = s.S.length := splice_len _ _ _ hb
  exact ⟨by rw [e, apS_V]; exact h1, by rw [e]; exact h2⟩
theorem Alk.apS {s : St} {L u a : Nat} {b : List UInt8} (h : Alk s L u) (hb : a + b.length ≤ s.S.length) (h1 : 128 + u ≤ a) (h2 : a + b.length ≤ 128 + L * 64) : Alk (apS s a b) L u := fun j hj => by
  show s.L[j]? = (splice s.S a b)[j]?
  rw [splice_get _ _ _ _ hb, if_neg (by omega)]
  exact h j hj
theorem Wtl.apS {s : St} {L a : Nat} {b : List UInt8} (h : Wtl s L) (h1 : 128 ≤ a) (h2 : a + b.length ≤ 128 + L * 64) : Wtl (apS s a b) L := fun j hj => by
  have hj' : ((List.range s.V.length).map fun j => s.V.getD j false || tch a b.length j).getD j false = true := hj
  rcases Nat.lt_or_ge j s.V.length with hl | hl
  · rw [List.getD_eq_getElem?_getD, List.getElem?_map, List.getElem?_range hl] at hj'
    simp only [Option.map_some, Option.getD_some, Bool.or_eq_true] at hj'
    rcases hj' with h3 | h3
    · exact h j h3
    · unfold tch at h3
      simp at h3
      omega
  · rw [List.getD_eq_getElem?_getD, List.getElem?_eq_none (by simpa using hl)] at hj'; cases hj'
theorem itS_pre (l : List UInt8) (ep : Nat) : ∀ k j, ∃ more, (itS l ep (k + j)).1 = (itS l ep k).1 ++ more
  | k, 0 => ⟨[], by simp⟩
  | k, j + 1 => by
    obtain ⟨m, hm⟩ := itS_pre l ep k j
    by_cases h : readOk (l.drop (itS l ep (k + j)).2) ep (itS l ep (k + j)).1.length
    · refine ⟨m ++ [recL (l.drop (itS l ep (k + j)).2)], ?_⟩
      show (stepS l ep (itS l ep (k + j))).1 = _
      rw [stepS_yes h]
      show (itS l ep (k + j)).1 ++ _ = _
      rw [hm, List.append_assoc]
    · refine ⟨m, ?_⟩
      show (stepS l ep (itS l ep (k + j))).1 = _
      rw [stepS_no h]; exact hm
theorem At.pre {l : List UInt8} {ep k : Nat} {rs : List (List UInt8)} {a : Nat} (h : At l ep k rs a) : ∃ more, (scanS l ep).1 = rs ++ more := by
  have h1 := h.low
  have h2 := h.top
  obtain ⟨m, hm⟩ := itS_pre l ep k (l.length + 1 - k)
  refine ⟨m, ?_⟩
  unfold scanS
  rw [show l.length + 1 = k + (l.length + 1 - k) by omega, hm, h.it]
end Go.Proofs.YtddjgncdjdjgeaaGreat
namespace Go.Proofs.YtddjgncdjdjgeaaGreat
open Go.RowKit
theorem Eqn.write {s : St} (h : Eqn s) {q : Nat} {x : List UInt8} (hq : q < s.V.length) (hx : x.length = 64) : Eqn (s.write q x) := by
  have h1 := h.lenS
  have h2 := h.lenL
  have e : (s.write q x).S.length = s.S.length := splice_len _ _ _ (by rw [hx]; omega)
  exact ⟨by rw [e, write_len]; exact h1, by rw [e]; exact h2⟩
theorem Eqn.wipeN {s : St} (h : Eqn s) (a : Nat) : ∀ k, a + k ≤ s.V.length → Eqn (wipeN s a k)
  | 0, _ => h
  | k + 1, hk => (Eqn.wipeN h a k (by omega)).write (by rw [wipeN_len]; omega) zeros64_len
theorem Eqn.putR {s : St} (h : Eqn s) (L P E : Nat) (h2 : 2 ≤ s.V.length) : Eqn (putR s L P E) := (h.write (by omega) (rootL_len _ _ _)).flA
theorem Eqn.fmt {s : St} (h : Eqn s) (L P : Nat) (h2 : 2 + L + P ≤ s.V.length) : Eqn (fmt s L P) := by
  unfold Go.Proofs.YtddjgncdjdjgeaaGreat.fmt
  exact Eqn.putR (((h.wipeN 0 2 (by omega)).flA.wipeN 2 (L + P) (by rw [flA_len, wipeN_len]; omega)).flA) L P 1 (by rw [flA_len, wipeN_len, flA_len, wipeN_len]; omega)
theorem Eqn.homeN {s : St} (h : Eqn s) {x : SV} (hr : rightR x.L x.P x.E s.V.length = true) (hp : x.pages.length = x.P) (h64 : ∀ l ∈ x.pages, l.length = 64) : ∀ k, k ≤ x.P → Eqn (homeN s x k)
  | 0, _ => h
  | k + 1, hk => by
    have h1 := rightR_true.1 hr
    have ih := Eqn.homeN h hr hp h64 k (by omega)
    show Eqn (if _ then _ else _)
    split
    · refine ih.write (by rw [homeN_len]; omega) ?_
      rw [List.getD_eq_getElem?_getD, List.getElem?_eq_getElem (by omega)]
      exact h64 _ (List.getElem_mem _)
    · exact ih
/-- .. with the records that last: the bytes of the log ahead of u. -/
structure KeptW (s : St) (x : SV) (ms : List (List ChV)) (u : Nat) : Prop where
  z : KeptZ s x ms
  eq : Eqn s
  alk : Alk s x.L u
  wtl : Wtl s x.L
  hu : u ≤ x.used
theorem KeptW.flA {s : St} {x : SV} {ms : List (List ChV)} {u : Nat} (h : KeptW s x ms u) : KeptW (flA s) x ms x.used := ⟨h.z.flA, h.eq.flA, alk_flA h.eq _ _, wtl_flA _ _, Nat.le_refl _⟩
theorem KeptW.com {s : St} {x : SV} {ms : List (List ChV)} {u : Nat} {m : List ChV} (h : KeptW s x ms u) (hm : InL x.P m) (hf : x.used + (18 + 66 * m.length) ≤ x.L * 64) : KeptW (comS s x m) (comV x m) (ms ++ [m]) u := by
  have h1 := rightR_true.1 h.z.k.rt
  have hl : (comL x m).length = 18 + 66 * m.length := by unfold comL; rw [frameL_len, back_len hm.1]; omega
  have h2 := h.eq.lenS
  have h3 := h.hu
  have hb : 128 + x.used + (comL x m).length ≤ s.S.length := by omega
  exact ⟨h.z.com hm hf, h.eq.apS hb, h.alk.apS hb (by omega) (by omega), h.wtl.apS (by omega) (by omega), by show u ≤ x.used + (18 + 66 * m.length); omega⟩
end Go.Proofs.YtddjgncdjdjgeaaGreat
namespace Go.Proofs.YtddjgncdjdjgeaaGreat
open Go.RowKit
def Sa (s : St) : Prop := Sane s s.V.length
theorem Sa.write {s : St} (h : Sa s) {q : Nat} {x : List UInt8} (hq : q < s.V.length) (hx : x.length = 64) : Sa (s.write q x) := by
  unfold Sa
  rw [write_len]
  exact Sane.write h hq hx
theorem Sa.flA {s : St} (h : Sa s) : Sa (flA s) := by
  unfold Sa Go.Proofs.YtddjgncdjdjgeaaGreat.flA
  rw [flush_len, flush_all rfl h.ll h.ls]
  exact ⟨falses_len _, h.ls, h.ls, fun _ _ _ _ _ => rfl⟩
theorem flA_is {s : St} (h : Sa s) : flA s = ⟨s.S, s.S, falses s.V.length⟩ := flush_all rfl h.ll h.ls
theorem Sa.wipeN {s : St} (h : Sa s) (a : Nat) : ∀ k, a + k ≤ s.V.length → Sa (wipeN s a k)
  | 0, _ => h
  | k + 1, hk => (Sa.wipeN h a k (by omega)).write (by rw [wipeN_len]; omega) zeros64_len
theorem Sa.putR {s : St} (h : Sa s) (L P E : Nat) (h2 : 2 ≤ s.V.length) : Sa (putR s L P E) := (h.write (by omega) (rootL_len _ _ _)).flA
theorem Sa.fmt {s : St} (h : Sa s) (L P : Nat) (h2 : 2 + L + P ≤ s.V.length) : Sa (fmt s L P) := by
  unfold Go.Proofs.YtddjgncdjdjgeaaGreat.fmt
  exact Sa.putR (((h.wipeN 0 2 (by omega)).flA.wipeN 2 (L + P) (by rw [flA_len, wipeN_len]; omega)).flA) L P 1 (by rw [flA_len, wipeN_len, flA_len, wipeN_len]; omega)
theorem Sa.homeN {s : St} (h : Sa s) {x : SV} (hr : rightR x.L x.P x.E s.V.length = true) (hp : x.pages.length = x.P) (h64 : ∀ l ∈ x.pages, l.length = 64) : ∀ k, k ≤ x.P → Sa (homeN s x k)
  | 0, _ => h
  | k + 1, hk => by
    have h1 := rightR_true.1 hr
    have ih := Sa.homeN h hr hp h64 k (by omega)
    show Sa (if _ then _ else _)
    split
    · refine ih.write (by rw [homeN_len]; omega) ?_
      rw [List.getD_eq_getElem?_getD, List.getElem?_eq_getElem (by omega)]
      exact h64 _ (List.getElem_mem _)
    · exact ih
theorem Sa.apS {s : St} (h : Sa s) {a : Nat} {b : List UInt8} (hb : a + b.length ≤ s.S.length) : Sa (apS s a b) := by
  unfold Sa
  rw [apS_V]
  refine ⟨apS_V s a b, h.ll, by show (splice s.S a b).length = _; rw [splice_len _ _ _ hb]; exact h.ls, fun j hj hv i hi => ?_⟩
  show s.L[_]? = (splice s.S a b)[_]?
  have hv' : ((List.range s.V.length).map fun j => s.V.getD j false || tch a b.length j)[j]? = some false := hv
  rw [List.getElem?_map, List.getElem?_range hj] at hv'
  simp only [Option.map_some, Option.some.injEq, Bool.or_eq_false_iff] at hv'
  have h2 : ¬ (0 < b.length ∧ j * 64 < a + b.length ∧ a < (j + 1) * 64) := by
    have := hv'.2
    unfold tch at this
    exact of_decide_eq_false this
  rw [splice_get _ _ _ _ hb, if_neg (by omega)]
  refine h.eq j hj ?_ i hi
  have := hv'.1
  rw [List.getD_eq_getElem?_getD, List.getElem?_eq_getElem hj] at this
  rw [List.getElem?_eq_getElem hj]
  exact congrArg some this
theorem Sa.ckS {s : St} (h : Sa s) {x : SV} (hr : rightR x.L x.P x.E s.V.length = true) (hp : x.pages.length = x.P) (h64 : ∀ l ∈ x.pages, l.length = 64) : Sa (ckS s x) := by
  have h1 := rightR_true.1 hr
  exact ((h.flA.homeN (by rw [flA_len]; exact hr) hp h64 x.P (Nat.le_refl _)).flA).putR _ _ _ (by rw [flA_len, homeN_len, flA_len]; omega)
theorem Sa.of_len {l : List UInt8} {n : Nat} (h : l.length = 64 * n) : Sa ⟨l, l, falses n⟩ := by
  unfold Sa
  show Sane _ (falses n).length
  rw [falses_len]
  exact ⟨falses_len n, h, h, fun _ _ _ _ _ => rfl⟩
/-- Behind a crash. -/
theorem Sa.crash {s : St} (h : Sa s) (cuts : List Int) : ∃ l, l.length = 64 * s.V.length ∧ s.crash (wl s.V s.V.length) cuts (wl s.V s.V.length).length = ⟨l, l, falses s.V.length⟩ := by
  obtain ⟨e2, e3⟩ := crash_same h cuts
  have e4 := (crash_quiet h cuts).1.ls
  generalize s.crash (wl s.V s.V.length) cuts (wl s.V s.V.length).length = t at e2 e3 e4
  obtain ⟨tL, tS, tV⟩ := t
  simp only at e2 e3 e4
  exact ⟨tS, e4, by rw [e2, e3]⟩
/-- .. kept, and sane. -/
structure KeptS (s : St) (x : SV) (ms : List (List ChV)) (u : Nat) : Prop where
  k : KeptW s x ms u
  sa : Sa s
theorem KeptS.flA {s : St} {x : SV} {ms : List (List ChV)} {u : Nat} (h : KeptS s x ms u) : KeptS (flA s) x ms x.used := ⟨h.k.flA, h.sa.flA⟩
theorem KeptS.com {s : St} {x : SV} {ms : List (List ChV)} {u : Nat} {m : List ChV} (h : KeptS s x ms u) (hm : InL x.P m) (hf : x.used + (18 + 66 * m.length) ≤ x.L * 64) : KeptS (comS s x m) (comV x m) (ms ++ [m]) u := by
  have h1 := rightR_true.1 h.k.z.k.rt
  have hl : (comL x m).length = 18 + 66 * m.length := by unfold comL; rw [frameL_len, back_len hm.1]; omega
  have h2 := h.k.eq.lenS
  exact ⟨h.k.com hm hf, h.sa.apS (by omega)⟩
end Go.Proofs.YtddjgncdjdjgeaaGreat
namespace Go.Proofs.YtddjgncdjdjgeaaGreat
open Go.RowKit
theorem Fr.lists {B : Nat} {w : World} {g n : Nat} {us : List Value} {ps : List (List UInt8)} (h : Fr B w g n us ps n) (h64 : ∀ l ∈ ps, l.length ≤ 1000) : Lists w us ps := by
  refine ⟨by rw [h.len, h.lenP], fun i v l hv hl => ?_⟩
  have hi : i < n := by rw [← h.lenP]; exact (List.getElem?_eq_some_iff.1 hl).1
  obtain ⟨x, h1, h2, _⟩ := h.at_ i hi l hl
  rw [hv] at h1
  injection h1 with h1
  exact ⟨_, _, _, h1, Bs.of_all h2 (by have := h64 l (List.mem_of_getElem? hl); omega)⟩
end Go.Proofs.YtddjgncdjdjgeaaGreat
