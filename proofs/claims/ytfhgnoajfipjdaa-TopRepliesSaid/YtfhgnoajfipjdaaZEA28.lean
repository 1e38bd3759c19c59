/-
  EA: EgRun2.
-/
import Derived.Test.YtfhgnoajfipjdaaZEA27
namespace Go.Proofs.Ytfhgnoajfipjdaa
open Go.RowKit
section
variable {P : EP} {W W' : World} {vs vc : Value} {s : EgV}
set_option maxHeartbeats 16000000 in
set_option maxRecDepth 100000 in
theorem erun_any {tr : Int} {s' : EgV} (h : Eg P W vs vc s) (hr : Rn P.us P.cd P.rs P.most s (tr, s')) : Calls Try.prog 54 #[.pointer (some ⟨P.g, 0, none⟩)] W (EgPost P W s' (.int .i64 tr)) := by
  obtain ⟨gp, hgp⟩ : ∃ gp, gp = P.g := ⟨_, rfl⟩
  have HGP := Lib.hid hgp
  rw [← hgp]
  have H0 := Lib.hid h
  have HR0 := Lib.hid hr
  clear h hr hgp
  go_enter Try.func54, Try.ntmps54
  go_wp2_with fail
  go_loopw [] (fun wr => ∃ s2 vs2 vc2, Hid (Eg P wr vs2 vc2 s2) ∧ Hid (Rn P.us P.cd P.rs P.most s2 (tr, s')) ∧ Hid (Fe P.K egT W wr)) (fun wr => runM gp wr)
  case atStart => exact ⟨s, vs, vc, H0, HR0, Lib.hid (Fe.refl _ _ _)⟩
  case round =>
    obtain ⟨s2, vs2, vc2, H2, HR2, HF2⟩ := hrel
    have HM := Lib.hid (show runM gp wr = 2 * s2.fuel + s2.cs.length from by rw [HGP.out]; exact H2.out.runM)
    obtain ⟨A8, n8, c8, hv8, hn8, _⟩ := H2.out.cslice
    have k8 : wr.cell? ⟨gp, 8, none⟩ = some (.slice A8 n8 c8) := by rw [HGP.out, ← hv8]; exact H2.out.rec_.cell 8
    rcases one_cases HR2.out with ⟨hcs, hr⟩ | ⟨ys, c, x, hcs, hx, hway⟩
    · have h0 : n8 = 0 := by rw [hn8, hcs]; rfl
      subst h0
      injection hr with hr1 hr2
      have HP := Lib.hid (show EgPost P W s' (.int .i64 tr) (.returned (.int .i64 0)) wr from by rw [hr1, hr2]; exact ⟨rfl, ⟨_, _, H2.out⟩, HF2.out⟩)
      clear hr1 hr2 hcs hn8 hv8
      go_wp2_with fail
      go_ret
      exact HP.out
    · clear k8 hv8 hn8
      obtain ⟨gc, cap, hv, hcap, hk, hlen, hcell, hfro⟩ := H2.out.cur hcs
      obtain ⟨k, hkk⟩ : ∃ k, k = ys.length := ⟨_, rfl⟩
      rw [← hkk] at hv hcap hk
      have HK := Lib.hid hkk
      have HV := Lib.hid hv
      have HCS := Lib.hid hcs
      have HX := Lib.hid hx
      have HLEN := Lib.hid hlen
      have k8 : wr.cell? ⟨gp, 8, none⟩ = some (.slice (some ⟨gc, 0, none⟩) (k + 1) cap) := by rw [HGP.out, ← hv]; exact H2.out.rec_.cell 8
      have HNOW := Lib.hid (now_any H2.out hv hk)
      rw [← HGP.out] at HNOW
      have c0 : wr.cell? ⟨gc, k * 28, none⟩ = some (.int .i64 (c.fn : Int)) := by rw [hkk]; exact hcell 0 _ rfl
      have c1 : wr.cell? ⟨gc, k * 28 + 1, none⟩ = some (.int .i64 (c.next : Int)) := by rw [hkk]; exact hcell 1 _ rfl
      clear hcell hfro hkk hv hcs hx
      go_wp2_with fail
      refine HNOW.out.mono ?_
      rintro e w1 ⟨rfl, hc1⟩
      have H3 := Lib.hid (H2.out.keep hc1)
      have HC1 := Lib.hid hc1
      have d0 := cell_keep c0 hc1
      have d1 := cell_keep c1 hc1
      have d8 := cell_keep k8 hc1
      clear hc1 c0 c1 k8 HNOW
      have d3 : w1.cell? ⟨gp, 3, none⟩ = some P.cv := by rw [HGP.out]; exact H3.out.rec_.cell 3
      obtain ⟨Av, cv, hcv, _⟩ := rown_slice H3.out.cod.own
      have hkx : c.fn < P.xs.length := (List.getElem?_eq_some_iff.1 HX.out).1
      have hx32 := H3.out.cod.lenb
      obtain ⟨gv, rfl, e0⟩ := rown_cell H3.out.cod.own hcv ((cdCs_get P.xs c.fn x 0 HX.out (by omega)).trans rfl)
      obtain ⟨_, hq, e1⟩ := rown_cell H3.out.cod.own hcv ((cdCs_get P.xs c.fn x 1 HX.out (by omega)).trans rfl)
      injection hq with hq; injection hq with hq; subst hq
      obtain ⟨_, hq, e2⟩ := rown_cell H3.out.cod.own hcv ((cdCs_get P.xs c.fn x 2 HX.out (by omega)).trans rfl)
      injection hq with hq; injection hq with hq; subst hq
      rw [Nat.add_zero] at e0
      rw [hcv] at d3
      have hmem : x ∈ P.xs := List.mem_of_getElem? HX.out
      have htok := H3.out.cod.toks x hmem
      have hgo := H3.out.cod.gos x hmem
      obtain ⟨hts, hgl⟩ := H3.out.cod.few x hmem
      obtain ⟨At, ct, htv, htc, _⟩ := rown_slice htok
      obtain ⟨Ag, cg, hgv, hgc, _⟩ := rown_slice hgo
      rw [htv] at e1
      rw [hgv] at e2
      have HTOK := Lib.hid htok
      have HGO := Lib.hid hgo
      have HTV := Lib.hid htv
      have HGV := Lib.hid hgv
      have HGL := Lib.hid hgl
      generalize hnt : x.c.ts.length = nt at e1 htc hts hway
      generalize hng : x.c.go.length = ng at e2 hgc
      have HNT := Lib.hid hnt
      have HNG := Lib.hid hng
      have hngt : ng = nt := by rw [← hng, ← hnt]; exact hgl
      subst hngt
      generalize hfn : c.fn = fn at d0 e0 e1 e2 hkx
      have HFN := Lib.hid hfn
      generalize hnx : c.next = nx at d1 hway
      have HNX := Lib.hid hnx
      generalize P.xs.length = np at *
      generalize (x.c.args : Int) = xa at e0
      clear hcv hmem htok hgo htv hgv hgl hnt hng hfn hnx
      have hfn0 : (0 : Int) ≤ (fn : Int) := by omega
      have hfn1 : (fn : Int) < (np : Int) := by omega
      go_wp2_with fail
      have hal := (Chg.refl [] w1).alloc (.cells #[.int .i64 0, .slice none 0 0, .slice none 0 0] 170)
      have q0 := cell_keep d0 hal
      have q3 := cell_keep d3 hal
      have p0 := cell_keep e0 hal
      have p1 := cell_keep e1 hal
      have p2 := cell_keep e2 hal
      go_region
      have hX := (Whole.new w1 170 [.int .i64 xa, .slice At ng ct, .slice Ag ng cg]).drew
      have hc2 := ((Chg.refl [] w1).alloc (.cells #[.int .i64 xa, .slice At ng ct, .slice Ag ng cg] 170)).drew
      obtain ⟨g4, hg4⟩ : ∃ g4, g4 = w1.heap.size := ⟨_, rfl⟩
      rw [← hg4] at hX ⊢
      have HG4 := Lib.hid (show P.g < g4 from by rw [hg4]; exact H3.out.rec_.lt)
      generalize (w1.alloc (.cells #[.int .i64 xa, .slice At ng ct, .slice Ag ng cg] 170)).drew = w2 at hX hc2 ⊢
      have H4 := Lib.hid (H3.out.keep hc2)
      have HX4 := Lib.hid hX
      have HC2 := Lib.hid (HC1.out.new hc2)
      have c1 := cell_keep d1 hc2
      have c8 := cell_keep d8 hc2
      clear d0 d1 d3 d8 e0 e1 e2 q0 q3 p0 p1 p2 hal hX hc2 hg4 H3 HC1
      have x1 := HX4.out.cell 1
      have x2 := HX4.out.cell 2
      rcases hway with ⟨hnn, hr⟩ | ⟨hnn, hf0, hr⟩ | ⟨hnn, hf0, t, go, tr1, s3, ht, hg, hst, hend⟩
      · subst hnn
        have HRN := Lib.hid hr
        clear hr
        go_wp2_with fail
        go_quiet (fail)
        have hc3 : Chg [] w2 (w2.drewN nq) := (Chg.refl [] w2).drewN nq
        generalize w2.drewN nq = w3 at hc3 ⊢
        have H5 := Lib.hid (H4.out.keep hc3)
        have HC3 := Lib.hid (HC2.out.new hc3)
        have b8 := cell_keep c8 hc3
        clear hc3 c1 c8 x1 x2 H4 HX4 HC2
        have f8 : w3.frozen? ⟨gp, 8, none⟩ = false := by rw [HGP.out]; exact H5.out.rec_.frozen 8
        have hkI : IntKind.i64.wrap ((k : Int) + 1 - 1) = (k : Int) := by rw [show (k : Int) + 1 - 1 = (k : Int) from by omega]; exact IntWalk.i64_in _ (by omega)
        have hk2 : IntKind.i64.wrap (k : Int) = (k : Int) := IntWalk.i64_in _ (by omega)
        have hk3 : (k : Int).toNat = k := Int.toNat_natCast _
        have hk5 : (k : Int) ≤ (cap : Int) := by omega
        have hk6 : (0 : Int) ≤ (k : Int) := by omega
        have hk7 : k ≤ cap := by omega
        have b8d : w3.drew.cell? ⟨gp, 8, none⟩ = some (.slice (some ⟨gc, 0, none⟩) (k + 1) cap) := b8
        have f8d : w3.drew.frozen? ⟨gp, 8, none⟩ = false := f8
        have HB := Lib.hid (show Eg P (w3.drew.setCell ⟨gp, 8, none⟩ (.slice (some ⟨gc, 0, none⟩) k cap)) vs2 (.slice (some ⟨gc, 0, none⟩) k cap) (s2.calls ys) ∧ Fe P.K egT w3 (w3.drew.setCell ⟨gp, 8, none⟩ (.slice (some ⟨gc, 0, none⟩) k cap)) from by
          have := H5.out.back HCS.out (by rw [← HK.out]; exact HV.out) ((Chg.refl [] w3).drew)
          rw [← HK.out] at this
          rw [HGP.out]
          exact this)
        go_wp2_with fail
        go_still_tail 14, (by kernel_rfl)
        change wpList _ _ _ _ _ w3.drew
        go_wp2_with fail
        go_roundw
        case rel => exact ⟨_, _, _, Lib.hid HB.out.1, HRN, Lib.hid ((HF2.out.new HC3.out).trans HB.out.2)⟩
        case measure =>
          have := HB.out.1.runM
          rw [← HGP.out] at this
          change runM gp (w3.drew.setCell ⟨gp, 8, none⟩ (.slice (some ⟨gc, 0, none⟩) k cap)) < runM gp wr
          rw [this, HM.out]
          show 2 * s2.fuel + ys.length < _
          rw [HCS.out]
          simp
      · have hne : ((nx : Int) == (ng : Int)) = false := by simp; omega
        injection hr with hr1 hr2
        have HR := Lib.hid (And.intro hr1 hr2)
        clear hnn hr1 hr2
        go_wp2_with fail
        go_quiet (fail)
        have hc3 : Chg [] w2 (w2.drewN nq) := (Chg.refl [] w2).drewN nq
        generalize w2.drewN nq = w3 at hc3 ⊢
        have H5 := Lib.hid (H4.out.keep hc3)
        have HC3 := Lib.hid (HC2.out.new hc3)
        clear hc3 c1 c8 x1 x2 H4 HX4 HC2
        have b6 : w3.cell? ⟨gp, 6, none⟩ = some (.int .i64 0) := by rw [HGP.out]; have := H5.out.rec_.cell 6; rw [this]; unfold wkC; rw [hf0]; rfl
        have HP := Lib.hid (show EgPost P W s' (.int .i64 tr) (.returned (.int .i64 1)) w3 from by rw [HR.out.1, HR.out.2]; exact ⟨rfl, ⟨_, _, H5.out⟩, HF2.out.new HC3.out⟩)
        clear hf0
        go_wp2_with fail
        go_ret
        exact HP.out
      · have hne : ((nx : Int) == (ng : Int)) = false := by simp; omega
        have hlt : nx < ng := by rw [← HNT.out]; exact (List.getElem?_eq_some_iff.1 ht).1
        clear hnn
        go_wp2_with fail
        go_quiet (fail)
        have hc3 : Chg [] w2 (w2.drewN nq) := (Chg.refl [] w2).drewN nq
        generalize w2.drewN nq = w3 at hc3 ⊢
        have H5 := Lib.hid (H4.out.keep hc3)
        have HC3 := Lib.hid (HC2.out.new hc3)
        have HX5 := Lib.hid (HX4.out.keep hc3)
        clear hc3 c1 c8 x1 x2 H4 HX4 HC2
        have hfb := H5.out.fuelb
        have HBU := Lib.hid (H5.out.burn hf0)
        have b6 : w3.cell? ⟨gp, 6, none⟩ = some (.int .i64 (s2.fuel : Int)) := by rw [HGP.out]; exact H5.out.rec_.cell 6
        have f6 : w3.frozen? ⟨gp, 6, none⟩ = false := by rw [HGP.out]; exact H5.out.rec_.frozen 6
        obtain ⟨fu, hfu⟩ : ∃ fu, fu = s2.fuel := ⟨_, rfl⟩
        rw [← hfu] at b6 hf0 hfb
        have HFU := Lib.hid hfu
        have hz : ((fu : Int) == 0) = false := by simp; omega
        have hw6 : IntKind.i64.wrap ((fu : Int) - 1) = (fu : Int) - 1 := IntWalk.i64_in _ (by omega)
        rw [← HGP.out, ← hfu] at HBU
        clear hfu
        go_upto_region 9 with fail
        have HX6 := Lib.hid (HX5.out.far (p := ⟨gp, 6, none⟩) (by have := HG4.out; have := HGP.out; simp only; omega) (.int .i64 ((fu : Int) - 1)))
        generalize w3.setCell ⟨gp, 6, none⟩ (.int .i64 ((fu : Int) - 1)) = w4 at HBU HX6 ⊢
        have H6 := Lib.hid HBU.out.1
        have HF6 := Lib.hid ((HF2.out.new HC3.out).trans HBU.out.2)
        clear b6 f6 HBU HX5 H5 HC3
        obtain ⟨_, _, hvv, _, _, _, hcell, hfro⟩ := H6.out.cur (ys := ys) (c := c) HCS.out
        rw [HV.out] at hvv
        injection hvv with hvv _ _; injection hvv with hvv; injection hvv with hvv
        subst hvv
        have d1 : w4.cell? ⟨gc, k * 28 + 1, none⟩ = some (.int .i64 (nx : Int)) := by rw [HK.out, ← HNX.out]; exact hcell 1 _ rfl
        clear hcell hfro
        have hmem : x ∈ P.xs := List.mem_of_getElem? HX.out
        have htok := H6.out.cod.toks x hmem
        have hgo := H6.out.cod.gos x hmem
        rw [HTV.out, HNT.out] at htok
        rw [HGV.out, HNG.out] at hgo
        obtain ⟨tsg, tn, tnm⟩ := t
        obtain ⟨gt, rfl, y0⟩ := rown_cell htok rfl ((tkCs_get x.c.ts nx ⟨tsg, tn, tnm⟩ 0 ht (by omega)).trans (show (tkC ⟨tsg, tn, tnm⟩)[0]? = some (.int .i32 tsg) from rfl))
        obtain ⟨_, hq, y1⟩ := rown_cell htok rfl ((tkCs_get x.c.ts nx ⟨tsg, tn, tnm⟩ 1 ht (by omega)).trans (show (tkC ⟨tsg, tn, tnm⟩)[1]? = some (.int .i64 tn) from rfl))
        injection hq with hq; injection hq with hq; subst hq
        obtain ⟨_, hq, y2⟩ := rown_cell htok rfl ((tkCs_get x.c.ts nx ⟨tsg, tn, tnm⟩ 2 ht (by omega)).trans (show (tkC ⟨tsg, tn, tnm⟩)[2]? = some (.int .i32 tnm) from rfl))
        injection hq with hq; injection hq with hq; subst hq
        obtain ⟨gg, rfl, z0⟩ := rown_cell (j := nx) (u := .int .i64 go) hgo rfl (by simp [nms, hg])
        rw [Nat.add_zero] at y0
        have x1 := HX6.out.cell 1
        have x2 := HX6.out.cell 2
        have hal := (Chg.refl [] w4).alloc (.cells #[.int .i32 0, .int .i64 0, .int .i32 0] 167)
        have q1 := cell_keep d1 hal
        have q2 := cell_keep (show w4.cell? ⟨g4, 1, none⟩ = some (.slice (some ⟨gt, 0, none⟩) ng ct) from x1) hal
        have q3 := cell_keep (show w4.cell? ⟨g4, 2, none⟩ = some (.slice (some ⟨gg, 0, none⟩) ng cg) from x2) hal
        have p0 := cell_keep y0 hal
        have p1 := cell_keep y1 hal
        have p2 := cell_keep y2 hal
        have p3 := cell_keep z0 hal
        have hal2 := (Chg.refl [] w4).alloc (.cells #[.int .i32 tsg, .int .i64 tn, .int .i32 tnm] 167)
        have v1 := cell_keep d1 hal2
        have v2 := cell_keep (show w4.cell? ⟨g4, 1, none⟩ = some (.slice (some ⟨gt, 0, none⟩) ng ct) from x1) hal2
        have v3 := cell_keep (show w4.cell? ⟨g4, 2, none⟩ = some (.slice (some ⟨gg, 0, none⟩) ng cg) from x2) hal2
        have v4 := cell_keep z0 hal2
        have hn0 : (0 : Int) ≤ (nx : Int) := by omega
        have hn1 : (nx : Int) < (ng : Int) := by omega
        have HT := Lib.hid ht
        have HG := Lib.hid hg
        clear htok hgo hmem hlt ht hg
        obtain ⟨g5, hg5⟩ : ∃ g5, g5 = w4.heap.size := ⟨_, rfl⟩
        have HG5 := Lib.hid (show gc < g5 from by rw [hg5]; have := block_lt_of_cell d1; simpa using this)
        have HREL := Lib.hid (show ∃ g5, Value.pointer (some ⟨w4.heap.size, 0, none⟩) = .pointer (some ⟨g5, 0, none⟩) ∧ Value.int .i64 go = .int .i64 go ∧ gc < g5 ∧ Hid (Chg [] w4 (w4.alloc (.cells #[.int .i32 tsg, .int .i64 tn, .int .i32 tnm] 167)).drew) ∧ Hid (Whole (w4.alloc (.cells #[.int .i32 tsg, .int .i64 tn, .int .i32 tnm] 167)).drew g5 167 [.int .i32 tsg, .int .i64 tn, .int .i32 tnm]) from
          ⟨g5, by rw [hg5], rfl, HG5.out, Lib.hid hal2.drew, Lib.hid (by rw [hg5]; exact (Whole.new w4 167 [.int .i32 tsg, .int .i64 tn, .int .i32 tnm]).drew)⟩)
        clear hg5 HG5
        go_cut [5, 6] (fun a b wx => ∃ g5, a = .pointer (some ⟨g5, 0, none⟩) ∧ b = .int .i64 go ∧ gc < g5 ∧ Hid (Chg [] w4 wx) ∧ Hid (Whole wx g5 167 [.int .i32 tsg, .int .i64 tn, .int .i32 tnm]))
        case first =>
          go_region
          go_wp2_with fail
          go_meet
          obtain ⟨g5, e1, _, e3, e4, e5⟩ := HREL.out
          exact ⟨g5, e1, rfl, e3, e4, e5⟩
        case rest =>
        obtain ⟨g5, rfl, rfl, hg5, HCW, HXW⟩ := hcut
        clear q1 q2 q3 p0 p1 p2 p3 v1 v2 v3 v4 hal hal2 y0 y1 y2 z0 x1 x2 HREL
        obtain ⟨w5, hw5⟩ : ∃ w5 : World, w5 = wc := ⟨_, rfl⟩
        subst hw5
        have hc5 := HCW.out
        have hX := HXW.out
        have HG5 := Lib.hid hg5
        have H7 := Lib.hid (H6.out.keep hc5)
        have HF7 := Lib.hid (HF6.out.new hc5)
        have c1 := cell_keep d1 hc5
        have HX7 := Lib.hid hX
        have HSET := Lib.hid (H7.out.callset (ys := ys) (c := c) HCS.out HV.out (Chg.refl [] w5) (j := 1) (.int .i64 ((nx : Int) + 1)) (clC_next c ((nx : Int) + 1) (by omega)) HLEN.out)
        rw [← HK.out] at HSET
        have fc : w5.frozen? ⟨gc, k * 28 + 1, none⟩ = false := by
          obtain ⟨_, _, hv2, _, _, _, _, hf2⟩ := H7.out.cur (ys := ys) (c := c) HCS.out
          rw [HV.out] at hv2
          injection hv2 with e _ _; injection e with e; injection e with e
          rw [e]
          exact hf2 _
        clear d1 hX hc5 hg5 H6 HX6 HCW HXW
        have hwn : IntKind.i64.wrap ((nx : Int) + 1) = (nx : Int) + 1 := IntWalk.i64_in _ (by omega)
        go_upto_region 11 with fail
        have HX8 := Lib.hid (HX7.out.far (p := ⟨gc, k * 28 + 1, none⟩) (by have := HG5.out; simp only; omega) (.int .i64 ((nx : Int) + 1)))
        generalize w5.setCell ⟨gc, k * 28 + 1, none⟩ (.int .i64 ((nx : Int) + 1)) = w6 at HSET HX8 ⊢
        clear c1 fc
        have e0 := HX8.out.cell 0
        have e1 := HX8.out.cell 1
        have e2 := HX8.out.cell 2
        have HSTP := Lib.hid (show StepC P w6 ⟨tsg, tn, tnm⟩ go tr1 s3 from by
          have hEg := HSET.out.1
          rw [show ((nx : Int) + 1).toNat = nx + 1 from by omega, HFU.out] at hEg
          refine estep_any (s := ⟨s2.fuel - 1, s2.st, ys ++ [c.at_ (nx + 1)], s2.L, s2.V, s2.qs⟩) hEg hst ?_ ?_
          · have := H2.out.stkb
            show s2.st.length + (s2.fuel - 1) ≤ _
            have := HFU.out
            omega
          · have := H2.out.qsb
            show s2.qs.length + (s2.fuel - 1) ≤ _
            have := HFU.out
            omega)
        unfold StepC at HSTP
        simp only [tkC] at HSTP
        rw [← HGP.out] at HSTP
        have HF8 := Lib.hid (HF7.out.trans HSET.out.2)
        have HLESS := Lib.hid (show 2 * s3.fuel + s3.cs.length < 2 * s2.fuel + s2.cs.length from by
          have q1 := step_fu hst
          have q2 := step_cs hst
          have q3 := HCS.out
          have q4 := HFU.out
          simp only [List.length_append, List.length_singleton] at q1 q2
          rw [q3, List.length_append, List.length_singleton]
          omega)
        clear hst
        go_wp2_with fail
        refine HSTP.out.mono ?_
        rintro e w8 ⟨rfl, ⟨vs8, vc8, h8⟩, hf8⟩
        have H8 := Lib.hid h8
        have HF9 := Lib.hid (HF8.out.trans hf8)
        clear h8 hf8 e0 e1 e2
        rcases hend with ⟨rfl, hrn⟩ | ⟨htr, hend⟩
        · have HRN := Lib.hid hrn
          clear hrn
          go_wp2_with fail
          go_roundw
          case rel => exact ⟨_, _, _, H8, HRN, HF9⟩
          case measure =>
            have := H8.out.runM
            rw [← HGP.out] at this
            rw [this, HM.out]
            exact HLESS.out
        · injection hend with he1 he2
          have hz1 : (tr1 != 0) = true := by simpa using htr
          have HP := Lib.hid (show EgPost P W s' (.int .i64 tr) (.returned (.int .i64 tr1)) w8 from by rw [he1, he2]; exact ⟨rfl, ⟨_, _, H8.out⟩, HF9.out⟩)
          clear he1 he2 htr
          go_wp2_with fail
          go_ret
          exact HP.out
end
end Go.Proofs.Ytfhgnoajfipjdaa
