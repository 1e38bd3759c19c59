/-
  EC: EgRun2, EngEdges, EngSafe, EngStk.
-/
import Derived.Test.YtfhgnoajfipjdaaZEC25
import Derived.Test.YtfhgnoajfipjdaaZEC26
import Derived.Test.YtfhgnoajfipjdaaZEC32
namespace Go.Proofs.Ytfhgnoajfipjdaa
open Go.RowKit
section
variable {P : EP} {W W' : World} {vs vc : Value} {s : EgV}
set_option maxHeartbeats 16000000 in
set_option maxRecDepth 100000 in
theorem erun_any {tr : Int} {s' : EgV} (h : Eg P W vs vc s) (hr : Rn P.us P.cd P.rs P.most s (tr, s')) : Calls Try.prog 54 #[.pointer (some ⟨P.g, 0, none⟩)] W (EgPost P W s' (.int .i64 tr)) := by
  obtain ⟨gp, hgp⟩ : ∃ gp, gp = P.g := ⟨_, rfl⟩
  have HGP := Lib.hid hgp
  rw [← hgp]
  have H0 := Lib.hid h
  have HR0 := Lib.hid hr
  clear h hr hgp
  go_enter Try.func54, Try.ntmps54
  go_wp2_with fail
  go_loopw [] (fun wr => ∃ s2 vs2 vc2, Hid (Eg P wr vs2 vc2 s2) ∧ Hid (Rn P.us P.cd P.rs P.most s2 (tr, s')) ∧ Hid (Fe P.K egT W wr)) (fun wr => runM gp wr)
  case atStart => exact ⟨s, vs, vc, H0, HR0, Lib.hid (Fe.refl _ _ _)⟩
  case round =>
    obtain ⟨s2, vs2, vc2, H2, HR2, HF2⟩ := hrel
    have HM := Lib.hid (show runM gp wr = 2 * s2.fuel + s2.cs.length from by rw [HGP.out]; exact H2.out.runM)
    obtain ⟨A8, n8, c8, hv8, hn8, _⟩ := H2.out.cslice
    have k8 : wr.cell? ⟨gp, 8, none⟩ = some (.slice A8 n8 c8) := by rw [HGP.out, ← hv8]; exact H2.out.rec_.cell 8
    rcases one_cases HR2.out with ⟨hcs, hr⟩ | ⟨ys, c, x, hcs, hx, hway⟩
    · have h0 : n8 = 0 := by rw [hn8, hcs]; rfl
      subst h0
      injection hr with hr1 hr2
      have HP := Lib.hid (show EgPost P W s' (.int .i64 tr) (.returned (.int .i64 0)) wr from by rw [hr1, hr2]; exact ⟨rfl, ⟨_, _, H2.out⟩, HF2.out⟩)
      clear hr1 hr2 hcs hn8 hv8
      go_wp2_with fail
      go_ret
      exact HP.out
    · clear k8 hv8 hn8
      obtain ⟨gc, cap, hv, hcap, hk, hlen, hcell, hfro⟩ := H2.out.cur hcs
      obtain ⟨k, hkk⟩ : ∃ k, k = ys.length := ⟨_, rfl⟩
      rw [← hkk] at hv hcap hk
      have HK := Lib.hid hkk
      have HV := Lib.hid hv
      have HCS := Lib.hid hcs
      have HX := Lib.hid hx
      have HLEN := Lib.hid hlen
      have k8 : wr.cell? ⟨gp, 8, none⟩ = some (.slice (some ⟨gc, 0, none⟩) (k + 1) cap) := by rw [HGP.out, ← hv]; exact H2.out.rec_.cell 8
      have HNOW := Lib.hid (now_any H2.out hv hk)
      rw [← HGP.out] at HNOW
      have c0 : wr.cell? ⟨gc, k * 28, none⟩ = some (.int .i64 (c.fn : Int)) := by rw [hkk]; exact hcell 0 _ rfl
      have c1 : wr.cell? ⟨gc, k * 28 + 1, none⟩ = some (.int .i64 (c.next : Int)) := by rw [hkk]; exact hcell 1 _ rfl
      clear hcell hfro hkk hv hcs hx
      go_wp2_with fail
      refine HNOW.out.mono ?_
      rintro e w1 ⟨rfl, hc1⟩
      have H3 := Lib.hid (H2.out.keep hc1)
      have HC1 := Lib.hid hc1
      have d0 := cell_keep c0 hc1
      have d1 := cell_keep c1 hc1
      have d8 := cell_keep k8 hc1
      clear hc1 c0 c1 k8 HNOW
      have d3 : w1.cell? ⟨gp, 3, none⟩ = some P.cv := by rw [HGP.out]; exact H3.out.rec_.cell 3
      obtain ⟨Av, cv, hcv, _⟩ := rown_slice H3.out.cod.own
      have hkx : c.fn < P.xs.length := (List.getElem?_eq_some_iff.1 HX.out).1
      have hx32 := H3.out.cod.lenb
      obtain ⟨gv, rfl, e0⟩ := rown_cell H3.out.cod.own hcv ((cdCs_get P.xs c.fn x 0 HX.out (by omega)).trans rfl)
      obtain ⟨_, hq, e1⟩ := rown_cell H3.out.cod.own hcv ((cdCs_get P.xs c.fn x 1 HX.out (by omega)).trans rfl)
      injection hq with hq; injection hq with hq; subst hq
      obtain ⟨_, hq, e2⟩ := rown_cell H3.out.cod.own hcv ((cdCs_get P.xs c.fn x 2 HX.out (by omega)).trans rfl)
      injection hq with hq; injection hq with hq; subst hq
      rw [Nat.add_zero] at e0
      rw [hcv] at d3
      have hmem : x ∈ P.xs := List.mem_of_getElem? HX.out
      have htok := H3.out.cod.toks x hmem
      have hgo := H3.out.cod.gos x hmem
      obtain ⟨hts, hgl⟩ := H3.out.cod.few x hmem
      obtain ⟨At, ct, htv, htc, _⟩ := rown_slice htok
      obtain ⟨Ag, cg, hgv, hgc, _⟩ := rown_slice hgo
      rw [htv] at e1
      rw [hgv] at e2
      have HTOK := Lib.hid htok
      have HGO := Lib.hid hgo
      have HTV := Lib.hid htv
      have HGV := Lib.hid hgv
      have HGL := Lib.hid hgl
      generalize hnt : x.c.ts.length = nt at e1 htc hts hway
      generalize hng : x.c.go.length = ng at e2 hgc
      have HNT := Lib.hid hnt
      have HNG := Lib.hid hng
      have hngt : ng = nt := by rw [← hng, ← hnt]; exact hgl
      subst hngt
      generalize hfn : c.fn = fn at d0 e0 e1 e2 hkx
      have HFN := Lib.hid hfn
      generalize hnx : c.next = nx at d1 hway
      have HNX := Lib.hid hnx
      generalize P.xs.length = np at *
      generalize (x.c.args : Int) = xa at e0
      clear hcv hmem htok hgo htv hgv hgl hnt hng hfn hnx
      have hfn0 : (0 : Int) ≤ (fn : Int) := by omega
      have hfn1 : (fn : Int) < (np : Int) := by omega
      go_wp2_with fail
      have hal := (Chg.refl [] w1).alloc (.cells #[.int .i64 0, .slice none 0 0, .slice none 0 0] 170)
      have q0 := cell_keep d0 hal
      have q3 := cell_keep d3 hal
      have p0 := cell_keep e0 hal
      have p1 := cell_keep e1 hal
      have p2 := cell_keep e2 hal
      go_region
      have hX := (Whole.new w1 170 [.int .i64 xa, .slice At ng ct, .slice Ag ng cg]).drew
      have hc2 := ((Chg.refl [] w1).alloc (.cells #[.int .i64 xa, .slice At ng ct, .slice Ag ng cg] 170)).drew
      obtain ⟨g4, hg4⟩ : ∃ g4, g4 = w1.heap.size := ⟨_, rfl⟩
      rw [← hg4] at hX ⊢
      have HG4 := Lib.hid (show P.g < g4 from by rw [hg4]; exact H3.out.rec_.lt)
      generalize (w1.alloc (.cells #[.int .i64 xa, .slice At ng ct, .slice Ag ng cg] 170)).drew = w2 at hX hc2 ⊢
      have H4 := Lib.hid (H3.out.keep hc2)
      have HX4 := Lib.hid hX
      have HC2 := Lib.hid (HC1.out.new hc2)
      have c1 := cell_keep d1 hc2
      have c8 := cell_keep d8 hc2
      clear d0 d1 d3 d8 e0 e1 e2 q0 q3 p0 p1 p2 hal hX hc2 hg4 H3 HC1
      have x1 := HX4.out.cell 1
      have x2 := HX4.out.cell 2
      rcases hway with ⟨hnn, hr⟩ | ⟨hnn, hf0, hr⟩ | ⟨hnn, hf0, t, go, tr1, s3, ht, hg, hst, hend⟩
      · subst hnn
        have HRN := Lib.hid hr
        clear hr
        go_wp2_with fail
        go_quiet (fail)
        have hc3 : Chg [] w2 (w2.drewN nq) := (Chg.refl [] w2).drewN nq
        generalize w2.drewN nq = w3 at hc3 ⊢
        have H5 := Lib.hid (H4.out.keep hc3)
        have HC3 := Lib.hid (HC2.out.new hc3)
        have b8 := cell_keep c8 hc3
        clear hc3 c1 c8 x1 x2 H4 HX4 HC2
        have f8 : w3.frozen? ⟨gp, 8, none⟩ = false := by rw [HGP.out]; exact H5.out.rec_.frozen 8
        have hkI : IntKind.i64.wrap ((k : Int) + 1 - 1) = (k : Int) := by rw [show (k : Int) + 1 - 1 = (k : Int) from by omega]; exact IntWalk.i64_in _ (by omega)
        have hk2 : IntKind.i64.wrap (k : Int) = (k : Int) := IntWalk.i64_in _ (by omega)
        have hk3 : (k : Int).toNat = k := Int.toNat_natCast _
        have hk5 : (k : Int) ≤ (cap : Int) := by omega
        have hk6 : (0 : Int) ≤ (k : Int) := by omega
        have hk7 : k ≤ cap := by omega
        have b8d : w3.drew.cell? ⟨gp, 8, none⟩ = some (.slice (some ⟨gc, 0, none⟩) (k + 1) cap) := b8
        have f8d : w3.drew.frozen? ⟨gp, 8, none⟩ = false := f8
        have HB := Lib.hid (show Eg P (w3.drew.setCell ⟨gp, 8, none⟩ (.slice (some ⟨gc, 0, none⟩) k cap)) vs2 (.slice (some ⟨gc, 0, none⟩) k cap) (s2.calls ys) ∧ Fe P.K egT w3 (w3.drew.setCell ⟨gp, 8, none⟩ (.slice (some ⟨gc, 0, none⟩) k cap)) from by
          have := H5.out.back HCS.out (by rw [← HK.out]; exact HV.out) ((Chg.refl [] w3).drew)
          rw [← HK.out] at this
          rw [HGP.out]
          exact this)
        go_wp2_with fail
        go_still_tail 14, (by kernel_rfl)
        change wpList _ _ _ _ _ w3.drew
        go_wp2_with fail
        go_roundw
        case rel => exact ⟨_, _, _, Lib.hid HB.out.1, HRN, Lib.hid ((HF2.out.new HC3.out).trans HB.out.2)⟩
        case measure =>
          have := HB.out.1.runM
          rw [← HGP.out] at this
          change runM gp (w3.drew.setCell ⟨gp, 8, none⟩ (.slice (some ⟨gc, 0, none⟩) k cap)) < runM gp wr
          rw [this, HM.out]
          show 2 * s2.fuel + ys.length < _
          rw [HCS.out]
          simp
      · have hne : ((nx : Int) == (ng : Int)) = false := by simp; omega
        injection hr with hr1 hr2
        have HR := Lib.hid (And.intro hr1 hr2)
        clear hnn hr1 hr2
        go_wp2_with fail
        go_quiet (fail)
        have hc3 : Chg [] w2 (w2.drewN nq) := (Chg.refl [] w2).drewN nq
        generalize w2.drewN nq = w3 at hc3 ⊢
        have H5 := Lib.hid (H4.out.keep hc3)
        have HC3 := Lib.hid (HC2.out.new hc3)
        clear hc3 c1 c8 x1 x2 H4 HX4 HC2
        have b6 : w3.cell? ⟨gp, 6, none⟩ = some (.int .i64 0) := by rw [HGP.out]; have := H5.out.rec_.cell 6; rw [this]; unfold wkC; rw [hf0]; rfl
        have HP := Lib.hid (show EgPost P W s' (.int .i64 tr) (.returned (.int .i64 1)) w3 from by rw [HR.out.1, HR.out.2]; exact ⟨rfl, ⟨_, _, H5.out⟩, HF2.out.new HC3.out⟩)
        clear hf0
        go_wp2_with fail
        go_ret
        exact HP.out
      · have hne : ((nx : Int) == (ng : Int)) = false := by simp; omega
        have hlt : nx < ng := by rw [← HNT.out]; exact (List.getElem?_eq_some_iff.1 ht).1
        clear hnn
        go_wp2_with fail
        go_quiet (fail)
        have hc3 : Chg [] w2 (w2.drewN nq) := (Chg.refl [] w2).drewN nq
        generalize w2.drewN nq = w3 at hc3 ⊢
        have H5 := Lib.hid (H4.out.keep hc3)
        have HC3 := Lib.hid (HC2.out.new hc3)
        have HX5 := Lib.hid (HX4.out.keep hc3)
        clear hc3 c1 c8 x1 x2 H4 HX4 HC2
        have hfb := H5.out.fuelb
        have HBU := Lib.hid (H5.out.burn hf0)
        have b6 : w3.cell? ⟨gp, 6, none⟩ = some (.int .i64 (s2.fuel : Int)) := by rw [HGP.out]; exact H5.out.rec_.cell 6
        have f6 : w3.frozen? ⟨gp, 6, none⟩ = false := by rw [HGP.out]; exact H5.out.rec_.frozen 6
        obtain ⟨fu, hfu⟩ : ∃ fu, fu = s2.fuel := ⟨_, rfl⟩
        rw [← hfu] at b6 hf0 hfb
        have HFU := Lib.hid hfu
        have hz : ((fu : Int) == 0) = false := by simp; omega
        have hw6 : IntKind.i64.wrap ((fu : Int) - 1) = (fu : Int) - 1 := IntWalk.i64_in _ (by omega)
        rw [← HGP.out, ← hfu] at HBU
        clear hfu
        go_upto_region 9 with fail
        have HX6 := Lib.hid (HX5.out.far (p := ⟨gp, 6, none⟩) (by have := HG4.out; have := HGP.out; simp only; omega) (.int .i64 ((fu : Int) - 1)))
        generalize w3.setCell ⟨gp, 6, none⟩ (.int .i64 ((fu : Int) - 1)) = w4 at HBU HX6 ⊢
        have H6 := Lib.hid HBU.out.1
        have HF6 := Lib.hid ((HF2.out.new HC3.out).trans HBU.out.2)
        clear b6 f6 HBU HX5 H5 HC3
        obtain ⟨_, _, hvv, _, _, _, hcell, hfro⟩ := H6.out.cur (ys := ys) (c := c) HCS.out
        rw [HV.out] at hvv
        injection hvv with hvv _ _; injection hvv with hvv; injection hvv with hvv
        subst hvv
        have d1 : w4.cell? ⟨gc, k * 28 + 1, none⟩ = some (.int .i64 (nx : Int)) := by rw [HK.out, ← HNX.out]; exact hcell 1 _ rfl
        clear hcell hfro
        have hmem : x ∈ P.xs := List.mem_of_getElem? HX.out
        have htok := H6.out.cod.toks x hmem
        have hgo := H6.out.cod.gos x hmem
        rw [HTV.out, HNT.out] at htok
        rw [HGV.out, HNG.out] at hgo
        obtain ⟨tsg, tn, tnm⟩ := t
        obtain ⟨gt, rfl, y0⟩ := rown_cell htok rfl ((tkCs_get x.c.ts nx ⟨tsg, tn, tnm⟩ 0 ht (by omega)).trans (show (tkC ⟨tsg, tn, tnm⟩)[0]? = some (.int .i32 tsg) from rfl))
        obtain ⟨_, hq, y1⟩ := rown_cell htok rfl ((tkCs_get x.c.ts nx ⟨tsg, tn, tnm⟩ 1 ht (by omega)).trans (show (tkC ⟨tsg, tn, tnm⟩)[1]? = some (.int .i64 tn) from rfl))
        injection hq with hq; injection hq with hq; subst hq
        obtain ⟨_, hq, y2⟩ := rown_cell htok rfl ((tkCs_get x.c.ts nx ⟨tsg, tn, tnm⟩ 2 ht (by omega)).trans (show (tkC ⟨tsg, tn, tnm⟩)[2]? = some (.int .i32 tnm) from rfl))
        injection hq with hq; injection hq with hq; subst hq
        obtain ⟨gg, rfl, z0⟩ := rown_cell (j := nx) (u := .int .i64 go) hgo rfl (by simp [nms, hg])
        rw [Nat.add_zero] at y0
        have x1 := HX6.out.cell 1
        have x2 := HX6.out.cell 2
        have hal := (Chg.refl [] w4).alloc (.cells #[.int .i32 0, .int .i64 0, .int .i32 0] 167)
        have q1 := cell_keep d1 hal
        have q2 := cell_keep (show w4.cell? ⟨g4, 1, none⟩ = some (.slice (some ⟨gt, 0, none⟩) ng ct) from x1) hal
        have q3 := cell_keep (show w4.cell? ⟨g4, 2, none⟩ = some (.slice (some ⟨gg, 0, none⟩) ng cg) from x2) hal
        have p0 := cell_keep y0 hal
        have p1 := cell_keep y1 hal
        have p2 := cell_keep y2 hal
        have p3 := cell_keep z0 hal
        have hal2 := (Chg.refl [] w4).alloc (.cells #[.int .i32 tsg, .int .i64 tn, .int .i32 tnm] 167)
        have v1 := cell_keep d1 hal2
        have v2 := cell_keep (show w4.cell? ⟨g4, 1, none⟩ = some (.slice (some ⟨gt, 0, none⟩) ng ct) from x1) hal2
        have v3 := cell_keep (show w4.cell? ⟨g4, 2, none⟩ = some (.slice (some ⟨gg, 0, none⟩) ng cg) from x2) hal2
        have v4 := cell_keep z0 hal2
        have hn0 : (0 : Int) ≤ (nx : Int) := by omega
        have hn1 : (nx : Int) < (ng : Int) := by omega
        have HT := Lib.hid ht
        have HG := Lib.hid hg
        clear htok hgo hmem hlt ht hg
        obtain ⟨g5, hg5⟩ : ∃ g5, g5 = w4.heap.size := ⟨_, rfl⟩
        have HG5 := Lib.hid (show gc < g5 from by rw [hg5]; have := block_lt_of_cell d1; simpa using this)
        have HREL := Lib.hid (show ∃ g5, Value.pointer (some ⟨w4.heap.size, 0, none⟩) = .pointer (some ⟨g5, 0, none⟩) ∧ Value.int .i64 go = .int .i64 go ∧ gc < g5 ∧ Hid (Chg [] w4 (w4.alloc (.cells #[.int .i32 tsg, .int .i64 tn, .int .i32 tnm] 167)).drew) ∧ Hid (Whole (w4.alloc (.cells #[.int .i32 tsg, .int .i64 tn, .int .i32 tnm] 167)).drew g5 167 [.int .i32 tsg, .int .i64 tn, .int .i32 tnm]) from
          ⟨g5, by rw [hg5], rfl, HG5.out, Lib.hid hal2.drew, Lib.hid (by rw [hg5]; exact (Whole.new w4 167 [.int .i32 tsg, .int .i64 tn, .int .i32 tnm]).drew)⟩)
        clear hg5 HG5
        go_cut [5, 6] (fun a b wx => ∃ g5, a = .pointer (some ⟨g5, 0, none⟩) ∧ b = .int .i64 go ∧ gc < g5 ∧ Hid (Chg [] w4 wx) ∧ Hid (Whole wx g5 167 [.int .i32 tsg, .int .i64 tn, .int .i32 tnm]))
        case first =>
          go_region
          go_wp2_with fail
          go_meet
          obtain ⟨g5, e1, _, e3, e4, e5⟩ := HREL.out
          exact ⟨g5, e1, rfl, e3, e4, e5⟩
        case rest =>
        obtain ⟨g5, rfl, rfl, hg5, HCW, HXW⟩ := hcut
        clear q1 q2 q3 p0 p1 p2 p3 v1 v2 v3 v4 hal hal2 y0 y1 y2 z0 x1 x2 HREL
        obtain ⟨w5, hw5⟩ : ∃ w5 : World, w5 = wc := ⟨_, rfl⟩
        subst hw5
        have hc5 := HCW.out
        have hX := HXW.out
        have HG5 := Lib.hid hg5
        have H7 := Lib.hid (H6.out.keep hc5)
        have HF7 := Lib.hid (HF6.out.new hc5)
        have c1 := cell_keep d1 hc5
        have HX7 := Lib.hid hX
        have HSET := Lib.hid (H7.out.callset (ys := ys) (c := c) HCS.out HV.out (Chg.refl [] w5) (j := 1) (.int .i64 ((nx : Int) + 1)) (clC_next c ((nx : Int) + 1) (by omega)) HLEN.out)
        rw [← HK.out] at HSET
        have fc : w5.frozen? ⟨gc, k * 28 + 1, none⟩ = false := by
          obtain ⟨_, _, hv2, _, _, _, _, hf2⟩ := H7.out.cur (ys := ys) (c := c) HCS.out
          rw [HV.out] at hv2
          injection hv2 with e _ _; injection e with e; injection e with e
          rw [e]
          exact hf2 _
        clear d1 hX hc5 hg5 H6 HX6 HCW HXW
        have hwn : IntKind.i64.wrap ((nx : Int) + 1) = (nx : Int) + 1 := IntWalk.i64_in _ (by omega)
        go_upto_region 11 with fail
        have HX8 := Lib.hid (HX7.out.far (p := ⟨gc, k * 28 + 1, none⟩) (by have := HG5.out; simp only; omega) (.int .i64 ((nx : Int) + 1)))
        generalize w5.setCell ⟨gc, k * 28 + 1, none⟩ (.int .i64 ((nx : Int) + 1)) = w6 at HSET HX8 ⊢
        clear c1 fc
        have e0 := HX8.out.cell 0
        have e1 := HX8.out.cell 1
        have e2 := HX8.out.cell 2
        have HSTP := Lib.hid (show StepC P w6 ⟨tsg, tn, tnm⟩ go tr1 s3 from by
          have hEg := HSET.out.1
          rw [show ((nx : Int) + 1).toNat = nx + 1 from by omega, HFU.out] at hEg
          refine estep_any (s := ⟨s2.fuel - 1, s2.st, ys ++ [c.at_ (nx + 1)], s2.L, s2.V, s2.qs⟩) hEg hst ?_ ?_
          · have := H2.out.stkb
            show s2.st.length + (s2.fuel - 1) ≤ _
            have := HFU.out
            omega
          · have := H2.out.qsb
            show s2.qs.length + (s2.fuel - 1) ≤ _
            have := HFU.out
            omega)
        unfold StepC at HSTP
        simp only [tkC] at HSTP
        rw [← HGP.out] at HSTP
        have HF8 := Lib.hid (HF7.out.trans HSET.out.2)
        have HLESS := Lib.hid (show 2 * s3.fuel + s3.cs.length < 2 * s2.fuel + s2.cs.length from by
          have q1 := step_fu hst
          have q2 := step_cs hst
          have q3 := HCS.out
          have q4 := HFU.out
          simp only [List.length_append, List.length_singleton] at q1 q2
          rw [q3, List.length_append, List.length_singleton]
          omega)
        clear hst
        go_wp2_with fail
        refine HSTP.out.mono ?_
        rintro e w8 ⟨rfl, ⟨vs8, vc8, h8⟩, hf8⟩
        have H8 := Lib.hid h8
        have HF9 := Lib.hid (HF8.out.trans hf8)
        clear h8 hf8 e0 e1 e2
        rcases hend with ⟨rfl, hrn⟩ | ⟨htr, hend⟩
        · have HRN := Lib.hid hrn
          clear hrn
          go_wp2_with fail
          go_roundw
          case rel => exact ⟨_, _, _, H8, HRN, HF9⟩
          case measure =>
            have := H8.out.runM
            rw [← HGP.out] at this
            rw [this, HM.out]
            exact HLESS.out
        · injection hend with he1 he2
          have hz1 : (tr1 != 0) = true := by simpa using htr
          have HP := Lib.hid (show EgPost P W s' (.int .i64 tr) (.returned (.int .i64 tr1)) w8 from by rw [he1, he2]; exact ⟨rfl, ⟨_, _, H8.out⟩, HF9.out⟩)
          clear he1 he2 htr
          go_wp2_with fail
          go_ret
          exact HP.out
end
end Go.Proofs.Ytfhgnoajfipjdaa
namespace Go.Proofs.Ytfhgnoajfipjdaa
open Go.RowKit
theorem tok_plain {l : List FnV} {h : Int} {bs : List BkV} {s name : Int} (hs : ¬ isEnd s) (h1 : ¬ (s = 63 ∨ s = 91)) (h2 : s ≠ 126) : (rTok l h bs s name).2.2 = bs := by
  unfold rTok
  rw [if_neg hs]
  by_cases h0 : h < 0
  · rw [if_pos h0]
  · rw [if_neg h0]
    rcases rTakes l s name with ⟨p, q, ok⟩
    cases ok with
    | false => rfl
    | true =>
      simp only
      split
      · rfl
      · split <;> rfl
theorem tok_takes {l : List FnV} {h : Int} {bs : List BkV} {s name p q : Int} (w : WInv h bs) (hs : ¬ isEnd s) (he : (rTok l h bs s name).1 = 0) (ht : rTakes l s name = (p, q, true)) : 0 ≤ h ∧ baseOf bs ≤ h - p ∧ 0 ≤ baseOf bs ∧ rTok l h bs s name = cTurn (h - p + q) bs s := by
  have h0 : 0 ≤ h := by
    rcases Int.lt_or_le h 0 with hl | hl
    · rw [rTok_dead hl, if_neg hs] at he
      simp at he
    · exact hl
  have hb := w.b.base h0
  have hb0 : 0 ≤ baseOf bs := by
    unfold baseOf
    cases hl : bs.getLast? with
    | none => exact Int.le_refl 0
    | some x => exact (w.r x (List.mem_of_getLast? hl)).1
  rw [rTok_alive h0 w.m.2 hb ht] at he ⊢
  by_cases hc : h - baseOf bs < p ∨ 64 < h - p + q
  · rw [if_pos hc] at he; simp at he
  · rw [if_neg hc]
    exact ⟨h0, by omega, hb0, rfl⟩
theorem edge_step {l : List FnV} {ss H : List Int} {n : Nat} {m m' : NSt} {h s name : Int} {bs : List BkV} (J : JInv ss n m h bs H) (w : WInv h bs) (hs : ss[n]? = some s) (ht : nTake n s ⟨m.tO.set n (-1), m.deep, m.op⟩ = some m') (he : (rTok l h bs s name).1 = 0) :
    JInv ss (n + 1) m' (rTok l h bs s name).2.1 (rTok l h bs s name).2.2 (H ++ [(rTok l h bs s name).2.1]) := by
  obtain ⟨t0, d0, op⟩ := m
  have hnl := lt_of_some hs
  have tl : t0.length = ss.length := J.tl
  have Je : ∀ (j : Nat) (x : Int), j < n → ss[j]? = some x → (x = 63 ∨ x = 58 ∨ x = 93 ∨ x = 126) → Pend op j ∨ Edge ss H t0 j := J.e
  have Jr : PBs ss H n op bs := J.r
  simp only at ht
  obtain ⟨R, hR⟩ : ∃ R, R = rTok l h bs s name := ⟨_, rfl⟩
  have heR := he
  rw [← hR] at heR ⊢
  obtain ⟨e0, h', bs'⟩ := R
  simp only at heR ⊢
  subst heR
  have hl' : (H ++ [h']).length = n + 1 + 1 := by rw [List.length_append, J.hl]; rfl
  have hn' : (H ++ [h'])[n + 1]? = some h' := by rw [List.getElem?_append_right (by rw [J.hl]; omega), J.hl, Nat.sub_self]; rfl
  have hnn : (H ++ [h'])[n]? = some h := get_more J.hn
  have hold : ∀ j, j < n → (t0.set n (-1))[j]? = t0[j]? := fun j hj => List.getElem?_set_ne (by omega)
  have mk : ∀ m' : NSt, m'.tO.length = ss.length → PBs ss (H ++ [h']) (n + 1) m'.op bs' → (∀ (j : Nat) (x : Int), j < n → ss[j]? = some x → (x = 63 ∨ x = 58 ∨ x = 93 ∨ x = 126) → Pend m'.op j ∨ Edge ss (H ++ [h']) m'.tO j) →
      ((s = 63 ∨ s = 58 ∨ s = 93 ∨ s = 126) → Pend m'.op n ∨ Edge ss (H ++ [h']) m'.tO n) → JInv ss (n + 1) m' h' bs' (H ++ [h']) := fun m' a b c d => ⟨hl', hn', a, b, fun j x hj hx hk => by
    by_cases e : j = n
    · subst e
      rw [hs] at hx
      injection hx with hx
      subst hx
      exact d hk
    · exact c j x (by omega) hx hk⟩
  unfold nTake at ht
  simp only at ht
  by_cases h1 : s = 63 ∨ s = 91
  · rw [if_pos h1] at ht
    split at ht
    · injection ht with ht
      subst ht
      have hne : ¬ isEnd s := by unfold isEnd; omega
      have hb : ∃ b : Int, 0 ≤ b ∧ h' = b ∧ bs' = bs ++ [⟨s, b, 0, false⟩] ∧ (s = 63 → h = b + 1) ∧ (s = 91 → h = b) := by
        rcases h1 with e | e
        · subst e
          obtain ⟨a1, a2, a3, a4⟩ := tok_takes (p := 1) (q := 0) w hne he rfl
          rw [a4] at hR
          unfold cTurn at hR
          rw [if_neg hne, if_pos (.inl rfl)] at hR
          injection hR with _ hR
          injection hR with r1 r2
          exact ⟨h - 1 + 0, by omega, r1, r2, fun _ => by omega, fun e => by omega⟩
        · subst e
          obtain ⟨a1, a2, a3, a4⟩ := tok_takes (p := 0) (q := 0) w hne he rfl
          rw [a4] at hR
          unfold cTurn at hR
          rw [if_neg hne, if_pos (.inr rfl)] at hR
          injection hR with _ hR
          injection hR with r1 r2
          exact ⟨h - 0 + 0, by omega, r1, r2, fun e => by omega, fun _ => by omega⟩
      obtain ⟨b, b0, rfl, rfl, b1, b2⟩ := hb
      refine mk _ (by rw [List.length_set]; exact tl) (.cons ⟨by simp only; omega, b0, ?_, fun j hj => by simp at hj, fun hj => absurd rfl hj⟩ Jr.more) (fun j x hj hx hk => ?_) (fun hk => ?_)
      · rcases h1 with e | e
        · subst e
          exact .inr (.inl ⟨rfl, rfl, rfl, hs, by rw [hnn, b1 rfl]⟩)
        · subst e
          exact .inl ⟨rfl, rfl, by rw [hnn, b2 rfl]⟩
      · rcases Je j x hj hx hk with ⟨p, hp, hw⟩ | hE
        · exact .inl ⟨p, List.mem_cons_of_mem _ hp, hw⟩
        · exact .inr (hE.more (hold j hj))
      · rcases h1 with e | e
        · subst e
          exact .inl ⟨_, List.mem_cons_self, .inl ⟨rfl, rfl⟩⟩
        · subst e; omega
    · cases ht
  rw [if_neg h1] at ht
  by_cases h58 : s = 58
  · subst h58
    rw [if_pos rfl] at ht
    cases op with
    | nil => cases ht
    | cons p r =>
      simp only at ht
      split at ht
      · rename_i hpw
        injection ht with ht
        subst ht
        obtain ⟨ys, x, rfl, hx, hr⟩ := Jr.head
        rw [rTok_end (.inl rfl)] at hR
        unfold rEnds at hR
        rw [if_pos rfl] at hR
        injection hR with _ hR
        injection hR with r1 r2
        subst r1; subst r2
        have hk2 : x.sign = 63 ∧ ss[p.at_]? = some 63 ∧ H[p.at_]? = some (x.base + 1) := by
          rcases hx.kind with k | k | k
          · rw [hpw.1] at k; cases k.1
          · exact ⟨k.2.1, k.2.2.2⟩
          · have := k.2.2.1; omega
        have hpn := hx.w
        have hEp : Edge ss (H ++ [x.base]) ((t0.set n (-1)).set p.at_ ((n : Int) + 1)) p.at_ := by
          refine ⟨63, x.base + 1, (n : Int) + 1, hk2.2.1, get_more hk2.2.2, List.getElem?_set_self (by rw [List.length_set]; omega), fun _ => ⟨fun _ => ⟨n + 1, rfl, by omega, by have := hx.base; omega, .inl (by rw [hn']; congr 1; omega)⟩, fun e => by omega⟩⟩
        refine mk _ (by rw [List.length_set, List.length_set]; exact tl) (.cons ⟨by simp only; omega, hx.base, .inr (.inr ⟨hpw.1, rfl, by simp only; omega, hs, hnn⟩), fun j hj => ?_, fun hj => ?_⟩ hr.more) (fun j y hj hy hk => ?_) (fun _ => .inl ⟨_, List.mem_cons_self, .inl ⟨hpw.1, rfl⟩⟩)
        · have := hx.left j hj
          exact ⟨by omega, this.2.1, get_more this.2.2⟩
        · have := (hx.lf hj).1
          rw [hpw.1] at this
          cases this
        · by_cases ej : j = p.at_
          · subst ej; exact .inr hEp
          · rcases Je j y hj hy hk with ⟨q, hq, hw⟩ | hE
            · rcases List.mem_cons.1 hq with rfl | hq
              · rcases hw with hw | hw
                · omega
                · exact .inl ⟨_, List.mem_cons_self, .inr hw⟩
              · exact .inl ⟨q, List.mem_cons_of_mem _ hq, hw⟩
            · exact .inr (hE.more (by rw [List.getElem?_set_ne (by omega)]; exact hold j hj))
      · cases ht
  rw [if_neg h58] at ht
  by_cases h59 : s = 59
  · subst h59
    rw [if_pos rfl] at ht
    cases op with
    | nil => cases ht
    | cons p r =>
      simp only at ht
      split at ht
      · rename_i hpl
        injection ht with ht
        subst ht
        obtain ⟨ys, x, rfl, hx, hr⟩ := Jr.head
        rw [rTok_end (.inr (.inl rfl))] at hR
        have hpn := hx.w
        have hbs : bs' = ys ∧ (x.sign = 63 → h' = x.base) ∧ (x.sign = 58 → 0 ≤ x.other → h' = x.other) := by
          unfold rEnds at hR
          rw [if_neg (by omega)] at hR
          by_cases hx58 : x.sign = 58
          · rw [if_pos hx58] at hR
            by_cases hc : 0 ≤ x.other ∧ 0 ≤ h ∧ x.other ≠ h
            · rw [if_pos hc] at hR; simp at hR
            · rw [if_neg hc] at hR
              simp only [Prod.mk.injEq, true_and] at hR
              exact ⟨hR.2, fun e => by omega, fun _ e => by omega⟩
          · rw [if_neg hx58] at hR
            by_cases hc : 0 ≤ h ∧ h ≠ x.base
            · rw [if_pos hc] at hR; simp at hR
            · rw [if_neg hc] at hR
              simp only [Prod.mk.injEq, true_and] at hR
              refine ⟨hR.2, fun e => ?_, fun e => absurd e hx58⟩
              rw [hR.1, if_neg (by omega)]
        obtain ⟨rfl, g1, g2⟩ := hbs
        have hEp : Edge ss (H ++ [h']) ((t0.set n (-1)).set p.waits (n : Int)) p.waits := by
          rcases hx.kind with k | k | k
          · rw [hpl] at k; cases k.1
          · rw [k.2.2.1]
            refine ⟨63, x.base + 1, (n : Int), k.2.2.2.1, get_more k.2.2.2.2, List.getElem?_set_self (by rw [List.length_set]; omega), fun _ => ⟨fun _ => ⟨n, rfl, by omega, by have := hx.base; omega, .inr ⟨hs, by rw [hn', g1 k.2.1]; congr 1; omega⟩⟩, fun e => by omega⟩⟩
          · refine ⟨58, x.other, (n : Int), k.2.2.2.1, get_more k.2.2.2.2, List.getElem?_set_self (by rw [List.length_set]; omega), fun h0 => ⟨fun e => by omega, fun _ => ⟨n, rfl, by omega, h0, .inr ⟨hs, by rw [hn', g2 k.2.1 h0]⟩⟩⟩⟩
        refine mk _ (by rw [List.length_set, List.length_set]; exact tl) hr.more (fun j y hj hy hk => ?_) (fun e => by omega)
        by_cases ej : j = p.waits
        · subst ej; exact .inr hEp
        · rcases Je j y hj hy hk with ⟨q, hq, hw⟩ | hE
          · rcases List.mem_cons.1 hq with rfl | hq
            · rcases hw with hw | hw
              · omega
              · have := (hx.lf (List.ne_nil_of_mem hw)).1
                rw [hpl] at this
                cases this
            · exact .inl ⟨q, hq, hw⟩
          · exact .inr (hE.more (by rw [List.getElem?_set_ne (by omega)]; exact hold j hj))
      · cases ht
  rw [if_neg h59] at ht
  by_cases h93 : s = 93
  · subst h93
    rw [if_pos rfl] at ht
    cases op with
    | nil => cases ht
    | cons p r =>
      simp only at ht
      split at ht
      · rename_i hpl
        injection ht with ht
        subst ht
        obtain ⟨ys, x, rfl, hx, hr⟩ := Jr.head
        rw [rTok_end (.inr (.inr rfl))] at hR
        have hpn := hx.w
        have hk1 : x.sign = 91 ∧ H[p.at_]? = some x.base := by
          rcases hx.kind with k | k | k
          · exact k.2
          · rw [hpl] at k; cases k.1
          · rw [hpl] at k; cases k.1
        have hbs : bs' = ys ∧ (0 ≤ h → h = x.base) ∧ (x.left = true → h' = x.base) := by
          unfold rEnds at hR
          rw [if_neg (by omega), if_neg (by rw [hk1.1]; decide)] at hR
          by_cases hc : 0 ≤ h ∧ h ≠ x.base
          · rw [if_pos hc] at hR; simp at hR
          · rw [if_neg hc] at hR
            simp only [Prod.mk.injEq, true_and] at hR
            refine ⟨hR.2, fun e => by omega, fun e => ?_⟩
            rw [hR.1, if_neg (by rw [e]; simp)]
        obtain ⟨rfl, g1, g2⟩ := hbs
        have hnl2 : n ∉ p.left := fun hh => by have := (hx.left n hh).1; omega
        refine mk _ (by rw [setAll_len, List.length_set, List.length_set]; exact tl) hr.more (fun j y hj hy hk => ?_) (fun _ => .inr ?_)
        · by_cases ej : j ∈ p.left
          · have hlj := hx.left j ej
            have hle := (hx.lf (List.ne_nil_of_mem ej)).2
            refine .inr ⟨126, x.base, (n : Int) + 1, hlj.2.1, get_more hlj.2.2, (setAll_get _ _ _ j).2 ej (by rw [List.length_set, List.length_set]; omega), fun _ => ⟨fun e => by omega, fun _ => ⟨n + 1, rfl, by omega, hx.base, .inl (by rw [hn', g2 hle])⟩⟩⟩
          · rcases Je j y hj hy hk with ⟨q, hq, hw⟩ | hE
            · rcases List.mem_cons.1 hq with rfl | hq
              · rcases hw with hw | hw
                · rw [hpl] at hw; cases hw.1
                · exact absurd hw ej
              · exact .inl ⟨q, hq, hw⟩
            · exact .inr (hE.more (by rw [(setAll_get _ _ _ j).1 ej, List.getElem?_set_ne (by omega)]; exact hold j hj))
        · refine ⟨93, h, (p.at_ : Int), hs, hnn, ?_, fun h0 => ⟨fun e => by omega, fun _ => ⟨p.at_, rfl, by omega, h0, .inl (by rw [g1 h0]; exact get_more hk1.2)⟩⟩⟩
          rw [(setAll_get _ _ _ n).1 hnl2]
          exact List.getElem?_set_self (by rw [List.length_set]; omega)
      · cases ht
  rw [if_neg h93] at ht
  have hne : ¬ isEnd s := by unfold isEnd; omega
  by_cases h126 : s = 126
  · subst h126
    rw [if_pos rfl] at ht
    cases ho : leaveP n op with
    | none => rw [ho] at ht; cases ht
    | some o =>
      rw [ho] at ht
      injection ht with ht
      subst ht
      obtain ⟨a1, a2, a3, a4⟩ := tok_takes (p := 0) (q := 0) w hne he rfl
      rw [a4] at hR
      unfold cTurn at hR
      rw [if_neg hne, if_neg h1, if_pos rfl, show h - 0 + 0 = h from by omega] at hR
      unfold lLeave at hR
      have hL := leave_both (ss := ss) (H := H) (y := h') hs J.hn Jr ho
      rcases hq : rLeave h bs bs.length with ⟨b, h2, bs2⟩
      rw [hq] at hR hL
      cases b with
      | false => simp at hR
      | true =>
        simp only [Prod.mk.injEq, true_and] at hR
        obtain ⟨r1, r2⟩ := hR
        subst r2
        obtain ⟨L1, L2, L3⟩ := hL rfl
        refine mk _ (by rw [List.length_set]; exact tl) L1 (fun j y hj hy hk => ?_) (fun _ => .inl L2)
        rcases Je j y hj hy hk with hP | hE
        · exact .inl (L3 j hP)
        · exact .inr (hE.more (hold j hj))
  rw [if_neg h126] at ht
  injection ht with ht
  subst ht
  have hbs : bs' = bs := by
    have := tok_plain (l := l) (h := h) (bs := bs) (name := name) hne h1 h126
    rw [← hR] at this
    exact this
  subst hbs
  refine mk _ (by rw [List.length_set]; exact tl) Jr.more (fun j y hj hy hk => ?_) (fun e => by omega)
  rcases Je j y hj hy hk with hP | hE
  · exact .inl hP
  · exact .inr (hE.more (hold j hj))
end Go.Proofs.Ytfhgnoajfipjdaa
namespace Go.Proofs.Ytfhgnoajfipjdaa
open Go.RowKit
/-- From a height to the next. -/
structure StepF (l : List FnV) (t : TkV) (a b : Int) : Prop where
  plain : ¬ Odd1 t.sign → 0 ≤ a ∧ ∃ p q, rTakes l t.sign t.name = (p, q, true) ∧ p ≤ a ∧ b = a - p + q
  semi : t.sign = 59 → 0 ≤ a → b = a
  dead : t.sign = 126 ∨ t.sign = 161 → 0 ≤ a
  rng : a ≤ 64
theorem step_fact {l : List FnV} {ss H : List Int} {n : Nat} {m m' : NSt} {h : Int} {t : TkV} {bs : List BkV} (J : JInv ss n m h bs H) (w : WInv h bs) (ht : nTake n t.sign ⟨m.tO.set n (-1), m.deep, m.op⟩ = some m') (he : (rTok l h bs t.sign t.name).1 = 0) :
    StepF l t h (rTok l h bs t.sign t.name).2.1 := by
  have hal : ¬ isEnd t.sign → 0 ≤ h := fun hne => by
    rcases Int.lt_or_le h 0 with hl | hl
    · rw [rTok_dead hl, if_neg hne] at he
      simp at he
    · exact hl
  refine ⟨fun ho => ?_, fun e h0 => ?_, fun e => hal (by unfold isEnd; omega), w.m.2⟩
  · have h0 := hal (by unfold Odd1 at ho; unfold isEnd; omega)
    exact ⟨h0, (rTok_more w.b w.r w.m he).2 h0 ho⟩
  · rw [e] at he ht ⊢
    have Jr := J.r
    obtain ⟨t0, d0, op⟩ := m
    unfold nTake at ht
    rw [if_neg (by omega), if_neg (by omega), if_pos rfl] at ht
    simp only at ht Jr
    cases op with
    | nil => cases ht
    | cons p r =>
      simp only at ht
      split at ht
      · rename_i hpl
        obtain ⟨ys, x, rfl, hx, hr⟩ := Jr.head
        have hx91 : x.sign ≠ 91 := by
          rcases hx.kind with k | k | k
          · rw [hpl] at k; cases k.1
          · rw [k.2.1]; decide
          · rw [k.2.1]; decide
        obtain ⟨R, hR⟩ : ∃ R, R = rTok l h (ys ++ [x]) 59 t.name := ⟨_, rfl⟩
        rw [← hR] at he ⊢
        rw [rTok_end (.inr (.inl rfl))] at hR
        obtain ⟨e0, h', bs'⟩ := R
        simp only at he ⊢
        subst he
        unfold rEnds at hR
        rw [if_neg (by omega)] at hR
        by_cases hx58 : x.sign = 58
        · rw [if_pos hx58] at hR
          by_cases hc : 0 ≤ x.other ∧ 0 ≤ h ∧ x.other ≠ h
          · rw [if_pos hc] at hR; simp at hR
          · rw [if_neg hc] at hR
            simp only [Prod.mk.injEq, true_and] at hR
            omega
        · rw [if_neg hx58] at hR
          by_cases hc : 0 ≤ h ∧ h ≠ x.base
          · rw [if_pos hc] at hR; simp at hR
          · rw [if_neg hc] at hR
            simp only [Prod.mk.injEq, true_and] at hR
            rw [hR.1, if_neg (fun hh => hx91 hh.1)]
            omega
      · cases ht
def AllF (l : List FnV) (ts : List TkV) (n : Nat) (H : List Int) : Prop := ∀ (i : Nat) (t : TkV) (a b : Int), i < n → ts[i]? = some t → H[i]? = some a → H[i + 1]? = some b → StepF l t a b
theorem edges_run {l : List FnV} {ts : List TkV} : ∀ (rest : List TkV) (n : Nat) (m m' : NSt) (h : Int) (bs : List BkV) (H : List Int), n + rest.length = ts.length → (∀ i : Nat, rest[i]? = ts[n + i]?) → JInv (sgs ts) n m h bs H → WInv h bs → AllF l ts n H → H[0]? = some 0 →
    nRun n (sgs rest) m = some m' → (wSt l rest h bs).1 = 0 → ∃ H', JInv (sgs ts) ts.length m' (wSt l rest h bs).2.1 (wSt l rest h bs).2.2 H' ∧ AllF l ts ts.length H' ∧ H'[0]? = some 0
  | [], n, m, m', h, bs, H, hl, _, J, w, hA, h0, e, _ => by
    have : n = ts.length := by simpa using hl
    subst this
    injection e with e
    subst e
    exact ⟨H, J, hA, h0⟩
  | t :: rest, n, m, m', h, bs, H, hl, hr, J, w, hA, h0, e, he => by
    have htn : ts[n]? = some t := by have := hr 0; simpa using this.symm
    have hs : (sgs ts)[n]? = some t.sign := by unfold sgs; rw [List.getElem?_map, htn]; rfl
    have e' : nRun n (t.sign :: sgs rest) m = some m' := e
    unfold nRun at e'
    cases ht : nTake n t.sign ⟨m.tO.set n (-1), m.deep, m.op⟩ with
    | none => rw [ht] at e'; cases e'
    | some m1 =>
      rw [ht] at e'
      replace e' : nRun (n + 1) (sgs rest) m1 = some m' := e'
      rw [wSt] at he ⊢
      by_cases hz : (rTok l h bs t.sign t.name).1 = 0
      · rw [if_pos hz] at he ⊢
        have hstep := step_fact J w ht hz
        have J2 := edge_step J w hs ht hz
        refine edges_run rest (n + 1) m1 m' _ _ _ (by simp at hl; omega) (fun i => by have := hr (i + 1); rw [show n + 1 + i = n + (i + 1) from by omega]; simpa using this) J2 (w.tok hz).1 ?_ (get_more h0) e' he
        intro i u a b hi hu ha hb
        by_cases ei : i = n
        · subst ei
          rw [htn] at hu
          injection hu with hu
          subst hu
          rw [get_more J.hn] at ha
          injection ha with ha
          rw [J2.hn] at hb
          injection hb with hb
          subst ha; subst hb
          exact hstep
        · have hia : i + 1 < H.length := by rw [J.hl]; omega
          rw [List.getElem?_append_left (by omega)] at ha
          rw [List.getElem?_append_left hia] at hb
          exact hA i u a b (by omega) hu ha hb
      · rw [if_neg hz] at he; exact absurd he hz
/-- A code that is right: its heights, and where one goes. -/
structure Sound (l : List FnV) (ts : List TkV) (go : List Int) (H : List Int) : Prop where
  hl : H.length = ts.length + 1
  h0 : H[0]? = some 0
  gl : go.length = ts.length
  st : AllF l ts ts.length H
  ed : ∀ (j : Nat) (s : Int), (sgs ts)[j]? = some s → (s = 63 ∨ s = 58 ∨ s = 93 ∨ s = 126) → Edge (sgs ts) H go j
  fin : ∀ h, H[ts.length]? = some h → 0 ≤ h → h = 1
theorem code_sound {l : List FnV} {ts : List TkV} {R : List Int × Nat} (hn : rNest (sgs ts) = some R) (he : (rWalk l ts 0 [] []).1 = 0) : ∃ H, Sound l ts R.1 H := by
  rw [rWalk_st] at he
  have hz : (wSt l ts 0 []).1 = 0 := by
    unfold wEnd at he
    split at he
    · assumption
    · exact he
  rw [← nest_same] at hn
  obtain ⟨t, d⟩ := R
  obtain ⟨hr, _, htl⟩ := nNest_some hn
  have hsl : (sgs ts).length = ts.length := by unfold sgs; rw [List.length_map]
  obtain ⟨H, J, hA, h0⟩ := edges_run (l := l) (ts := ts) ts 0 _ _ 0 [] [0] (by omega) (fun i => by rw [Nat.zero_add]) ⟨rfl, rfl, by simp, .nil, fun j s hj => by omega⟩ WInv.nil (fun i u a b hi => by omega) rfl hr hz
  refine ⟨H, J.hl, h0, by rw [htl, hsl], hA, fun j s hs hk => ?_, fun h hh hp => ?_⟩
  · rcases J.e j s (by have := lt_of_some hs; omega) hs hk with ⟨p, hp, _⟩ | hE
    · simp at hp
    · exact hE
  · have e := J.hn
    rw [hh] at e
    injection e with e
    unfold wEnd at he
    rw [if_pos hz] at he
    split at he
    · cases he
    · omega
end Go.Proofs.Ytfhgnoajfipjdaa
namespace Go.Proofs.Ytfhgnoajfipjdaa
open Go.RowKit
/-- A call that goes on at its next token with such a height of its own. -/
structure Seg (us : List FnV) (c : CallV) (h : Nat) : Prop where
  code : ∃ f ts go H, us[c.fn]? = some f ∧ codeOf f = ⟨f.args.toNat, ts, go⟩ ∧ Sound us ts go H ∧ Fine (sgs ts) H (c.next : Int) (h : Int)
  loc : c.loc.length = 26
/-- Calls that wait for a value, and how much they hold. -/
inductive Sus (us : List FnV) : List CallV → Nat → Prop
  | nil : Sus us [] 0
  | cons {cs : List CallV} {b h : Nat} {c : CallV} : Sus us cs b → Seg us c (h + 1) → Sus us (cs ++ [c]) (b + h)
def Stk (us : List FnV) (cs : List CallV) (n : Nat) : Prop := (cs = [] ∧ n = 1) ∨ ∃ cs' c b h, cs = cs' ++ [c] ∧ Sus us cs' b ∧ Seg us c h ∧ n = b + h
theorem Sus.back {us : List FnV} {cs : List CallV} {b : Nat} (h : Sus us cs b) : Stk us cs (b + 1) := by
  cases h with
  | nil => exact .inl ⟨rfl, rfl⟩
  | cons a c => exact .inr ⟨_, _, _, _, rfl, a, c, by omega⟩
theorem sgs_get {ts : List TkV} {i : Nat} {t : TkV} (h : ts[i]? = some t) : (sgs ts)[i]? = some t.sign := by unfold sgs; rw [List.getElem?_map, h]; rfl
theorem sgs_len (ts : List TkV) : (sgs ts).length = ts.length := by unfold sgs; rw [List.length_map]
section
variable {us l : List FnV} {ts : List TkV} {go H : List Int} {i : Nat} {h : Int} {t : TkV}
theorem Fine.end_ (S : Sound l ts go H) (f : Fine (sgs ts) H (ts.length : Int) h) : h = 1 := by
  obtain ⟨j, hj, _, h0, hh⟩ := f
  have e : j = ts.length := by omega
  subst e
  rcases hh with hh | ⟨hh, _⟩
  · exact S.fin h hh h0
  · have := lt_of_some hh
    rw [sgs_len] at this
    omega
theorem Sound.next (S : Sound l ts go H) (hi : i < ts.length) : ∃ b, H[i + 1]? = some b := ⟨H[i + 1]'(by rw [S.hl]; omega), by simp⟩
theorem Fine.of_at {j : Nat} {x : Int} (S : Sound l ts go H) (hj : H[j]? = some x) (hx : 0 ≤ x) : Fine (sgs ts) H (j : Int) x := ⟨j, rfl, by have := lt_of_some hj; rw [S.hl] at this; rw [sgs_len]; omega, hx, .inl hj⟩
theorem Fine.here (f : Fine (sgs ts) H (i : Int) h) (ht : ts[i]? = some t) (hn : t.sign ≠ 59) : 0 ≤ h ∧ H[i]? = some h := by
  obtain ⟨j, hj, _, h0, hh⟩ := f
  have e : j = i := by omega
  subst e
  rcases hh with hh | ⟨hh, _⟩
  · exact ⟨h0, hh⟩
  · rw [sgs_get ht] at hh
    injection hh with hh
    exact absurd hh hn
/-- A token that goes on to the next. -/
theorem Fine.plain (S : Sound l ts go H) (f : Fine (sgs ts) H (i : Int) h) (ht : ts[i]? = some t) (ho : ¬ Odd1 t.sign) {p q : Int} (hp : rTakes l t.sign t.name = (p, q, true)) : p ≤ h ∧ 0 ≤ h ∧ Fine (sgs ts) H ((i + 1 : Nat) : Int) (h - p + q) := by
  obtain ⟨h0, hh⟩ := f.here ht (by unfold Odd1 at ho; omega)
  obtain ⟨b, hb⟩ := S.next (lt_of_some ht)
  obtain ⟨_, p', q', e1, e2, e3⟩ := (S.st i t h b (lt_of_some ht) ht hh hb).plain ho
  rw [hp] at e1
  simp only [Prod.mk.injEq, and_true] at e1
  obtain ⟨rfl, rfl⟩ := e1
  have hin := rTakes_in l t.sign t.name
  rw [hp] at hin
  simp only at hin
  exact ⟨e2, h0, by rw [← e3]; exact .of_at S hb (by omega)⟩
theorem Fine.takes (S : Sound l ts go H) (f : Fine (sgs ts) H (i : Int) h) (ht : ts[i]? = some t) (ho : ¬ Odd1 t.sign) : ∃ p q, rTakes l t.sign t.name = (p, q, true) := by
  obtain ⟨h0, hh⟩ := f.here ht (by unfold Odd1 at ho; omega)
  obtain ⟨b, hb⟩ := S.next (lt_of_some ht)
  obtain ⟨_, p', q', e1, _⟩ := (S.st i t h b (lt_of_some ht) ht hh hb).plain ho
  exact ⟨p', q', e1⟩
/-- ; goes on to the next. -/
theorem Fine.semi (S : Sound l ts go H) (f : Fine (sgs ts) H (i : Int) h) (ht : ts[i]? = some t) (he : t.sign = 59) : Fine (sgs ts) H ((i + 1 : Nat) : Int) h := by
  obtain ⟨j, hj, _, h0, hh⟩ := f
  have e : j = i := by omega
  subst e
  obtain ⟨b, hb⟩ := S.next (lt_of_some ht)
  rcases hh with hh | ⟨_, hh⟩
  · have := (S.st j t h b (lt_of_some ht) ht hh hb).semi he h0
    rw [← this]
    exact .of_at S hb (by omega)
  · exact .of_at S hh h0
/-- : ] ~ go where they belong. -/
theorem Fine.jump (S : Sound l ts go H) (f : Fine (sgs ts) H (i : Int) h) (ht : ts[i]? = some t) (he : t.sign = 58 ∨ t.sign = 93 ∨ t.sign = 126) : ∃ v, go[i]? = some v ∧ Fine (sgs ts) H v h := by
  obtain ⟨h0, hh⟩ := f.here ht (by omega)
  obtain ⟨s, hj, v, e1, e2, e3, e4⟩ := S.ed i t.sign (sgs_get ht) (by omega)
  rw [sgs_get ht] at e1
  injection e1 with e1
  rw [hh] at e2
  injection e2 with e2
  subst e1; subst e2
  exact ⟨v, e3, (e4 h0).2 he⟩
/-- ? goes there for 0. -/
theorem Fine.ask (S : Sound l ts go H) (f : Fine (sgs ts) H (i : Int) h) (ht : ts[i]? = some t) (he : t.sign = 63) : ∃ v, go[i]? = some v ∧ Fine (sgs ts) H v (h - 1) := by
  obtain ⟨h0, hh⟩ := f.here ht (by omega)
  obtain ⟨s, hj, v, e1, e2, e3, e4⟩ := S.ed i t.sign (sgs_get ht) (by omega)
  rw [sgs_get ht] at e1
  injection e1 with e1
  rw [hh] at e2
  injection e2 with e2
  subst e1; subst e2
  exact ⟨v, e3, (e4 h0).1 he⟩
end
/-- Programs whose codes are right. -/
structure SafeU (us : List FnV) : Prop where
  func : ∀ {k : Nat} {f : FnV}, us[k]? = some f → (rFunc us f.code).1 = 0
  args : ∀ f ∈ us, 0 ≤ f.args ∧ f.args ≤ 4
theorem GoodU.safe {us : List FnV} (h : GoodU us) : SafeU us := ⟨fun hk => (h.func hk).1, fun f hf => by have := h.args f hf; omega⟩
/-- The codes of a right program. -/
theorem good_code {us : List FnV} (hg : SafeU us) {k : Nat} {f : FnV} (hk : us[k]? = some f) : ∃ ts go H, codeOf f = ⟨f.args.toNat, ts, go⟩ ∧ Sound us ts go H := by
  have h0 := hg.func hk
  have h1 := rFunc_add us [] f.code h0
  obtain ⟨ts, t, d, htk, hn, hw⟩ := rFunc_ok h0
  rw [← hw] at h0
  obtain ⟨H, hS⟩ := code_sound (R := (t, d)) hn h0
  refine ⟨ts, t, H, ?_, hS⟩
  unfold codeOf
  rw [htk]
  simp only
  rw [hn]
/-- A call begins. -/
theorem good_call {us : List FnV} (hg : SafeU us) {k : Nat} {f : FnV} (hk : us[k]? = some f) {s : EgV} (ha : f.args.toNat ≤ s.st.length) {b : Nat} (hs : Sus us s.cs b) (hb : b = s.st.length - f.args.toNat) : ∃ s', eCall (us.map codeOf) k s = some s' ∧ Stk us s'.cs s'.st.length ∧ s'.fuel = s.fuel ∧ s'.cs.length = s.cs.length + 1 ∧ s'.L = s.L ∧ s'.V = s.V ∧ s'.qs = s.qs := by
  obtain ⟨ts, go, H, hc, hS⟩ := good_code hg hk
  have ha2 := hg.args f (List.mem_of_getElem? hk)
  unfold eCall
  rw [List.getElem?_map, hk]
  simp only [Option.map_some, hc]
  rw [if_neg (by omega)]
  refine ⟨_, rfl, .inr ⟨_, _, b, 0, rfl, hs, ⟨⟨f, ts, go, H, hk, hc, hS, 0, rfl, Nat.zero_le _, by omega, .inl hS.h0⟩, ?_⟩, ?_⟩, rfl, by simp, rfl, rfl, rfl⟩
  · simp only [List.length_append, List.length_drop, List.length_replicate]
    omega
  · simp only [List.length_take]
    omega
end Go.Proofs.Ytfhgnoajfipjdaa
