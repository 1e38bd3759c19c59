/-
  EA: EgCall.
-/
import Derived.Test.YtfhgnoajfipjdaaZEA4
import Derived.Test.YtfhgnoajfipjdaaZEA23
namespace Go.Proofs.Ytfhgnoajfipjdaa
open Go.RowKit
def EP.cd (P : EP) : List CodeV := P.xs.map (·.c)
theorem call_some {P : EP} {k : Nat} {s s' : EgV} (h : eCall P.cd k s = some s') : ∃ x, P.xs[k]? = some x ∧ x.c.args ≤ s.st.length ∧ x.c.args ≤ 26 ∧
    s' = ⟨s.fuel, s.st.take (s.st.length - x.c.args), s.cs ++ [⟨k, 0, s.st.drop (s.st.length - x.c.args) ++ List.replicate (26 - x.c.args) 0⟩], s.L, s.V, s.qs⟩ := by
  unfold eCall EP.cd at h
  rw [List.getElem?_map] at h
  cases hx : P.xs[k]? with
  | none => rw [hx] at h; cases h
  | some x =>
    rw [hx] at h
    simp only [Option.map_some] at h
    by_cases hc : s.st.length < x.c.args ∨ 26 < x.c.args
    · rw [if_pos hc] at h; cases h
    · rw [if_neg hc] at h
      injection h with h
      exact ⟨x, rfl, by omega, by omega, h.symm⟩
def zc (k : Nat) : CallV := ⟨k, 0, List.replicate 26 0⟩
theorem built_call (k : Int) : Try.prog.built 174 [(0, .int .i64 k)] = some #[.int .i64 k, .int .i64 0, .int .i64 0, .int .i64 0, .int .i64 0, .int .i64 0, .int .i64 0, .int .i64 0, .int .i64 0, .int .i64 0, .int .i64 0, .int .i64 0, .int .i64 0, .int .i64 0, .int .i64 0, .int .i64 0, .int .i64 0, .int .i64 0, .int .i64 0, .int .i64 0, .int .i64 0, .int .i64 0, .int .i64 0, .int .i64 0, .int .i64 0, .int .i64 0, .int .i64 0, .int .i64 0] := by kernel_rfl
theorem built_zc (k : Nat) : Try.prog.built 174 [(0, .int .i64 (k : Int))] = some (clC (zc k)).toArray := (built_call k).trans rfl
theorem zero_call : (Try.prog.info? 174).map (fun i => (i.zero.map (·.cells), i.size, i.bytes)) = some (some (clC (zc 0)).toArray, 28, 224) := by kernel_rfl
theorem size_call : (Try.prog.info? 174).map (·.size) = some 28 := by kernel_rfl
theorem info_parts2 {P : Program} {t : TypeId} {c : Array Value} {n b : Nat} (h : (P.info? t).map (fun i => (i.zero.map (·.cells), i.size, i.bytes)) = some (some c, n, b)) : ∃ i z, P.info? t = some i ∧ i.zero = some z ∧ z.cells = c ∧ i.size = n ∧ i.bytes = b := by
  cases hi : P.info? t with
  | none => rw [hi] at h; cases h
  | some i =>
    rw [hi] at h
    simp only [Option.map_some, Option.some.injEq, Prod.mk.injEq] at h
    obtain ⟨h1, h2, h3⟩ := h
    cases hz : i.zero with
    | none => rw [hz] at h1; cases h1
    | some z => rw [hz] at h1; simp only [Option.map_some, Option.some.injEq] at h1; exact ⟨i, z, rfl, hz, h1, h2, h3⟩
theorem all_one (l : List Value) (h : ∀ v ∈ l, v.oneCell' = true) : l.toArray.all (·.oneCell') = true := by simpa using h
theorem clC_one (c : CallV) : ∀ v ∈ clC c, v.oneCell' = true := by
  intro v hv
  unfold clC at hv
  simp only [List.cons_append, List.nil_append, List.mem_cons] at hv
  rcases hv with rfl | rfl | hv
  · rfl
  · rfl
  · exact nms_one _ v hv
theorem src_drop {w : World} {B e n c q : Nat} {A : Option Addr} {xs : List Value} (h : w.ownsRow B e 1 (.slice A n c) n xs) (hq : q ≤ n) : Src w (if c = q then A else Option.map (fun x => x.add q) A) (xs.drop q) := by
  obtain ⟨A', c', e', hl, hc, hs, hA⟩ := own_slice h
  injection e' with e1 _ e3
  subst e1
  subst e3
  intro h0
  rw [List.length_drop] at h0
  obtain ⟨ad, rfl, hlt, hx⟩ := hs (by omega)
  obtain ⟨b, o, sp⟩ := ad
  obtain rfl : sp = none := (hA _ rfl).1
  rw [if_neg (by omega)]
  refine ⟨⟨b, o + q, none⟩, by simp [add_plain], hlt, fun j u hj => ?_⟩
  have := hx (q + j) u (by rw [List.getElem?_drop] at hj; exact hj)
  rw [add_plain] at this ⊢
  rw [Nat.add_assoc]
  exact this
theorem splice_call (k ar : Nat) (l : List Int) (hl : l.length = ar) : splice (clC (zc k)) 2 (nms l) = clC ⟨k, 0, l ++ List.replicate (26 - ar) 0⟩ := by
  unfold splice clC zc
  simp only [List.cons_append, List.nil_append, List.take_succ_cons, List.take_zero, nms_len, hl]
  rw [show 2 + ar = ar + 1 + 1 from by omega]
  simp only [List.drop_succ_cons]
  rw [nms_app]
  congr 3
  show List.drop ar (nms (List.replicate 26 0)) = nms (List.replicate (26 - ar) 0)
  unfold nms
  rw [List.map_replicate, List.map_replicate, List.drop_replicate]
section
variable {P : EP} {W W' : World} {vs vc : Value} {s : EgV}
theorem Eg.cut (h : Eg P W vs vc s) {A : Option Addr} {n c q : Nat} (hv : vs = .slice A n c) (hn : n = s.st.length) (hq : q ≤ n) {W2 : World} (hc : Chg [] W W2) :
    Eg P (W2.setCell ⟨P.g, 7, none⟩ (.slice A q c)) (.slice A q c) vc ⟨s.fuel, s.st.take q, s.cs, s.L, s.V, s.qs⟩ ∧ Fe P.K egT W (W2.setCell ⟨P.g, 7, none⟩ (.slice A q c)) := by
  subst hv
  have h2 := h.keep hc
  have ho := h2.stk
  rw [← hn] at ho
  have ht : W2.ownsRow P.B 2 1 (.slice A q c) q (nms (s.st.take q)) := by
    by_cases hA : A = none
    · subst hA
      rcases ho.2 with ⟨e, e2⟩ | ⟨_, _, _, e, _⟩
      · injection e with _ _ e3
        subst e3
        obtain rfl : q = 0 := by omega
        simpa [nms] using World.ownsRow_nil W2 P.B 2 1
      · injection e with e _; cases e
    · have := rown_take (q' := q) ho hq hA
      rw [Nat.mul_one] at this
      rwa [show nms (s.st.take q) = (nms s.st).take q from by simp [nms, List.map_take]]
  have hf : Fe P.K eg3 W (W2.setCell ⟨P.g, 7, none⟩ (.slice A q c)) := (Fe.of_chg hc).setw h2.rec_ h.kg (by simp [eg3]) _
  have hql : (s.st.take q).length = q := by rw [List.length_take]; omega
  refine ⟨h.upd hf eg3_is (h2.rec_.set_ 7 _) ?_ (rown_lay h2.cal h2.rec_ (by decide)) h.loc (Nat.le_refl _) (by have := h.stkb; omega) h.calb, hf.sub eg3_sub⟩
  rw [hql]
  exact rown_lay (j := 7) (u := .slice A q c) ht h2.rec_ (by decide)
theorem Eg.called (h : Eg P W vs vc s) {W2 w3 : World} (hc : Chg [] W W2) {x : CallV} (hx : x.loc.length = 26) {v' : Value} {n1 : Nat} (hn1 : n1 = s.cs.length + 1) (hroom : s.cs.length ≤ 31)
    (ho : w3.ownsRow P.B 174 28 v' n1 (clCs s.cs ++ clC x)) (hg : W2.grownBy w3 vc.ownBlock) :
    Eg P (w3.setCell ⟨P.g, 8, none⟩ v') vs v' (s.calls (s.cs ++ [x])) ∧ Fe P.K egT W (w3.setCell ⟨P.g, 8, none⟩ v') := by
  subst hn1
  have h2 := h.keep hc
  have hr3 := whole_grown h2.rec_ h2.cal (by decide) hg
  have hs3 := rown_grown h2.stk h2.cal (by decide) hg
  have hf : Fe P.K eg3 W (w3.setCell ⟨P.g, 8, none⟩ v') := ((Fe.of_chg hc).grown h2.cal h2.kcal (by simp [eg3]) hg).setw hr3 h.kg (by simp [eg3]) _
  refine ⟨h.upd hf eg3_is (hr3.set_ 8 v') (rown_lay hs3 hr3 (by decide)) ?_ (Loc26.app.2 ⟨h.loc, hx⟩) (Nat.le_refl _) h.stkb (by rw [List.length_append, List.length_singleton]; omega), hf.sub eg3_sub⟩
  have := rown_lay (j := 8) (u := v') ho hr3 (by decide)
  rw [List.length_append, List.length_singleton, clCs_app, clCs_one]
  exact this
set_option maxHeartbeats 8000000 in
set_option maxRecDepth 100000 in
theorem ecall_any {k : Nat} {s' : EgV} (h : Eg P W vs vc s) (hc : eCall P.cd k s = some s') (hcs : s.cs.length ≤ 31) : Calls Try.prog 53 #[.pointer (some ⟨P.g, 0, none⟩), .int .i64 (k : Int)] W (EgPost P W s' (.tuple #[])) := by
  obtain ⟨x, hx, ha, ha26, rfl⟩ := call_some hc
  obtain ⟨A, n, c, rfl, hn, hnc⟩ := h.sslice
  obtain ⟨i0, z0, hi0, hz0, hzc, hz1, hz2⟩ := info_parts2 zero_call
  have hal := (Chg.refl [] W).alloc (.cells (clC (zc 0)).toArray 174)
  have hN := Whole.new W 174 (clC (zc 0))
  have hS := setRow_whole (cs := clC (zc k)) hN
  have hC1 := setRow_chg (cs := (clC (zc k)).toArray) hal (Nat.le_refl _)
  have HBC := Lib.hid (built_zc k)
  have HH := Lib.hid h
  have HX := Lib.hid hx
  have HN := Lib.hid hn
  obtain ⟨ar, har⟩ : ∃ ar, ar = x.c.args := ⟨_, rfl⟩
  rw [← har] at ha ha26
  rw [← hn] at ha
  have HAR := Lib.hid har
  obtain ⟨s', hs'⟩ : ∃ s', s' = (⟨s.fuel, s.st.take (s.st.length - x.c.args), s.cs ++ [⟨k, 0, s.st.drop (s.st.length - x.c.args) ++ List.replicate (26 - x.c.args) 0⟩], s.L, s.V, s.qs⟩ : EgV) := ⟨_, rfl⟩
  rw [← hs']
  have HS' := Lib.hid hs'
  have hn9 : n ≤ 3000000 := by have := h.stkb; omega
  obtain ⟨gp, hgp⟩ : ∃ gp, gp = P.g := ⟨_, rfl⟩
  have HGP := Lib.hid hgp
  rw [← hgp]
  clear h hx hn har hc hs' hgp
  go_enter Try.func53, Try.ntmps53
  go_upto_region 1 with (first
    | (refine wpList_build_is rfl 174 #[(0, .tmp 6)] rfl (clC (zc k)).toArray HBC.out ?_)
    | (refine wpList_alloc_is rfl 174 rfl hi0 hz0 _ rfl ?_; rw [hzc])
    | (refine wpList_store_row rfl 174 (.tmp 4) (.tmp 7) rfl W.heap.size (clC (zc k)).toArray rfl rfl 174 (clC (zc 0)).toArray hN ?_ ?_ ?_ ?_
       · rw [size_call]; rfl
       · rfl
       · exact all_one _ (clC_one _)))
  generalize (W.alloc (.cells (clC (zc 0)).toArray 174)).setRow W.heap.size (clC (zc k)).toArray = w1 at hS hC1 ⊢
  have HC1 := Lib.hid hC1
  have HG4 := Lib.hid (show W.heap.size ≤ W.heap.size from Nat.le_refl _)
  generalize hg4 : W.heap.size = g4 at hS hN HG4 ⊢
  have HG5 := Lib.hid hg4
  have HS1 := Lib.hid hS
  clear hS hC1 hN hal hg4 HG4
  have H1 := Lib.hid (HH.out.keep HC1.out)
  have k7 : w1.cell? ⟨gp, 7, none⟩ = some (.slice A n c) := by rw [HGP.out]; exact H1.out.rec_.cell 7
  have k3 : w1.cell? ⟨gp, 3, none⟩ = some P.cv := by rw [HGP.out]; exact H1.out.rec_.cell 3
  obtain ⟨Av, cv, hcv, _⟩ := rown_slice H1.out.cod.own
  have hkx : k < P.xs.length := (List.getElem?_eq_some_iff.1 HX.out).1
  have hx32 := H1.out.cod.lenb
  obtain ⟨gv, rfl, c0⟩ := rown_cell H1.out.cod.own hcv ((cdCs_get P.xs k x 0 HX.out (by omega)).trans rfl)
  rw [← HAR.out, Nat.add_zero] at c0
  rw [hcv] at k3
  generalize P.xs.length = nx at *
  have hk0 : (0 : Int) ≤ (k : Int) := by omega
  have hk1 : (k : Int) < (nx : Int) := by omega
  have hsub : IntKind.i64.wrap ((n : Int) - (ar : Int)) = ((n - ar : Nat) : Int) := by rw [IntWalk.i64_in _ (by omega)]; omega
  clear hcv
  go_wp2_with fail
  go_quiet (fail)
  have hc2 : Chg [] w1 (w1.drewN nq) := (Chg.refl [] w1).drewN nq
  generalize w1.drewN nq = w2 at hc2 ⊢
  have H2 := Lib.hid (H1.out.keep hc2)
  have HS2 := Lib.hid (HS1.out.keep hc2)
  have HC2 := Lib.hid (HC1.out.new hc2)
  clear hc2 k7 k3 c0 H1 HS1 HC1
  have k7 : w2.cell? ⟨gp, 7, none⟩ = some (.slice A n c) := by rw [HGP.out]; exact H2.out.rec_.cell 7
  obtain ⟨q, hq⟩ : ∃ q, q = n - ar := ⟨_, rfl⟩
  rw [← hq] at hsub
  have hq0 : (0 : Int) ≤ (q : Int) := by omega
  have hq1 : (q : Int) ≤ (n : Int) := by omega
  have hq2 : q ≤ n := by omega
  have hqa : n - q = ar := by omega
  have HQ := Lib.hid hq
  clear hq
  go_wp2_with fail
  go_still_tail 8, (by kernel_rfl)
  change wpList _ _ _ _ _ w2.drew
  rw [← HQ.out]
  have hst : (nms (s.st.drop q)).length = ar := by rw [nms_len, List.length_drop, ← HN.out]; omega
  have hsr : Src w2.drew (if c = q then A else Option.map (fun x => x.add q) A) (nms (s.st.drop q)) := by
    have ho := H2.out.stk
    rw [← HN.out] at ho
    have := src_drop (q := q) (rown_keep ho ((Chg.refl [] w2).drew)) hq2
    rwa [show nms (s.st.drop q) = (nms s.st).drop q from by simp [nms, List.map_drop]]
  have hfit : 2 + (nms (s.st.drop q)).length ≤ (clC (zc k)).length := by rw [hst, clC_len (by simp [zc])]; omega
  have HSZ := Lib.hid (show (Try.prog.info? 2).map (·.size) = some 1 from by kernel_rfl)
  have HST := Lib.hid hst
  have HSR := Lib.hid hsr
  have HFT := Lib.hid hfit
  have HS3 := Lib.hid (HS2.out.keep ((Chg.refl [] w2).drew))
  clear hst hsr hfit HS2
  refine wpList_copy_chg rfl (.tmp 23) (.tmp 29) _ _ rfl 2 Try.underlying23 HSZ.out (some ⟨g4, 2, none⟩) (if c = q then A else Option.map (fun x => x.add q) A) 26 26 (n - q) (c - q) rfl rfl g4 2 174 (clC (zc k)) (nms (s.st.drop q)) HS3.out ?_ (fun _ => rfl) HSR.out HFT.out (nms_one _) ?_
  · rw [HST.out, hqa]; exact (Nat.min_eq_left ha26).symm
  intro w3 hW3 hc3
  rw [splice_call k ar _ (by have := HST.out; rwa [nms_len] at this)] at hW3
  have HC3 := Lib.hid (show Chg [] W w3 from (HC2.out.drew).then_ hc3 (fun i hi hl => by
    have := HG5.out
    simp only [List.mem_cons, List.not_mem_nil, or_false] at hi
    omega))
  have HW3 := Lib.hid hW3
  have H3 := Lib.hid (HH.out.keep HC3.out)
  clear hc3 hW3 k7 H2 HS3 HSR HC2
  obtain ⟨cx, hcx⟩ : ∃ cx : CallV, cx = ⟨k, 0, s.st.drop q ++ List.replicate (26 - ar) 0⟩ := ⟨_, rfl⟩
  have HCX := Lib.hid hcx
  rw [← hcx] at HW3
  have HCL := Lib.hid (show cx.loc.length = 26 from by rw [hcx]; simp only [List.length_append, List.length_replicate]; have := HST.out; rw [nms_len] at this; omega)
  clear hcx HST HFT
  have k7 : w3.cell? ⟨gp, 7, none⟩ = some (.slice A n c) := by rw [HGP.out]; exact H3.out.rec_.cell 7
  have f7 : w3.frozen? ⟨gp, 7, none⟩ = false := by rw [HGP.out]; exact H3.out.rec_.frozen 7
  have hqc : (q : Int) ≤ (c : Int) := by omega
  have HGG := Lib.hid (show g4 ≠ gp from by
    have h1 := HH.out.rec_.lt
    have h2 := HGP.out
    have h3 := HG5.out
    omega)
  go_upto_region 4 with fail
  have HCUT := Lib.hid (show Eg P (w3.setCell ⟨gp, 7, none⟩ (.slice A q c)) (.slice A q c) vc ⟨s.fuel, s.st.take q, s.cs, s.L, s.V, s.qs⟩ ∧ Fe P.K egT W (w3.setCell ⟨gp, 7, none⟩ (.slice A q c)) from by rw [HGP.out]; exact HH.out.cut rfl HN.out hq2 HC3.out)
  have HW4 := Lib.hid (HW3.out.far (p := ⟨gp, 7, none⟩) (by simpa using HGG.out) (.slice A q c))
  generalize w3.setCell ⟨gp, 7, none⟩ (.slice A q c) = w4 at HCUT HW4 ⊢
  have H4 := Lib.hid HCUT.out.1
  have HF4 := Lib.hid HCUT.out.2
  clear k7 f7 H3 HW3 HC3 HCUT
  obtain ⟨A8, n8, c8, rfl, hn8, hc8⟩ := H4.out.cslice
  have k8 : w4.cell? ⟨gp, 8, none⟩ = some (.slice A8 n8 c8) := by rw [HGP.out]; exact H4.out.rec_.cell 8
  have hn8' : n8 ≤ 31 := by rw [hn8]; exact hcs
  have hcs8 : n8 = s.cs.length := hn8
  have HN8 := Lib.hid hcs8
  clear hn8
  obtain ⟨i1, z1, hi1, hz1, hzc1, hs1, hb1⟩ := info_parts2 zero_call
  have hzs1 : z1.cells.size = 28 := by rw [hzc1]; simp [clC_len (show (zc 0).loc.length = 26 from rfl)]
  have hcx : (clC cx).toArray.size = 28 := by simp [clC_len HCL.out]
  have hcx2 : (clC cx).length = 1 * 28 := by simp [clC_len HCL.out]
  have HSC := Lib.hid (show (Try.prog.info? 174).map (·.size) = some (clC cx).toArray.size from by rw [size_call, hcx])
  have hal4 : Chg [] w4 ((w4.alloc (.cells (clC cx).toArray 174)).drew) := ((Chg.refl [] w4).alloc _).drew
  have HOW := Lib.hid (show ((w4.alloc (.cells (clC cx).toArray 174)).drew).ownsRow P.B 174 28 (.slice A8 n8 c8) n8 (clCs s.cs) from by
    have := rown_keep H4.out.cal hal4
    rw [show (⟨s.fuel, s.st.take q, s.cs, s.L, s.V, s.qs⟩ : EgV).cs = s.cs from rfl, ← hcs8] at this
    exact this)
  have HAL4 := Lib.hid hal4
  have HBW := Lib.hid (show P.B ≤ ((w4.alloc (.cells (clC cx).toArray 174)).drew).heap.size from Nat.le_trans H4.out.room hal4.size)
  have HCELL := Lib.hid (cells_new w4.drew (clC cx) 174)
  have HW5 := Lib.hid (HW4.out.keep ((Chg.refl [] w4).drew))
  have HW6 := Lib.hid (HW4.out.keep hal4)
  have HONE := Lib.hid (clC_one cx)
  have HCXL := Lib.hid hcx
  have HCXM := Lib.hid hcx2
  generalize hCX : clC cx = CX at HW4 HW5 HW6 HSC HOW HAL4 HBW HCELL HONE HCXL HCXM
  have HCXX := Lib.hid hCX
  have q8 : ((w4.alloc (.cells CX.toArray 174)).drew).cell? ⟨gp, 8, none⟩ = some (.slice A8 n8 c8) := cell_keep (by simpa using k8) HAL4.out
  clear hal4 hcx hcx2 hCX hzc1 hcs8
  refine wp_region_any (by kernel_rfl) ?_
  change wpAny _ _ _ _ _ _ _ w4.drew
  refine wpAny_take (i := 0) (v := .pointer (some ⟨gp, 0, none⟩)) rfl (by kernel_rfl) (by kernel_rfl) (by kernel_rfl) (fun _ _ _ h => h) (Or.inl ⟨by rfl, fun w => by go_simp⟩) ?_
  refine wpAny_take (i := 1) (v := .pointer (some ⟨gp, 0, none⟩)) rfl (by kernel_rfl) (by kernel_rfl) (by kernel_rfl) (fun _ _ _ h => h) (Or.inl ⟨by rfl, fun w => by go_simp⟩) ?_
  refine wpAny_take (i := 2) (v := .pointer (some ⟨gp, 0, none⟩)) rfl (by kernel_rfl) (by kernel_rfl) (by kernel_rfl) (fun _ _ _ h => h) (Or.inl ⟨by rfl, fun w => by go_simp⟩) ?_
  refine wpAny_take (i := 3) (v := .pointer (some ⟨gp, 8, none⟩)) rfl (by kernel_rfl) (by kernel_rfl) (by kernel_rfl) (fun _ _ _ h => h) (Or.inl ⟨by rfl, fun w => by go_simp⟩) ?_
  refine wpAny_ready (rs := [4, 5]) (by kernel_rfl) (by simp) (AllReady.cons rfl (fun K hK => ?_) (AllReady.cons rfl (fun K hK => ?_) AllReady.nil))
  · go_simp
    refine hK _ _ ?_
    clear hK K
    refine wpAny_ready (rs := [5]) (by kernel_rfl) (by simp) (AllReady.cons rfl (fun K hK => ?_) AllReady.nil)
    refine step_load_row rfl 174 (.tmp 4) rfl g4 rfl 174 CX.toArray (0, 0) _ (by first | exact HW5.out | exact HW4.out) Try.underlying174 rfl HSC.out ?_
    refine hK _ _ ?_
    clear hK K
    refine wpAny_ready (rs := [6]) (by kernel_rfl) (by simp) (AllReady.cons rfl (fun K hK => ?_) AllReady.nil)
    refine step_build_one rfl 102 174 (.tmp 45) rfl CX.toArray rfl 28 Try.underlying102 hi1 hz1 hs1 hzs1 (by decide) (by decide) HCXL.out w4.heap.size rfl ?_
    refine hK _ _ ?_
    clear hK K
    change wpAny _ _ _ _ _ _ _ (w4.alloc (.cells CX.toArray 174)).drew
    refine wpAny_ready (rs := [7]) (by kernel_rfl) (by simp) (AllReady.cons rfl (fun K hK => ?_) AllReady.nil)
    refine step_append_n rfl (.tmp 44) (.tmp 46) 102 rfl P.B 174 i1 _ 28 224 Try.underlying102 hi1 hz1 hs1 hb1 hzs1 (by decide) (.slice A8 n8 c8) n8 (clCs s.cs) rfl HOW.out ⟨w4.heap.size, 0, none⟩ 1 1 CX rfl HCXM.out HCELL.out HONE.out (by unfold maxLen; omega) (by omega) HBW.out ?_
    intro v' w' ho hg
    obtain ⟨A6, k6, rfl, _⟩ := rown_slice ho
    have HO := Lib.hid ho
    have HG := Lib.hid hg
    have HR6 := Lib.hid (show Whole w' gp _ _ from by have := whole_grown (H4.out.keep HAL4.out).rec_ (H4.out.keep HAL4.out).cal (by decide) hg; rw [HGP.out]; exact this)
    have f8 := HR6.out.frozen 8
    have j8 := HR6.out.cell 8
    clear ho hg
    refine hK _ _ ?_
    clear hK K
    refine wpAny_ready (rs := [8]) (by kernel_rfl) (by simp) (AllReady.cons rfl (fun K hK => ?_) AllReady.nil)
    go_simp
    refine hK _ _ ?_
    clear hK K
    refine wpAny_ready (rs := [9]) (by kernel_rfl) (by simp) (AllReady.cons rfl (fun K hK => ?_) AllReady.nil)
    go_simp
    refine hK _ _ ?_
    clear hK K
    refine wpAny_ready (rs := [10]) (by kernel_rfl) (by simp) (AllReady.cons rfl (fun K hK => ?_) AllReady.nil)
    go_simp
    refine hK _ _ ?_
    clear hK K
    refine wpAny_done (by kernel_rfl) ?_ _
    obtain ⟨hP, hF⟩ := H4.out.called HAL4.out HCL.out (by have := HN8.out; show n8 + 1 = s.cs.length + 1; omega) hcs (by have := HO.out; rw [← HCXX.out] at this; exact this) HG.out
    have HPP := Lib.hid (show EgPost P W s' (.tuple #[]) (.returned (.tuple #[])) _ from ⟨rfl, ⟨_, _, by
      rw [HS'.out, ← HAR.out, ← HN.out, ← HQ.out]
      rw [HCX.out] at hP
      exact hP⟩, HF4.out.trans hF⟩)
    rw [← HGP.out] at HPP
    clear hP hF
    go_wp2_with fail
    all_goals go_end0
    all_goals exact HPP.out
  · refine step_load_row rfl 174 (.tmp 4) rfl g4 rfl 174 CX.toArray (0, 0) _ (by first | exact HW5.out | exact HW4.out) Try.underlying174 rfl HSC.out ?_
    refine hK _ _ ?_
    clear hK K
    refine wpAny_ready (rs := [4, 6]) (by kernel_rfl) (by simp) (AllReady.cons rfl (fun K hK => ?_) (AllReady.cons rfl (fun K hK => ?_) AllReady.nil))
    · go_simp
      refine hK _ _ ?_
      clear hK K
      refine wpAny_ready (rs := [6]) (by kernel_rfl) (by simp) (AllReady.cons rfl (fun K hK => ?_) AllReady.nil)
      refine step_build_one rfl 102 174 (.tmp 45) rfl CX.toArray rfl 28 Try.underlying102 hi1 hz1 hs1 hzs1 (by decide) (by decide) HCXL.out w4.heap.size rfl ?_
      refine hK _ _ ?_
      clear hK K
      change wpAny _ _ _ _ _ _ _ (w4.alloc (.cells CX.toArray 174)).drew
      refine wpAny_ready (rs := [7]) (by kernel_rfl) (by simp) (AllReady.cons rfl (fun K hK => ?_) AllReady.nil)
      refine step_append_n rfl (.tmp 44) (.tmp 46) 102 rfl P.B 174 i1 _ 28 224 Try.underlying102 hi1 hz1 hs1 hb1 hzs1 (by decide) (.slice A8 n8 c8) n8 (clCs s.cs) rfl HOW.out ⟨w4.heap.size, 0, none⟩ 1 1 CX rfl HCXM.out HCELL.out HONE.out (by unfold maxLen; omega) (by omega) HBW.out ?_
      intro v' w' ho hg
      obtain ⟨A6, k6, rfl, _⟩ := rown_slice ho
      have HO := Lib.hid ho
      have HG := Lib.hid hg
      have HR6 := Lib.hid (show Whole w' gp _ _ from by have := whole_grown (H4.out.keep HAL4.out).rec_ (H4.out.keep HAL4.out).cal (by decide) hg; rw [HGP.out]; exact this)
      have f8 := HR6.out.frozen 8
      have j8 := HR6.out.cell 8
      clear ho hg
      refine hK _ _ ?_
      clear hK K
      refine wpAny_ready (rs := [8]) (by kernel_rfl) (by simp) (AllReady.cons rfl (fun K hK => ?_) AllReady.nil)
      go_simp
      refine hK _ _ ?_
      clear hK K
      refine wpAny_ready (rs := [9]) (by kernel_rfl) (by simp) (AllReady.cons rfl (fun K hK => ?_) AllReady.nil)
      go_simp
      refine hK _ _ ?_
      clear hK K
      refine wpAny_ready (rs := [10]) (by kernel_rfl) (by simp) (AllReady.cons rfl (fun K hK => ?_) AllReady.nil)
      go_simp
      refine hK _ _ ?_
      clear hK K
      refine wpAny_done (by kernel_rfl) ?_ _
      obtain ⟨hP, hF⟩ := H4.out.called HAL4.out HCL.out (by have := HN8.out; show n8 + 1 = s.cs.length + 1; omega) hcs (by have := HO.out; rw [← HCXX.out] at this; exact this) HG.out
      have HPP := Lib.hid (show EgPost P W s' (.tuple #[]) (.returned (.tuple #[])) _ from ⟨rfl, ⟨_, _, by
        rw [HS'.out, ← HAR.out, ← HN.out, ← HQ.out]
        rw [HCX.out] at hP
        exact hP⟩, HF4.out.trans hF⟩)
      rw [← HGP.out] at HPP
      clear hP hF
      go_wp2_with fail
      all_goals go_end0
      all_goals exact HPP.out
    · refine step_build_one rfl 102 174 (.tmp 45) rfl CX.toArray rfl 28 Try.underlying102 hi1 hz1 hs1 hzs1 (by decide) (by decide) HCXL.out w4.heap.size rfl ?_
      refine hK _ _ ?_
      clear hK K
      change wpAny _ _ _ _ _ _ _ (w4.alloc (.cells CX.toArray 174)).drew
      refine wpAny_ready (rs := [4]) (by kernel_rfl) (by simp) (AllReady.cons rfl (fun K hK => ?_) AllReady.nil)
      go_simp
      refine hK _ _ ?_
      clear hK K
      refine wpAny_ready (rs := [7]) (by kernel_rfl) (by simp) (AllReady.cons rfl (fun K hK => ?_) AllReady.nil)
      refine step_append_n rfl (.tmp 44) (.tmp 46) 102 rfl P.B 174 i1 _ 28 224 Try.underlying102 hi1 hz1 hs1 hb1 hzs1 (by decide) (.slice A8 n8 c8) n8 (clCs s.cs) rfl HOW.out ⟨w4.heap.size, 0, none⟩ 1 1 CX rfl HCXM.out HCELL.out HONE.out (by unfold maxLen; omega) (by omega) HBW.out ?_
      intro v' w' ho hg
      obtain ⟨A6, k6, rfl, _⟩ := rown_slice ho
      have HO := Lib.hid ho
      have HG := Lib.hid hg
      have HR6 := Lib.hid (show Whole w' gp _ _ from by have := whole_grown (H4.out.keep HAL4.out).rec_ (H4.out.keep HAL4.out).cal (by decide) hg; rw [HGP.out]; exact this)
      have f8 := HR6.out.frozen 8
      have j8 := HR6.out.cell 8
      clear ho hg
      refine hK _ _ ?_
      clear hK K
      refine wpAny_ready (rs := [8]) (by kernel_rfl) (by simp) (AllReady.cons rfl (fun K hK => ?_) AllReady.nil)
      go_simp
      refine hK _ _ ?_
      clear hK K
      refine wpAny_ready (rs := [9]) (by kernel_rfl) (by simp) (AllReady.cons rfl (fun K hK => ?_) AllReady.nil)
      go_simp
      refine hK _ _ ?_
      clear hK K
      refine wpAny_ready (rs := [10]) (by kernel_rfl) (by simp) (AllReady.cons rfl (fun K hK => ?_) AllReady.nil)
      go_simp
      refine hK _ _ ?_
      clear hK K
      refine wpAny_done (by kernel_rfl) ?_ _
      obtain ⟨hP, hF⟩ := H4.out.called HAL4.out HCL.out (by have := HN8.out; show n8 + 1 = s.cs.length + 1; omega) hcs (by have := HO.out; rw [← HCXX.out] at this; exact this) HG.out
      have HPP := Lib.hid (show EgPost P W s' (.tuple #[]) (.returned (.tuple #[])) _ from ⟨rfl, ⟨_, _, by
        rw [HS'.out, ← HAR.out, ← HN.out, ← HQ.out]
        rw [HCX.out] at hP
        exact hP⟩, HF4.out.trans hF⟩)
      rw [← HGP.out] at HPP
      clear hP hF
      go_wp2_with fail
      all_goals go_end0
      all_goals exact HPP.out
end
end Go.Proofs.Ytfhgnoajfipjdaa
