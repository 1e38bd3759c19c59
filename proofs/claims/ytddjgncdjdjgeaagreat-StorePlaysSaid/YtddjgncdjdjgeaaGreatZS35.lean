/-
  S: Rst4.
-/
import Derived.Test.YtddjgncdjdjgeaaGreatZS29
import Derived.Test.YtddjgncdjdjgeaaGreatZS30
import Derived.Test.YtddjgncdjdjgeaaGreatZS34
namespace Go.Proofs.YtddjgncdjdjgeaaGreat
open Go.RowKit
def ROpenPost (w : World) (p gL gN gW : Nat) (rL rN : List Value) (d : Dg) (ex : List Nat) (e : Ending) (w' : World) : Prop :=
  ((bestK d.s.V.length d.s.S 2).epoch = 0 ∧ e = .returned (.tuple #[.pointer none, .int .i64 22]) ∧ Chg [] w w') ∨
  ((bestK d.s.V.length d.s.S 2).epoch = 4294967295 ∧ e = .returned (.tuple #[.pointer none, .int .i64 24]) ∧ Chg [] w w') ∨
  (0 < (bestK d.s.V.length d.s.S 2).epoch ∧ (bestK d.s.V.length d.s.S 2).epoch < 4294967295 ∧ ∃ g gP gM gW' us rP, e = .returned (.tuple #[.pointer (some ⟨g, 0, none⟩), .int .i64 0]) ∧ w.heap.size ≤ g ∧ w.heap.size ≤ gP ∧ w.heap.size ≤ gM ∧ (gW' = gW ∨ w.heap.size ≤ gW') ∧
    RSto w' ⟨p, gL, gN, g, gP, gM, ex⟩ gW' rL rN (d.run (ckDs (openV d.s (bestK d.s.V.length d.s.S 2)))) (ckV (openV d.s (bestK d.s.V.length d.s.S 2))) us rP ∧ Chg [p, gL, gN, gW] w w')
/-- Rows of a call's own, away from others. -/
theorem Els.of_rows {B : Nat} {w : World} {vs : List Value} {ps : List (List UInt8)} {T : List Nat} (hr : Rows B w vs ps) (hT : ∀ i ∈ T, i < B ∨ (∃ t cs, Whole w i t cs ∧ t ≠ 5)) : Els T w vs ps := by
  refine ⟨hr.1, fun i u l hu hl => ?_⟩
  have ho := hr.2 i u l hu hl
  obtain ⟨A', c', e', hB, _⟩ := Bs.of_own ho
  refine ⟨A', l.length, c', e', hB, fun ad e hm => ?_⟩
  rcases ho.2 with ⟨hz, _⟩ | ⟨g, cap, cur, hz, hb, hh, _⟩
  · rw [e'] at hz; injection hz with hz _ _; rw [e] at hz; cases hz
  · rw [e'] at hz; injection hz with hz _ _; rw [e] at hz; injection hz with hz; subst hz
    rcases hT _ hm with h1 | ⟨t, cs, hW, h1⟩
    · have h1 : g < B := h1
      omega
    · have hh' : w.heap[g]? = _ := hW
      rw [hh'] at hh
      injection hh with hh
      injection hh with _ hh _
      exact h1 hh
/-- A row of our own that is not empty, as a block. -/
theorem own_block {w : World} {B n : Nat} {e : TypeId} {v : Value} {xs : List Value} (h : w.ownsRow B e 1 v n xs) (hn : 0 < n) : ∃ g r, v = .slice (some ⟨g, 0, none⟩) n (n + r.length) ∧ B ≤ g ∧ Whole w g e (xs ++ r) := by
  have hl : xs.length = n := by simpa using h.1
  rcases h.2 with ⟨_, h0⟩ | ⟨g, cap, cur, hv, hb, hh, hnc, hc, hs, ht⟩
  · omega
  · have hcl : cur.toList.length = cap := by simpa using hs
    refine ⟨g, cur.toList.drop n, ?_, hb, ?_⟩
    · rw [List.length_drop, hcl, show n + (cap - n) = cap by omega]; exact hv
    · have ht' : cur.toList.take n = xs := by simpa using ht
      show w.heap[g]? = _
      rw [hh, ← ht', List.take_append_drop]
def rstoV (p : Nat) (o : RV) (vP : Value) (gN : Nat) : List Value := [.pointer (some ⟨p, 0, none⟩), .int .i64 (o.log : Int), .int .i64 (o.pages : Int), .int .u32 (o.epoch : Int), vP, .slice (some ⟨gN, 0, none⟩) o.pages o.pages, .int .i64 0, .int .u32 0]
def rbldF (B p : Nat) (o : RV) (ls : List (List UInt8)) : Fact := fun v W => ∃ vP vs gN, v = .agg (rstoV p o vP gN).toArray ∧ W.ownsRow B 30 1 vP ls.length vs ∧ Rows B W vs ls ∧ Whole W gN 4 (bls (List.replicate o.pages false)) ∧ B ≤ gN
theorem keeps_rbld (B p : Nat) (o : RV) (ls : List (List UInt8)) : Keeps (Chg []) (rbldF B p o ls) := fun _ _ _ ⟨vP, vs, gN, e, h1, h2, h3, h4⟩ hc => ⟨vP, vs, gN, e, own_keep h1 hc, h2.keep hc, h3.keep hc, h4⟩
def rboxF (B p : Nat) (o : RV) (ls : List (List UInt8)) : Fact := fun v W => ∃ g vP vs gN, v = .pointer (some ⟨g, 0, none⟩) ∧ Whole W g 69 (rstoV p o vP gN) ∧ B ≤ g ∧ W.ownsRow B 30 1 vP ls.length vs ∧ Rows B W vs ls ∧ Whole W gN 4 (bls (List.replicate o.pages false)) ∧ B ≤ gN
theorem keeps_rbox (B p : Nat) (o : RV) (ls : List (List UInt8)) : Keeps (Chg []) (rboxF B p o ls) := fun _ _ _ ⟨g, vP, vs, gN, e, h0, hB, h1, h2, h3, h4⟩ hc => ⟨g, vP, vs, gN, e, h0.keep hc, hB, own_keep h1 hc, h2.keep hc, h3.keep hc, h4⟩
section
variable {w : World} {p gL gN gW : Nat} {rL rN : List Value} {d : Dg}
set_option maxHeartbeats 16000000 in
set_option maxRecDepth 100000 in
theorem ropen_any (h : Rd w p gL gN gW rL rN d) {ex : List Nat} (hex : ∀ i ∈ ex, i < w.heap.size) : Calls Tryz.prog 22 #[.pointer (some ⟨p, 0, none⟩)] w (ROpenPost w p gL gN gW rL rN d ex) := by
  obtain ⟨s, lf, md⟩ := d
  have H := Lib.hid h
  have HEX := Lib.hid hex
  have hlt := bestK_lt s.V.length s.S 2
  have hrt := bestK_right s.V.length s.S 2
  have hbe := rbest_any h
  clear h
  obtain ⟨o, ho⟩ : ∃ o, o = bestK s.V.length s.S 2 := ⟨_, rfl⟩
  have HO := Lib.hid ho
  rw [← ho] at hlt hrt hbe
  have HLT := Lib.hid hlt
  have HRT := Lib.hid hrt
  have HBE := Lib.hid hbe
  clear ho hrt hbe
  go_enter Tryz.func22, Tryz.ntmps22
  go_wp2_with fail
  refine HBE.out.mono ?_
  rintro e w1 ⟨rfl, hc1⟩
  have HC1 := Lib.hid hc1
  unfold rootV
  clear hc1
  go_upto_region 2 with fail
  have hR := Whole.new w1 58 [.int .i64 (o.log : Int), .int .i64 (o.pages : Int), .int .u32 (o.epoch : Int)]
  have hal := (Chg.refl [] w1).alloc (.cells #[.int .i64 (o.log : Int), .int .i64 (o.pages : Int), .int .u32 (o.epoch : Int)] 58)
  have HC2 := Lib.hid (HC1.out.new hal)
  obtain ⟨gr, hgr⟩ : ∃ g, g = w1.heap.size := ⟨_, rfl⟩
  rw [← hgr] at hR ⊢
  generalize w1.alloc (.cells #[.int .i64 (o.log : Int), .int .i64 (o.pages : Int), .int .u32 (o.epoch : Int)] 58) = w2 at hR HC2 ⊢
  have HR2 := Lib.hid hR
  have r2 := hR.cell 2
  clear hR hal hgr
  by_cases h0 : o.epoch = 0
  · have q0 : decide (0 < o.epoch) = false := by simp [h0]
    have HP := Lib.hid (show ROpenPost w p gL gN gW rL rN ⟨s, lf, md⟩ ex (.returned (.tuple #[.pointer none, .int .i64 22])) w2 from .inl ⟨by rw [← HO.out]; exact h0, rfl, HC2.out⟩)
    clear h0 hlt
    go_wp2_with fail
    go_ret2
    exact HP.out
  have q0 : decide (0 < o.epoch) = true := by simp; omega
  by_cases hF : o.epoch = 4294967295
  · have q1 : ((o.epoch : Int) == 4294967295) = true := by simp [hF]
    have HP := Lib.hid (show ROpenPost w p gL gN gW rL rN ⟨s, lf, md⟩ ex (.returned (.tuple #[.pointer none, .int .i64 24])) w2 from .inr (.inl ⟨by rw [← HO.out]; exact hF, rfl, HC2.out⟩))
    clear h0 hlt hF
    go_wp2_with fail
    go_ret2
    exact HP.out
  have q1 : ((o.epoch : Int) == 4294967295) = false := by simp; omega
  have HE := Lib.hid (show 0 < o.epoch ∧ o.epoch < 4294967295 by omega)
  have hright : rightR (o.log : Int) (o.pages : Int) (o.epoch : Int) s.V.length = true := HRT.out.resolve_left h0
  have HRI := Lib.hid hright
  have hlp := rightR_true.1 hright
  have HLP := Lib.hid (show 1 ≤ o.log ∧ o.log ≤ 64 ∧ 1 ≤ o.pages ∧ o.pages ≤ 64 ∧ 2 + o.log + o.pages ≤ s.V.length by omega)
  clear h0 hF hlt hright hlp
  go_upto_region 6 with fail
  have HW2 := Lib.hid (Rfx.keep H.out HC2.out)
  have HAL := Lib.hid (show allL s o.log o.pages o.epoch = pagesL s o.log o.pages by unfold allL; rw [if_pos HRI.out, Int.toNat_natCast])
  clear r2 q0 q1
  have hC0 := (Chg.refl [] w2).drew
  refine wp_flow (by kernel_rfl) plainT plainT_ok (by kernel_rfl) ?_
  refine flow_move_out plainT_ok rfl rfl rfl ?_
  refine flow1h (r := rootV o.log o.pages o.epoch) plainT_ok rfl (.out rfl rfl) rfl (fun ev W he hW e1 => by have hx := HR2.out.keep (hC0.new hW); have r0 := hx.cell 0; have r1 := hx.cell 1; have r2 := hx.cell 2; clear hW hx; unfold rootV; go_simp) ?_
  refine flow_move_out plainT_ok rfl rfl rfl ?_
  refine flow1h (r := rootV o.log o.pages o.epoch) plainT_ok rfl (.out rfl rfl) rfl (fun ev W he hW e1 => by have hx := HR2.out.keep (hC0.new hW); have r0 := hx.cell 0; have r1 := hx.cell 1; have r2 := hx.cell 2; clear hW hx; unfold rootV; go_simp) ?_
  refine flow_calld (frmF w2.heap.size (pagesL s o.log o.pages)) (keeps_frm _ _) (.inr (keeps_frm _ _)) (by kernel_rfl) rfl (.cons (.inn rfl) (.cons (.inn rfl) .nil)) (fun W hW => (rall_any (Rfx.keep HW2.out (hC0.new hW)) o.log o.pages o.epoch).mono ?_) ?_
  · rintro e w' ⟨v, vs, rfl, ho, hrw, hc⟩
    rw [HAL.out] at ho hrw
    exact ⟨v, rfl, hc, vs, own_more ho (hC0.new hW).size, rows_more hrw (hC0.new hW).size⟩
  refine flow1 (r := .pointer (some ⟨gr, 1, none⟩)) plainT_ok rfl (.out rfl rfl) rfl (fun ev W he e1 => by go_simp) ?_
  refine flow1h (r := .int .i64 (o.pages : Int)) plainT_ok rfl (.inn rfl) rfl (fun ev W he hW e1 => by have r1 := (HR2.out.keep (hC0.new hW)).cell 1; clear hW; go_simp) ?_
  refine flow_op (namF w2.heap.size o.pages) (keeps_nam _ _) (.inr (keeps_nam _ _)) rfl (fun ev W he hW hfs => ?_) ?_
  · obtain ⟨f1, f2, _⟩ := hfs
    have e1 : ev (.tmp 27) = .int .i64 (o.pages : Int) := f1
    have hmk := make_bool o.pages (by have := HLP.out; omega) W
    have hr : (execOp ev ⟨some 28, .makeSlice 67 (.tmp 27) (.tmp 27), 67, "ref.go:102", #[{ on := 6, ground := Ground.data }, { on := 6, ground := Ground.data }], none⟩).run Tryz.prog W = .ok (.value (.slice (some ⟨W.heap.size, 0, none⟩) o.pages o.pages)) (W.alloc (.cells (bls (falses o.pages)).toArray 4)) := by
      simp only [execOp, e1, Sem.run_bind, hmk]; rfl
    refine Eq.mpr (congrArg _ hr) ?_
    exact ⟨(Chg.refl [] W).alloc _, W.heap.size, rfl, Whole.new W _ _, (hC0.new hW).size⟩
  refine flow_op (rbldF w2.heap.size p o (pagesL s o.log o.pages)) (keeps_rbld _ _ _ _) (.inr (keeps_rbld _ _ _ _)) rfl (fun ev W he hW hfs => ?_) ?_
  · obtain ⟨f1, f2, f3, f4, _⟩ := hfs
    have e1 : ev (.tmp 21) = .pointer (some ⟨p, 0, none⟩) := f1
    have e2 : ev (.tmp 22) = rootV o.log o.pages o.epoch := f2
    have f3' : frmF w2.heap.size (pagesL s o.log o.pages) (ev (.tmp 25)) W := f3
    have f4' : namF w2.heap.size o.pages (ev (.tmp 28)) W := f4
    obtain ⟨vs, ho, hrw⟩ := f3'
    obtain ⟨gM, e4, hN, hB⟩ := f4'
    have hr : (execOp ev ⟨some 29, .build 69 #[(0, .tmp 21), (1, .tmp 22), (2, .tmp 25), (3, .tmp 28)], 69, "ref.go:102", #[{ on := 0, ground := Ground.data }, { on := 1, ground := Ground.data }, { on := 4, ground := Ground.data }, { on := 7, ground := Ground.data }], none⟩).run Tryz.prog W = .ok (.value (.agg (rstoV p o (ev (.tmp 25)) gM).toArray)) W := by
      obtain ⟨A27, c27, e27, _⟩ := own_slice ho
      unfold rootV at e2
      unfold rstoV
      go_simp
    refine Eq.mpr (congrArg _ hr) ?_
    exact ⟨Chg.refl [] W, ev (.tmp 25), vs, gM, rfl, ho, hrw, hN, hB⟩
  refine flow_op (rboxF w2.heap.size p o (pagesL s o.log o.pages)) (keeps_rbox _ _ _ _) (.inr (keeps_rbox _ _ _ _)) rfl (fun ev W he hW hfs => ?_) ?_
  · obtain ⟨f1, _⟩ := hfs
    have f1' : rbldF w2.heap.size p o (pagesL s o.log o.pages) (ev (.tmp 29)) W := f1
    obtain ⟨vP, vs, gM, e1, ho, hrw, hN, hB⟩ := f1'
    have hr : (execOp ev ⟨some 30, .box 69 (.tmp 29), 45, "ref.go:102", #[{ on := 8, ground := Ground.data }], none⟩).run Tryz.prog W = .ok (.value (.pointer (some ⟨W.heap.size, 0, none⟩))) (W.alloc (.cells (rstoV p o vP gM).toArray 69)) := by
      simp only [execOp, e1, Sem.run_bind, Instr.box, newVar, newRow, run_newObj_alloc, Sem.run_pure, Result.andThen_ok]
      rfl
    refine Eq.mpr (congrArg _ hr) ?_
    have hal := (Chg.refl [] W).alloc (.cells (rstoV p o vP gM).toArray 69)
    exact ⟨hal, W.heap.size, vP, vs, gM, rfl, Whole.new W _ _, (hC0.new hW).size, own_keep ho hal, hrw.keep hal, hN.keep hal, hB⟩
  refine flow_assign plainT_ok rfl (keeps_rbox _ _ _ _) (.inr (keeps_rbox _ _ _ _)) rfl ?_
  intro vs8 W hW hF
  have h6 : rboxF w2.heap.size p o (pagesL s o.log o.pages) (vs8 6) W := hF 6 _ rfl rfl
  have hcw := hC0.new hW
  obtain ⟨g, vP, us, gM, e6, hG, hgB, hO, hRW, hNM, hNB⟩ := h6
  simp only [putAll, Act.put, List.setIfInBounds_toArray, List.set_cons_zero, List.set_cons_succ]
  rw [e6]
  have HB2 := Lib.hid (show w.heap.size ≤ w2.heap.size from HC2.out.size)
  have HR3 := Lib.hid (HR2.out.keep hcw)
  have HC3 := Lib.hid (HC2.out.new hcw)
  have HW3 := Lib.hid (Rfx.keep HW2.out hcw)
  have HG3 := Lib.hid hG
  have HX3 := Lib.hid (And.intro hO (And.intro hRW hNM))
  have HGB := Lib.hid (And.intro hgB hNB)
  clear hF hW hcw hC0 e6 hG hgB hO hRW hNM hNB HR2 HC2 HW2
  obtain ⟨w3, hw3⟩ : ∃ w3 : World, w3 = W := ⟨_, rfl⟩
  rw [← hw3] at HR3 HC3 HW3 HG3 HX3 ⊢
  clear hw3
  have r0 := HR3.out.cell 0
  have r1 := HR3.out.cell 1
  have r2 := HR3.out.cell 2
  go_wp2_with fail
  refine (rrec_any HW3.out o.log o.pages o.epoch).mono ?_
  rintro e w4 ⟨v4, vs4, rfl, ho4, hrc4, hc4⟩
  have HC4 := Lib.hid (HC3.out.new hc4)
  have HLT4 := Lib.hid (show g < w3.heap.size ∧ gM < w3.heap.size from ⟨HG3.out.lt, HX3.out.2.2.lt⟩)
  have HO4 := Lib.hid ho4
  have HRC := Lib.hid hrc4
  have hPn : 0 < (pagesL s o.log o.pages).length := by rw [pagesL_len]; have := HLP.out; omega
  obtain ⟨gP, rP, rfl, hgPB, hPW⟩ := own_block (own_keep HX3.out.1 hc4) hPn
  have hsto : RSto w4 ⟨p, gL, gN, g, gP, gM, ex⟩ gW rL rN ⟨s, lf, md⟩ (homeV s o) us rP := by
    have hD4 := Rfx.keep HW3.out hc4
    have hG4 := HG3.out.keep hc4
    have hN4 := HX3.out.2.2.keep hc4
    have h64 : ∀ l ∈ pagesL s o.log o.pages, l.length = 64 := fun l hl => by
      obtain ⟨i, hi, rfl⟩ := List.mem_map.1 hl
      have := List.mem_range.1 hi
      have := HLP.out
      exact sectL_len (Rfx.lenS H.out) (by rw [Int.toNat_natCast]; omega)
    have hlt : ∀ b, b < w.heap.size → b < w2.heap.size := fun b hb => Nat.lt_of_lt_of_le hb HB2.out
    have hT : ∀ i ∈ (RK.D ⟨p, gL, gN, g, gP, gM, ex⟩ gW), i < w2.heap.size ∨ (∃ t cs, Whole w4 i t cs ∧ t ≠ 5) := fun i hi => by
      simp only [RK.D, List.mem_cons] at hi
      rcases hi with rfl | rfl | rfl | rfl | rfl | rfl | rfl | hi
      · exact .inl (hlt _ (Rfx.rec_ H.out).lt)
      · exact .inl (hlt _ (Rfx.last H.out).lt)
      · exact .inl (hlt _ (Rfx.now H.out).lt)
      · exact .inl (hlt _ (Rfx.wait H.out).lt)
      · exact .inr ⟨_, _, hG4, by decide⟩
      · exact .inr ⟨_, _, hPW, by decide⟩
      · exact .inr ⟨_, _, hN4, by decide⟩
      · exact .inl (hlt _ (HEX.out i hi))
    have hel := Els.of_rows (HX3.out.2.1.keep hc4) hT
    rw [pagesL_len] at hG4
    exact { dsk := hD4, rec_ := hG4, pg := hPW, els := hel, nm := hN4, ng := by have := hlt _ (Rfx.wait H.out).lt; have := HGB.out.2; show gM ≠ gW; omega, rt := HRI.out, ep := by have := HE.out; show o.epoch < _; omega, pl := pagesL_len s o.log o.pages, nl := by show (List.replicate o.pages false).length = o.pages; simp, p64 := h64, us_ := Nat.zero_le _, sq := by show 0 * 18 ≤ 0; omega, exl := fun i hi => Nat.lt_of_lt_of_le (HEX.out i hi) HC4.out.size }
  have HST := Lib.hid hsto
  have HGPB := Lib.hid (show w2.heap.size ≤ gP ∧ gP < w3.heap.size from ⟨hgPB, by
    have h1 := own_block HX3.out.1 hPn
    obtain ⟨g', r', e', _, hW'⟩ := h1
    injection e' with e' _ _
    injection e' with e'
    injection e' with e' _ _
    subst e'
    exact hW'.lt⟩)
  have HLT5 := Lib.hid (show ∀ i ∈ RK.D ⟨p, gL, gN, g, gP, gM, ex⟩ gW, i < w3.heap.size from fun i hi => by
    simp only [RK.D, List.mem_cons] at hi
    have h1 := (Rfx.rec_ HW3.out).lt
    have h2 := (Rfx.last HW3.out).lt
    have h3 := (Rfx.now HW3.out).lt
    have h4 := (Rfx.wait HW3.out).lt
    have h5 := HLT4.out
    have h6 := HGPB.out
    have h7 := HC3.out.size
    have h8 := HEX.out i
    rcases hi with rfl | rfl | rfl | rfl | rfl | rfl | rfl | hi
    · omega
    · omega
    · omega
    · omega
    · omega
    · omega
    · omega
    · have := h8 hi; omega)
  obtain ⟨X, hX⟩ : ∃ X, X = recsS s o.log o.pages o.epoch := ⟨_, rfl⟩
  have HXE := Lib.hid hX
  rw [← hX] at HO4 HRC ⊢
  rw [← hX] at ho4
  obtain ⟨A4, c4, rfl, hl4, hcp4, hs4, hA4⟩ := own_slice ho4
  have HL4 := Lib.hid (And.intro hl4 hcp4)
  have hmx := own_max ho4
  obtain ⟨n, hn⟩ : ∃ n, n = X.1.length := ⟨_, rfl⟩
  have HN := Lib.hid hn
  rw [← hn] at HO4 hmx ⊢
  have HA4 := Lib.hid hA4
  clear hsto ho4 hrc4 hc4 hX hl4 hcp4 hs4 hA4 hn r0 r1 r2 hPn hgPB hPW
  have HRR := Lib.hid (show ∀ m ∈ X.1, rightB (o.pages : Int) m = true by rw [HXE.out]; exact recF_right _ _)
  go_wp2_with fail
  go_loopw [39] (fun i wr => ∃ j : Nat, i = .int .i64 (j : Int) ∧ j ≤ n ∧ Hid (∃ us', RSto wr ⟨p, gL, gN, g, gP, gM, ex⟩ gW rL rN ⟨s, lf, md⟩ ((X.1.take j).foldl turnV (homeV s o)) us' rP) ∧ Hid (Chg [gP, gM] w4 wr)) (fun i _ => n - (intOf i).toNat)
  case atStart => exact ⟨0, rfl, Nat.zero_le _, Lib.hid ⟨us, HST.out⟩, Lib.hid (Chg.refl _ _)⟩
  case round =>
    obtain ⟨j, rfl, hj, HSr, HCr⟩ := hrel
    by_cases hlt : j < n
    · have hjI : (j : Int) < (n : Int) := by omega
      have hj0 : (0 : Int) ≤ (j : Int) := by omega
      have hjX : j < X.1.length := by rw [← HN.out]; exact hlt
      have hjv : j < vs4.length := by rw [HL4.out.1]; exact hjX
      have hT3 : ∀ i ∈ [gP, gM], i < w3.heap.size ∨ w4.heap.size ≤ i := fun i hi => by
        simp only [List.mem_cons, List.not_mem_nil, or_false] at hi
        have := HLT4.out
        have := HGPB.out
        rcases hi with rfl | rfl <;> omega
      obtain ⟨A', c', e', _, _, hsr, _⟩ := own_slice (rown_chg HO4.out HCr.out hT3)
      injection e' with e' _ e2
      subst e' e2
      obtain ⟨ad, rfl, _, hcell⟩ := hsr (by rw [HL4.out.1]; omega)
      obtain ⟨b7, o7, s7⟩ := ad
      obtain rfl : s7 = none := (HA4.out _ rfl).1
      have hc := hcell j vs4[j] (List.getElem?_eq_getElem hjv)
      obtain ⟨ls, g1, g2, g3, g4⟩ := HRC.out.2 j vs4[j] X.1[j] (List.getElem?_eq_getElem hjv) (List.getElem?_eq_getElem hjX)
      have HRB := Lib.hid (HRR.out X.1[j] (List.getElem_mem hjX))
      have HNX := Lib.hid (fold_next turnV (homeV s o) X.1 j X.1[j] (List.getElem?_eq_getElem hjX))
      have g1' := rown_chg g1 HCr.out hT3
      have g2' : ∀ a ∈ ls, RMade wr w3.heap.size a := fun a ha => (g2 a ha).chg HCr.out hT3
      generalize vs4[j] = vv at hc g1'
      generalize X.1[j] = mj at g1' g3 g4 HRB HNX
      obtain ⟨A5, c5, e5, hl5, hch5, _, _, _⟩ := chs_own' g1' (fun a ha => (g2' a ha).ok)
      have hb5 := own_blk g1' e5
      subst e5
      obtain ⟨dl, hd⟩ : ∃ dl, dl = mj.length := ⟨_, rfl⟩
      have hrb : rightB (o.pages : Int) ls = true := by rw [asC_rightB g4]; exact HRB.out
      have hrs : rightS (-1) (o.pages : Int) ls = true := by unfold rightB at hrb; rw [Bool.and_eq_true] at hrb; exact hrb.2
      obtain ⟨hr1, hr2⟩ := rs_len hrs (by have := HLP.out; omega)
      have hd64 : dl ≤ 64 := by have := HLP.out; omega
      obtain ⟨vr, hst⟩ := HSr.out
      have hxP : ((X.1.take j).foldl turnV (homeV s o)).P = o.pages := (turn_same _ _).2.1
      have hin : InP ((X.1.take j).foldl turnV (homeV s o)).P ls := fun a ha => by
        rw [hxP]
        exact ⟨by have := (hr2 a ha).1; omega, (hr2 a ha).2.1, (g2' a ha).bl⟩
      have HTU := Lib.hid (rapply_any (dC := c5) hst ⟨hch5, fun _ ad e hm => by
          have h1 : w3.heap.size ≤ ad.block := hb5 ad e
          have h2 := HLT5.out _ hm
          omega, fun a ha _ ad e hm => by
          obtain ⟨gb, rb, hgb, hBb, _⟩ := (g2' a ha).b
          rw [hgb] at e
          injection e with e
          subst e
          have h2 : gb < w3.heap.size := HLT5.out _ hm
          omega⟩ (hl5.trans hd.symm) (by omega) hin)
      rw [← hd] at hc
      have HKV := Lib.hid (turnV_key ((X.1.take j).foldl turnV (homeV s o)) g4.1)
      rw [add_plain] at hc
      clear hcell hsr g1 g2 g3 g4 g1' g2' hb5 hl5 hch5 hd hrb hrs hr1 hr2 hd64 hst hxP hin hjX hjv hT3
      go_wp2_with fail
      refine HTU.out.mono ?_
      rintro e w5 ⟨rfl, ⟨v5, hs5⟩, hc5⟩
      have HS5 := Lib.hid (show ∃ us', RSto w5 ⟨p, gL, gN, g, gP, gM, ex⟩ gW rL rN ⟨s, lf, md⟩ ((X.1.take (j + 1)).foldl turnV (homeV s o)) us' rP from ⟨v5, by rw [HNX.out, ← HKV.out]; exact hs5⟩)
      have HC5 := Lib.hid (HCr.out.trans hc5)
      clear hs5 hc5
      go_wp2_with fail
      go_roundw
      case rel => exact ⟨j + 1, by go_num, by omega, HS5, HC5⟩
      case measure => simp [intOf]; omega
    · obtain rfl : n = j := by omega
      have hjI : ¬ (n : Int) < (n : Int) := by omega
      obtain ⟨vr, hst⟩ := HSr.out
      have ht : (X.1.take n).foldl turnV (homeV s o) = openV s o := by rw [HN.out, List.take_length, HXE.out]; rfl
      rw [ht] at hst
      have hxE : (openV s o).E = o.epoch := (turn_same _ _).2.2.1
      have HCK := Lib.hid (rck_any hst (by rw [hxE]; exact HE.out.2))
      clear hst ht hxE
      go_wp2_with fail
      refine HCK.out.mono ?_
      rintro e w5 ⟨rfl, ⟨gV5, hs5, hgv5⟩, hc5⟩
      have HP := Lib.hid (show ROpenPost w p gL gN gW rL rN ⟨s, lf, md⟩ ex (.returned (.tuple #[.pointer (some ⟨g, 0, none⟩), .int .i64 0])) w5 from .inr (.inr (by
        show 0 < (bestK s.V.length s.S 2).epoch ∧ (bestK s.V.length s.S 2).epoch < 4294967295 ∧ _
        rw [← HO.out]
        have hg1 := HGB.out
        have hg2 := HB2.out
        have hg3 := HGPB.out
        have hg4 := HC4.out.size
        have hg5 := HCr.out.size
        refine ⟨HE.out.1, HE.out.2, g, gP, gM, gV5, vr, rP, rfl, by omega, by omega, by omega, ?_, ?_, ?_⟩
        · rcases hgv5 with h | h
          · exact .inl h
          · exact .inr (by omega)
        · exact hs5
        have h1 : Chg [p, gL, gN, gW] w w4 := HC4.out.sub (fun _ h => by cases h)
        have h2 := h1.then_ HCr.out (fun i hi hw => by
          simp only [List.mem_cons, List.not_mem_nil, or_false] at hi
          rcases hi with rfl | rfl <;> omega)
        exact h2.then_ hc5 (fun i hi hw => by
          simp only [RK.W, List.mem_cons, List.not_mem_nil, or_false] at hi ⊢
          rcases hi with h | h | h | h | h | h
          · exact .inl h
          · exact .inr (.inl h)
          · exact .inr (.inr (.inl h))
          · exact .inr (.inr (.inr h))
          · omega
          · omega))))
      clear hs5 hc5
      go_wp2_with fail
      go_ret2
      exact HP.out
end
end Go.Proofs.YtddjgncdjdjgeaaGreat
