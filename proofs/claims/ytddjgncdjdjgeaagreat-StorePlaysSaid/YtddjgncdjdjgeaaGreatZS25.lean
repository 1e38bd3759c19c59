/-
  S: Sto7.
-/
import Derived.Test.YtddjgncdjdjgeaaGreatZS20
import Derived.Test.YtddjgncdjdjgeaaGreatZS22
import Derived.Test.YtddjgncdjdjgeaaGreatZS23
import Derived.Test.YtddjgncdjdjgeaaGreatZS24
namespace Go.Proofs.YtddjgncdjdjgeaaGreat
open Go.RowKit
theorem applyL_key : ∀ (ls m : List ChV) (P : List (List UInt8)), ls.map keyC = m.map keyC → applyL P ls = applyL P m
  | [], [], _, _ => rfl
  | [], _ :: _, _, h => by simp at h
  | _ :: _, [], _, h => by simp at h
  | a :: ls, b :: m, P, h => by
    simp only [List.map_cons, List.cons.injEq] at h
    have e : applyC P a = applyC P b := by
      have h1 := h.1
      simp only [keyC, Prod.mk.injEq] at h1
      unfold applyC
      rw [h1.1, h1.2]
    show applyL (applyC P a) ls = applyL (applyC P b) m
    rw [e, applyL_key ls m _ h.2]
theorem nameL_key : ∀ (ls m : List ChV) (N : List Bool), ls.map keyC = m.map keyC → nameL N ls = nameL N m
  | [], [], _, _ => rfl
  | [], _ :: _, _, h => by simp at h
  | _ :: _, [], _, h => by simp at h
  | a :: ls, b :: m, N, h => by
    simp only [List.map_cons, List.cons.injEq] at h
    have h1 := h.1
    simp only [keyC, Prod.mk.injEq] at h1
    show nameL (N.set a.page.toNat true) ls = nameL (N.set b.page.toNat true) m
    rw [h1.1, nameL_key ls m _ h.2]
theorem turnV_key (x : SV) {ls m : List ChV} (h : ls.map keyC = m.map keyC) : turnV x ls = turnV x m := by
  unfold turnV
  rw [applyL_key ls m _ h, nameL_key ls m _ h]
/-- The store that lies at home. -/
def homeV (s : St) (o : RV) : SV := ⟨o.log, o.pages, o.epoch, pagesL s o.log o.pages, List.replicate o.pages false, 0, 0⟩
noncomputable def recT (s : St) (o : RV) : List (List ChV) := (recsS s o.log o.pages o.epoch).1
/-- .. and what the log has of it. -/
noncomputable def openV (s : St) (o : RV) : SV := (recT s o).foldl turnV (homeV s o)
theorem turn_same : ∀ (l : List (List ChV)) (x : SV), (l.foldl turnV x).L = x.L ∧ (l.foldl turnV x).P = x.P ∧ (l.foldl turnV x).E = x.E ∧ (l.foldl turnV x).used = x.used ∧ (l.foldl turnV x).seq = x.seq
  | [], _ => ⟨rfl, rfl, rfl, rfl, rfl⟩
  | m :: l, x => turn_same l (turnV x m)
theorem fold_next {α : Type} (f : SV → α → SV) (x : SV) (l : List α) (j : Nat) (a : α) (h : l[j]? = some a) : (l.take (j + 1)).foldl f x = f ((l.take j).foldl f x) a := by
  obtain ⟨hj, he⟩ := List.getElem?_eq_some_iff.1 h
  rw [List.take_succ_eq_append_getElem hj, List.foldl_append, he]; rfl
theorem recF_right (P : Int) : ∀ (rs : List (List UInt8)), ∀ m ∈ (recF P rs).1, rightB P m = true
  | [], m, h => by simp [recF] at h
  | b :: rs, m, h => by
    rw [recF] at h
    split at h
    · rename_i hok
      rcases List.mem_cons.1 h with rfl | h
      · exact hok.2.2
      · exact recF_right P rs m h
    · simp at h
theorem bestStep_right {n : Int} {o : RV} {l : List UInt8} (h : o.epoch = 0 ∨ rightR o.log o.pages o.epoch n = true) : (bestStep n o l).epoch = 0 ∨ rightR (bestStep n o l).log (bestStep n o l).pages (bestStep n o l).epoch n = true := by
  unfold bestStep
  split
  · rename_i hc
    exact .inr hc.2.1
  · exact h
theorem bestK_right (n : Nat) (S : List UInt8) : ∀ k, (bestK n S k).epoch = 0 ∨ rightR (bestK n S k).log (bestK n S k).pages (bestK n S k).epoch n = true
  | 0 => .inl rfl
  | k + 1 => bestStep_right (bestK_right n S k)
theorem own_blk {w : World} {B n k e : Nat} {v : Value} {xs : List Value} (h : w.ownsRow B e k v n xs) {A : Option Addr} {m c : Nat} (hv : v = .slice A m c) : ∀ ad, A = some ad → B ≤ ad.block := by
  intro ad e'
  subst hv e'
  rcases h.2 with ⟨hz, _⟩ | ⟨g, cap, cur, hz, hb, _⟩
  · injection hz with hz _ _; cases hz
  · injection hz with hz _ _
    injection hz with hz
    subst hz
    exact hb
theorem own_max {w : World} {B n k e : Nat} {v : Value} {xs : List Value} (h : w.ownsRow B e k v n xs) : n ≤ 9223372036854775807 := by
  rcases h.2 with ⟨rfl, rfl⟩ | ⟨g, cap, cur, rfl, hb, hg, hn, hc, hs, ht⟩
  · omega
  · unfold maxLen at hc; omega
def OpenPost (w : World) (p bL bS bW : Nat) (s : St) (e : Ending) (w' : World) : Prop :=
  ((bestK s.V.length s.S 2).epoch = 0 ∧ e = .returned (.tuple #[.pointer none, .int .i64 22]) ∧ Chg [] w w') ∨
  ((bestK s.V.length s.S 2).epoch = 4294967295 ∧ e = .returned (.tuple #[.pointer none, .int .i64 24]) ∧ Chg [] w w') ∨
  (0 < (bestK s.V.length s.S 2).epoch ∧ (bestK s.V.length s.S 2).epoch < 4294967295 ∧ ∃ g gN v, e = .returned (.tuple #[.pointer (some ⟨g, 0, none⟩), .int .i64 0]) ∧ w.heap.size ≤ g ∧ w.heap.size ≤ gN ∧
    Sto w' ⟨p, bL, bS, bW, g, gN, []⟩ (ckS s (openV s (bestK s.V.length s.S 2))) (ckV (openV s (bestK s.V.length s.S 2))) v ∧ Chg [bL, bS, bW] w w')
/-- Rows of a call's own are pages, away from a store. -/
theorem Pgs.of_rows {B n : Nat} {w : World} {v : Value} {vs : List Value} {ps : List (List UInt8)} {T : List Nat} (h : w.ownsRow B 30 1 v n vs) (hn : n = ps.length) (hr : Rows B w vs ps) (hT : ∀ i ∈ T, i < B ∨ (∃ t cs, Whole w i t cs ∧ t ≠ 30 ∧ t ≠ 5)) : Pgs T w v ps := by
  subst hn
  have key : ∀ {e k m : Nat} {u : Value} {xs : List Value} {ad : Addr} {A : Option Addr} {q c : Nat}, w.ownsRow B e k u m xs → u = .slice A q c → A = some ad → (e = 30 ∨ e = 5) → ad.block ∉ T := by
    intro e k m u xs ad A q c ho hu hA he hm
    rcases ho.2 with ⟨hz, _⟩ | ⟨g, cap, cur, hz, hb, hh, _⟩
    · rw [hu] at hz; injection hz with hz _ _; rw [hA] at hz; cases hz
    · rw [hu] at hz; injection hz with hz _ _; rw [hA] at hz; injection hz with hz; subst hz
      rcases hT _ hm with h1 | ⟨t, cs, hW, h1, h2⟩
      · have h1 : g < B := h1
        omega
      · have hh' : w.heap[g]? = _ := hW
        rw [hh'] at hh
        injection hh with hh
        injection hh with _ hh _
        rcases he with rfl | rfl
        · exact h1 hh
        · exact h2 hh
  obtain ⟨A, c, rfl, hl, hc, hs, hA⟩ := own_slice h
  refine ⟨A, c, vs, rfl, hc, hs, hl, fun ad e => ⟨(hA ad e).1, key h rfl e (.inl rfl)⟩, fun i u l hu hl => ?_⟩
  have ho := hr.2 i u l hu hl
  obtain ⟨A', c', e', hB, _⟩ := Bs.of_own ho
  exact ⟨A', l.length, c', e', hB, fun ad e => key ho e' e (.inr rfl)⟩
def namF (B n : Nat) : Fact := fun v W => ∃ g, v = .slice (some ⟨g, 0, none⟩) n n ∧ Whole W g 4 (bls (List.replicate n false)) ∧ B ≤ g
theorem keeps_nam (B n : Nat) : Keeps (Chg []) (namF B n) := fun _ _ _ ⟨g, e, hW, h⟩ hc => ⟨g, e, hW.keep hc, h⟩
def stoV (p : Nat) (o : RV) (vP : Value) (gN : Nat) : List Value := [.pointer (some ⟨p, 0, none⟩), .int .i64 (o.log : Int), .int .i64 (o.pages : Int), .int .u32 (o.epoch : Int), vP, .slice (some ⟨gN, 0, none⟩) o.pages o.pages, .int .i64 0, .int .u32 0]
def bldF (B p : Nat) (o : RV) (ls : List (List UInt8)) : Fact := fun v W => ∃ vP vs gN, v = .agg (stoV p o vP gN).toArray ∧ W.ownsRow B 30 1 vP ls.length vs ∧ Rows B W vs ls ∧ Whole W gN 4 (bls (List.replicate o.pages false)) ∧ B ≤ gN
theorem keeps_bld (B p : Nat) (o : RV) (ls : List (List UInt8)) : Keeps (Chg []) (bldF B p o ls) := fun _ _ _ ⟨vP, vs, gN, e, h1, h2, h3, h4⟩ hc => ⟨vP, vs, gN, e, own_keep h1 hc, h2.keep hc, h3.keep hc, h4⟩
def boxF (B p : Nat) (o : RV) (ls : List (List UInt8)) : Fact := fun v W => ∃ g vP vs gN, v = .pointer (some ⟨g, 0, none⟩) ∧ Whole W g 94 (stoV p o vP gN) ∧ B ≤ g ∧ W.ownsRow B 30 1 vP ls.length vs ∧ Rows B W vs ls ∧ Whole W gN 4 (bls (List.replicate o.pages false)) ∧ B ≤ gN
theorem keeps_box (B p : Nat) (o : RV) (ls : List (List UInt8)) : Keeps (Chg []) (boxF B p o ls) := fun _ _ _ ⟨g, vP, vs, gN, e, h0, hB, h1, h2, h3, h4⟩ hc => ⟨g, vP, vs, gN, e, h0.keep hc, hB, own_keep h1 hc, h2.keep hc, h3.keep hc, h4⟩
section
variable {w : World} {p bL bS bW : Nat} {s : St}
set_option maxHeartbeats 16000000 in
set_option maxRecDepth 100000 in
theorem open_any (h : DskS w p bL bS bW s) : Calls Tryz.prog 21 #[.pointer (some ⟨p, 0, none⟩)] w (OpenPost w p bL bS bW s) := by
  have H := Lib.hid h
  have hlt := bestK_lt s.V.length s.S 2
  have hrt := bestK_right s.V.length s.S 2
  have hbe := best_any h
  clear h
  obtain ⟨o, ho⟩ : ∃ o, o = bestK s.V.length s.S 2 := ⟨_, rfl⟩
  have HO := Lib.hid ho
  rw [← ho] at hlt hrt hbe
  have HLT := Lib.hid hlt
  have HRT := Lib.hid hrt
  have HBE := Lib.hid hbe
  clear ho hrt hbe
  go_enter Tryz.func21, Tryz.ntmps21
  go_wp2_with fail
  refine HBE.out.mono ?_
  rintro e w1 ⟨rfl, hc1⟩
  have HC1 := Lib.hid hc1
  unfold rootV
  clear hc1
  go_upto_region 4 with fail
  have hR := Whole.new w1 58 [.int .i64 (o.log : Int), .int .i64 (o.pages : Int), .int .u32 (o.epoch : Int)]
  have hal := (Chg.refl [] w1).alloc (.cells #[.int .i64 (o.log : Int), .int .i64 (o.pages : Int), .int .u32 (o.epoch : Int)] 58)
  have HC2 := Lib.hid (HC1.out.new hal)
  obtain ⟨gr, hgr⟩ : ∃ g, g = w1.heap.size := ⟨_, rfl⟩
  rw [← hgr] at hR ⊢
  generalize w1.alloc (.cells #[.int .i64 (o.log : Int), .int .i64 (o.pages : Int), .int .u32 (o.epoch : Int)] 58) = w2 at hR HC2 ⊢
  have HR2 := Lib.hid hR
  have r2 := hR.cell 2
  clear hR hal hgr
  by_cases h0 : o.epoch = 0
  · have q0 : decide (0 < o.epoch) = false := by simp [h0]
    have HP := Lib.hid (show OpenPost w p bL bS bW s (.returned (.tuple #[.pointer none, .int .i64 22])) w2 from .inl ⟨by rw [← HO.out]; exact h0, rfl, HC2.out⟩)
    clear h0 hlt
    go_wp2_with fail
    go_ret2
    exact HP.out
  have q0 : decide (0 < o.epoch) = true := by simp; omega
  by_cases hF : o.epoch = 4294967295
  · have q1 : ((o.epoch : Int) == 4294967295) = true := by simp [hF]
    have HP := Lib.hid (show OpenPost w p bL bS bW s (.returned (.tuple #[.pointer none, .int .i64 24])) w2 from .inr (.inl ⟨by rw [← HO.out]; exact hF, rfl, HC2.out⟩))
    clear h0 hlt hF
    go_wp2_with fail
    go_ret2
    exact HP.out
  have q1 : ((o.epoch : Int) == 4294967295) = false := by simp; omega
  have HE := Lib.hid (show 0 < o.epoch ∧ o.epoch < 4294967295 by omega)
  have hright : rightR (o.log : Int) (o.pages : Int) (o.epoch : Int) s.V.length = true := HRT.out.resolve_left h0
  have HRI := Lib.hid hright
  have hlp := rightR_true.1 hright
  have HLP := Lib.hid (show 1 ≤ o.log ∧ o.log ≤ 64 ∧ 1 ≤ o.pages ∧ o.pages ≤ 64 ∧ 2 + o.log + o.pages ≤ s.V.length by omega)
  clear h0 hF hlt hright hlp
  go_upto_region 8 with fail
  have HW2 := Lib.hid (Dsk.keep H.out HC2.out)
  have HAL := Lib.hid (show allL s o.log o.pages o.epoch = pagesL s o.log o.pages by unfold allL; rw [if_pos HRI.out, Int.toNat_natCast])
  clear r2 q0 q1
  have hC0 := (Chg.refl [] w2).drew
  refine wp_flow (by kernel_rfl) plainT plainT_ok (by kernel_rfl) ?_
  refine flow_move_out plainT_ok rfl rfl rfl ?_
  refine flow1h (r := rootV o.log o.pages o.epoch) plainT_ok rfl (.out rfl rfl) rfl (fun ev W he hW e1 => by have hx := HR2.out.keep (hC0.new hW); have r0 := hx.cell 0; have r1 := hx.cell 1; have r2 := hx.cell 2; clear hW hx; unfold rootV; go_simp) ?_
  refine flow_move_out plainT_ok rfl rfl rfl ?_
  refine flow1h (r := rootV o.log o.pages o.epoch) plainT_ok rfl (.out rfl rfl) rfl (fun ev W he hW e1 => by have hx := HR2.out.keep (hC0.new hW); have r0 := hx.cell 0; have r1 := hx.cell 1; have r2 := hx.cell 2; clear hW hx; unfold rootV; go_simp) ?_
  refine flow_calld (frmF w2.heap.size (pagesL s o.log o.pages)) (keeps_frm _ _) (.inr (keeps_frm _ _)) (by kernel_rfl) rfl (.cons (.inn rfl) (.cons (.inn rfl) .nil)) (fun W hW => (hall_any (Dsk.keep HW2.out (hC0.new hW)) o.log o.pages o.epoch).mono ?_) ?_
  · rintro e w' ⟨v, vs, rfl, ho, hrw, hc⟩
    rw [HAL.out] at ho hrw
    exact ⟨v, rfl, hc, vs, own_more ho (hC0.new hW).size, rows_more hrw (hC0.new hW).size⟩
  refine flow1 (r := .pointer (some ⟨gr, 1, none⟩)) plainT_ok rfl (.out rfl rfl) rfl (fun ev W he e1 => by go_simp) ?_
  refine flow1h (r := .int .i64 (o.pages : Int)) plainT_ok rfl (.inn rfl) rfl (fun ev W he hW e1 => by have r1 := (HR2.out.keep (hC0.new hW)).cell 1; clear hW; go_simp) ?_
  refine flow_op (namF w2.heap.size o.pages) (keeps_nam _ _) (.inr (keeps_nam _ _)) rfl (fun ev W he hW hfs => ?_) ?_
  · obtain ⟨f1, f2, _⟩ := hfs
    have e1 : ev (.tmp 29) = .int .i64 (o.pages : Int) := f1
    have hmk := make_bool o.pages (by have := HLP.out; omega) W
    have hr : (execOp ev ⟨some 30, .makeSlice 67 (.tmp 29) (.tmp 29), 67, "store.go:76", #[{ on := 6, ground := Ground.data }, { on := 6, ground := Ground.data }], none⟩).run Tryz.prog W = .ok (.value (.slice (some ⟨W.heap.size, 0, none⟩) o.pages o.pages)) (W.alloc (.cells (bls (falses o.pages)).toArray 4)) := by
      simp only [execOp, e1, Sem.run_bind, hmk]; rfl
    refine Eq.mpr (congrArg _ hr) ?_
    exact ⟨(Chg.refl [] W).alloc _, W.heap.size, rfl, Whole.new W _ _, (hC0.new hW).size⟩
  refine flow_op (bldF w2.heap.size p o (pagesL s o.log o.pages)) (keeps_bld _ _ _ _) (.inr (keeps_bld _ _ _ _)) rfl (fun ev W he hW hfs => ?_) ?_
  · obtain ⟨f1, f2, f3, f4, _⟩ := hfs
    have e1 : ev (.tmp 23) = .pointer (some ⟨p, 0, none⟩) := f1
    have e2 : ev (.tmp 24) = rootV o.log o.pages o.epoch := f2
    have f3' : frmF w2.heap.size (pagesL s o.log o.pages) (ev (.tmp 27)) W := f3
    have f4' : namF w2.heap.size o.pages (ev (.tmp 30)) W := f4
    obtain ⟨vs, ho, hrw⟩ := f3'
    obtain ⟨gN, e4, hN, hB⟩ := f4'
    have hr : (execOp ev ⟨some 31, .build 94 #[(0, .tmp 23), (1, .tmp 24), (2, .tmp 27), (3, .tmp 30)], 94, "store.go:76", #[{ on := 0, ground := Ground.data }, { on := 1, ground := Ground.data }, { on := 4, ground := Ground.data }, { on := 7, ground := Ground.data }], none⟩).run Tryz.prog W = .ok (.value (.agg (stoV p o (ev (.tmp 27)) gN).toArray)) W := by
      obtain ⟨A27, c27, e27, _⟩ := own_slice ho
      unfold rootV at e2
      unfold stoV
      go_simp
    refine Eq.mpr (congrArg _ hr) ?_
    exact ⟨Chg.refl [] W, ev (.tmp 27), vs, gN, rfl, ho, hrw, hN, hB⟩
  refine flow_op (boxF w2.heap.size p o (pagesL s o.log o.pages)) (keeps_box _ _ _ _) (.inr (keeps_box _ _ _ _)) rfl (fun ev W he hW hfs => ?_) ?_
  · obtain ⟨f1, _⟩ := hfs
    have f1' : bldF w2.heap.size p o (pagesL s o.log o.pages) (ev (.tmp 31)) W := f1
    obtain ⟨vP, vs, gN, e1, ho, hrw, hN, hB⟩ := f1'
    have hr : (execOp ev ⟨some 32, .box 94 (.tmp 31), 42, "store.go:76", #[{ on := 8, ground := Ground.data }], none⟩).run Tryz.prog W = .ok (.value (.pointer (some ⟨W.heap.size, 0, none⟩))) (W.alloc (.cells (stoV p o vP gN).toArray 94)) := by
      simp only [execOp, e1, Sem.run_bind, Instr.box, newVar, newRow, run_newObj_alloc, Sem.run_pure, Result.andThen_ok]
      rfl
    refine Eq.mpr (congrArg _ hr) ?_
    have hal := (Chg.refl [] W).alloc (.cells (stoV p o vP gN).toArray 94)
    exact ⟨hal, W.heap.size, vP, vs, gN, rfl, Whole.new W _ _, (hC0.new hW).size, own_keep ho hal, hrw.keep hal, hN.keep hal, hB⟩
  refine flow_assign plainT_ok rfl (keeps_box _ _ _ _) (.inr (keeps_box _ _ _ _)) rfl ?_
  intro vs8 W hW hF
  have h6 : boxF w2.heap.size p o (pagesL s o.log o.pages) (vs8 6) W := hF 6 _ rfl rfl
  have hcw := hC0.new hW
  obtain ⟨g, vP, us, gN, e6, hG, hgB, hO, hRW, hNM, hNB⟩ := h6
  simp only [putAll, Act.put, List.setIfInBounds_toArray, List.set_cons_zero, List.set_cons_succ]
  rw [e6]
  have HB2 := Lib.hid (show w.heap.size ≤ w2.heap.size from HC2.out.size)
  have HR3 := Lib.hid (HR2.out.keep hcw)
  have HC3 := Lib.hid (HC2.out.new hcw)
  have HW3 := Lib.hid (Dsk.keep HW2.out hcw)
  have HG3 := Lib.hid hG
  have HX3 := Lib.hid (And.intro hO (And.intro hRW hNM))
  have HGB := Lib.hid (And.intro hgB hNB)
  clear hF hW hcw hC0 e6 hG hgB hO hRW hNM hNB HR2 HC2 HW2
  obtain ⟨w3, hw3⟩ : ∃ w3 : World, w3 = W := ⟨_, rfl⟩
  rw [← hw3] at HR3 HC3 HW3 HG3 HX3 ⊢
  clear hw3
  have r0 := HR3.out.cell 0
  have r1 := HR3.out.cell 1
  have r2 := HR3.out.cell 2
  go_wp2_with fail
  refine (rec_any HW3.out o.log o.pages o.epoch).mono ?_
  rintro e w4 ⟨v4, vs4, rfl, ho4, hrc4, hc4⟩
  have HC4 := Lib.hid (HC3.out.new hc4)
  have HLT4 := Lib.hid (show g < w3.heap.size ∧ gN < w3.heap.size from ⟨HG3.out.lt, HX3.out.2.2.lt⟩)
  have HO4 := Lib.hid ho4
  have HRC := Lib.hid hrc4
  have hsto : Sto w4 ⟨p, bL, bS, bW, g, gN, []⟩ s (homeV s o) vP := by
    have hD4 := Dsk.keep HW3.out hc4
    have hG4 := HG3.out.keep hc4
    have hN4 := HX3.out.2.2.keep hc4
    have h64 : ∀ l ∈ pagesL s o.log o.pages, l.length = 64 := fun l hl => by
      obtain ⟨i, hi, rfl⟩ := List.mem_map.1 hl
      have := List.mem_range.1 hi
      have := HLP.out
      exact sectL_len (Dsk.lenS H.out) (by rw [Int.toNat_natCast]; omega)
    have hlt : ∀ b, b < w.heap.size → b < w2.heap.size := fun b hb => Nat.lt_of_lt_of_le hb HB2.out
    have hT : ∀ i ∈ (SK.D ⟨p, bL, bS, bW, g, gN, []⟩), i < w2.heap.size ∨ (∃ t cs, Whole w4 i t cs ∧ t ≠ 30 ∧ t ≠ 5) := fun i hi => by
      simp only [SK.D, List.mem_cons, List.not_mem_nil, or_false] at hi
      rcases hi with rfl | rfl | rfl | rfl | rfl | rfl
      · exact .inl (hlt _ (Dsk.rec_ H.out).lt)
      · exact .inl (hlt _ (Dsk.last H.out).lt)
      · exact .inl (hlt _ (Dsk.seen H.out).lt)
      · exact .inl (hlt _ (Dsk.wait H.out).lt)
      · exact .inr ⟨_, _, hG4, by decide, by decide⟩
      · exact .inr ⟨_, _, hN4, by decide, by decide⟩
    have hpg := Pgs.of_rows (T := SK.D ⟨p, bL, bS, bW, g, gN, []⟩) (own_keep HX3.out.1 hc4) rfl (HX3.out.2.1.keep hc4) hT
    exact { dsk := hD4, rec_ := hG4, pgs := hpg, nm := hN4, ng := by have := hlt _ (Dsk.wait H.out).lt; have := HGB.out.2; show gN ≠ bW; omega, rt := HRI.out, ep := by have := HE.out; show o.epoch < _; omega, pl := pagesL_len s o.log o.pages, nl := by show (List.replicate o.pages false).length = o.pages; simp, p64 := h64, us := Nat.zero_le _, sq := by show 0 * 18 ≤ 0; omega, exl := fun i hi => by cases hi }
  have HST := Lib.hid hsto
  obtain ⟨X, hX⟩ : ∃ X, X = recsS s o.log o.pages o.epoch := ⟨_, rfl⟩
  have HXE := Lib.hid hX
  rw [← hX] at HO4 HRC ⊢
  rw [← hX] at ho4
  obtain ⟨A4, c4, rfl, hl4, hcp4, hs4, hA4⟩ := own_slice ho4
  have HL4 := Lib.hid (And.intro hl4 hcp4)
  have hmx := own_max ho4
  obtain ⟨n, hn⟩ : ∃ n, n = X.1.length := ⟨_, rfl⟩
  have HN := Lib.hid hn
  rw [← hn] at HO4 hmx ⊢
  have HA4 := Lib.hid hA4
  clear hsto ho4 hrc4 hc4 hX hl4 hcp4 hs4 hA4 hn r0 r1 r2
  have HRR := Lib.hid (show ∀ m ∈ X.1, rightB (o.pages : Int) m = true by rw [HXE.out]; exact recF_right _ _)
  go_wp2_with fail
  go_loopw [41] (fun i wr => ∃ j : Nat, i = .int .i64 (j : Int) ∧ j ≤ n ∧ Hid (∃ v, Sto wr ⟨p, bL, bS, bW, g, gN, []⟩ s ((X.1.take j).foldl turnV (homeV s o)) v) ∧ Hid (Chg [g, gN] w4 wr)) (fun i _ => n - (intOf i).toNat)
  case atStart => exact ⟨0, rfl, Nat.zero_le _, Lib.hid ⟨vP, HST.out⟩, Lib.hid (Chg.refl _ _)⟩
  case round =>
    obtain ⟨j, rfl, hj, HSr, HCr⟩ := hrel
    by_cases hlt : j < n
    · have hjI : (j : Int) < (n : Int) := by omega
      have hj0 : (0 : Int) ≤ (j : Int) := by omega
      have hjX : j < X.1.length := by rw [← HN.out]; exact hlt
      have hjv : j < vs4.length := by rw [HL4.out.1]; exact hjX
      have hT3 : ∀ i ∈ [g, gN], i < w3.heap.size ∨ w4.heap.size ≤ i := fun i hi => by
        simp only [List.mem_cons, List.not_mem_nil, or_false] at hi
        have := HLT4.out
        rcases hi with rfl | rfl <;> omega
      obtain ⟨A', c', e', _, _, hsr, _⟩ := own_slice (rown_chg HO4.out HCr.out hT3)
      injection e' with e' _ e2
      subst e' e2
      obtain ⟨ad, rfl, _, hcell⟩ := hsr (by rw [HL4.out.1]; omega)
      obtain ⟨b7, o7, s7⟩ := ad
      obtain rfl : s7 = none := (HA4.out _ rfl).1
      have hc := hcell j vs4[j] (List.getElem?_eq_getElem hjv)
      obtain ⟨ls, g1, g2, g3, g4⟩ := HRC.out.2 j vs4[j] X.1[j] (List.getElem?_eq_getElem hjv) (List.getElem?_eq_getElem hjX)
      have HRB := Lib.hid (HRR.out X.1[j] (List.getElem_mem hjX))
      have HNX := Lib.hid (fold_next turnV (homeV s o) X.1 j X.1[j] (List.getElem?_eq_getElem hjX))
      have g1' := rown_chg g1 HCr.out hT3
      have g2' : ∀ a ∈ ls, RMade wr w3.heap.size a := fun a ha => (g2 a ha).chg HCr.out hT3
      generalize vs4[j] = vv at hc g1'
      generalize X.1[j] = mj at g1' g3 g4 HRB HNX
      obtain ⟨A5, c5, e5, hl5, hch5, _, _, _⟩ := chs_own' g1' (fun a ha => (g2' a ha).ok)
      have hb5 := own_blk g1' e5
      subst e5
      obtain ⟨d, hd⟩ : ∃ d, d = mj.length := ⟨_, rfl⟩
      have hrb : rightB (o.pages : Int) ls = true := by rw [asC_rightB g4]; exact HRB.out
      have hrs : rightS (-1) (o.pages : Int) ls = true := by unfold rightB at hrb; rw [Bool.and_eq_true] at hrb; exact hrb.2
      obtain ⟨hr1, hr2⟩ := rs_len hrs (by have := HLP.out; omega)
      have hd64 : d ≤ 64 := by have := HLP.out; omega
      obtain ⟨vr, hst⟩ := HSr.out
      have hxP : ((X.1.take j).foldl turnV (homeV s o)).P = o.pages := (turn_same _ _).2.1
      have hin : InP ((X.1.take j).foldl turnV (homeV s o)).P ls := fun a ha => by
        rw [hxP]
        exact ⟨by have := (hr2 a ha).1; omega, (hr2 a ha).2.1, (g2' a ha).bl⟩
      have HTU := Lib.hid (turn_any (d := c5) hst hch5 (hl5.trans hd.symm) (by omega) hin (fun _ ad e hm => by
        have h1 := hb5 ad e
        have h2 := HLT4.out
        simp only [List.mem_cons, List.not_mem_nil, or_false] at hm
        rcases hm with h | h <;> (rw [h] at h1; have h1' : w3.heap.size ≤ _ := h1; omega)))
      rw [← hd] at hc
      have HKV := Lib.hid (turnV_key ((X.1.take j).foldl turnV (homeV s o)) g4.1)
      rw [add_plain] at hc
      clear hcell hsr g1 g2 g3 g4 g1' g2' hb5 hl5 hch5 hd hrb hrs hr1 hr2 hd64 hst hxP hin hjX hjv hT3
      go_wp2_with fail
      refine HTU.out.mono ?_
      rintro e w5 ⟨rfl, ⟨v5, hs5⟩, hc5⟩
      have HS5 := Lib.hid (show ∃ v, Sto w5 ⟨p, bL, bS, bW, g, gN, []⟩ s ((X.1.take (j + 1)).foldl turnV (homeV s o)) v from ⟨v5, by rw [HNX.out, ← HKV.out]; exact hs5⟩)
      have HC5 := Lib.hid (HCr.out.trans hc5)
      clear hs5 hc5
      go_wp2_with fail
      go_roundw
      case rel => exact ⟨j + 1, by go_num, by omega, HS5, HC5⟩
      case measure => simp [intOf]; omega
    · obtain rfl : n = j := by omega
      have hjI : ¬ (n : Int) < (n : Int) := by omega
      obtain ⟨vr, hst⟩ := HSr.out
      have ht : (X.1.take n).foldl turnV (homeV s o) = openV s o := by rw [HN.out, List.take_length, HXE.out]; rfl
      rw [ht] at hst
      have hxE : (openV s o).E = o.epoch := (turn_same _ _).2.2.1
      have HCK := Lib.hid (checkpoint_any hst (by rw [hxE]; exact HE.out.2))
      clear hst ht hxE
      go_wp2_with fail
      refine HCK.out.mono ?_
      rintro e w5 ⟨rfl, ⟨v5, hs5⟩, hc5⟩
      have HP := Lib.hid (show OpenPost w p bL bS bW s (.returned (.tuple #[.pointer (some ⟨g, 0, none⟩), .int .i64 0])) w5 from .inr (.inr (by
        rw [← HO.out]
        have hg1 := HGB.out
        have hg2 := HB2.out
        refine ⟨HE.out.1, HE.out.2, g, gN, v5, rfl, by omega, by omega, hs5, ?_⟩
        have h1 : Chg [bL, bS, bW] w w4 := HC4.out.sub (fun _ h => by cases h)
        have h2 := h1.then_ HCr.out (fun i hi hw => by
          simp only [List.mem_cons, List.not_mem_nil, or_false] at hi
          rcases hi with rfl | rfl <;> omega)
        exact h2.then_ hc5 (fun i hi hw => by
          simp only [SK.W, List.mem_cons, List.not_mem_nil, or_false] at hi ⊢
          rcases hi with h | h | h | rfl | rfl
          · exact .inl h
          · exact .inr (.inl h)
          · exact .inr (.inr h)
          · omega
          · omega))))
      clear hs5 hc5
      go_wp2_with fail
      go_ret2
      exact HP.out
end
end Go.Proofs.YtddjgncdjdjgeaaGreat
