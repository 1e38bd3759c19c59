/-
  PN: NestHalf, NestEnd, NestLoop.
-/
import Derived.Test.YtbkfhndmeljlcaaGreatDoorZPN16
import Derived.BigRegion
namespace Go.Proofs.YtbkfhndmeljlcaaGreatDoor
open Go.RowKit
section
variable {W : World} {gm gt B n : Nat} {m : NSt} {vo : Value}
set_option maxHeartbeats 2000000 in
set_option maxRecDepth 100000 in
theorem halve_none (h : Mt W gm gt B n m vo []) (i : Nat) : Calls Tryz.prog 140 #[.pointer (some ⟨gm, 0, none⟩), .int .i64 (i : Int)] W (BoolPost false W) := by
  go_enter Tryz.func140, Tryz.ntmps140
  go_wp2_with fail
  refine (inner_none h).mono ?_
  rintro e w1 ⟨rfl, hc1⟩
  have HC := Lib.hid (hc1.alloc (.cells #[.bool false, .int .i64 0, .int .i64 0, .slice none 0 0] 182))
  clear hc1 h
  go_wp2_with fail
  go_ret
  exact ⟨rfl, HC.out⟩
set_option maxHeartbeats 2000000 in
set_option maxRecDepth 100000 in
theorem halve_no {ys : List PV} {x : PV} (h : Mt W gm gt B n m vo (ys ++ [x])) (hn : x.p.loop = true ∨ x.p.waits ≠ x.p.at_) (i : Nat) : Calls Tryz.prog 140 #[.pointer (some ⟨gm, 0, none⟩), .int .i64 (i : Int)] W (BoolPost false W) := by
  have hin := inner_some h
  obtain ⟨⟨lp, at_, wt, lf⟩, vx⟩ := x
  obtain ⟨Av, cv, e, _⟩ := own_slice (h.left ⟨⟨lp, at_, wt, lf⟩, vx⟩ (by simp))
  simp only at e
  subst e
  simp only at hin hn
  clear h
  go_enter Tryz.func140, Tryz.ntmps140
  go_wp2_with fail
  refine hin.mono ?_
  rintro e w1 ⟨rfl, hc1⟩
  have HC := Lib.hid (hc1.alloc (.cells #[.bool lp, .int .i64 (at_ : Int), .int .i64 (wt : Int), .slice Av lf.length cv] 182))
  clear hc1 hin
  by_cases hl : lp = true
  · subst hl
    go_wp2_with fail
    go_ret
    exact ⟨rfl, HC.out⟩
  · obtain rfl : lp = false := by simpa using hl
    have hne : wt ≠ at_ := by simpa using hn
    have hd : ((wt : Int) != (at_ : Int)) = true := by simp; omega
    go_wp2_with fail
    go_ret
    exact ⟨rfl, HC.out⟩
def NextPost8 (gm gt B n : Nat) (m' : NSt) (W : World) (e : Ending) (w' : World) : Prop := e = .returned (.bool true) ∧ (∃ vo' xs', Mt w' gm gt B n m' vo' xs') ∧ Lo B [gm, gt] W w'
set_option maxHeartbeats 4000000 in
set_option maxRecDepth 100000 in
theorem halve_yes {ys : List PV} {x : PV} (h : Mt W gm gt B n m vo (ys ++ [x])) (hl : x.p.loop = false) (hw : x.p.waits = x.p.at_) (i : Nat) (hi : i < n) : Calls Tryz.prog 140 #[.pointer (some ⟨gm, 0, none⟩), .int .i64 (i : Int)] W
    (NextPost8 gm gt B n ⟨m.tO.set x.p.at_ ((i : Int) + 1), m.deep, ⟨x.p.loop, x.p.at_, i, x.p.left⟩ :: (ys.map (·.p)).reverse⟩ W) := by
  have hin := inner_some h
  obtain ⟨⟨lp, at_, wt, lf⟩, vx⟩ := x
  obtain ⟨Av, cv, e, _⟩ := own_slice (h.left ⟨⟨lp, at_, wt, lf⟩, vx⟩ (by simp))
  simp only at e hl hw
  have hw' := hw.symm
  subst e hl hw'
  simp only at hin
  have H := Lib.hid h
  clear h
  go_enter Tryz.func140, Tryz.ntmps140
  go_wp2_with fail
  refine hin.mono ?_
  rintro e w1 ⟨rfl, hc1⟩
  clear hin
  go_upto_region 2 with fail
  have hal : Chg [] w1 (w1.alloc (.cells #[.bool false, .int .i64 (at_ : Int), .int .i64 (at_ : Int), .slice Av lf.length cv] 182)) := (Chg.refl [] w1).alloc _
  have hN : Whole (w1.alloc (.cells #[.bool false, .int .i64 (at_ : Int), .int .i64 (at_ : Int), .slice Av lf.length cv] 182)) w1.heap.size 182 [.bool false, .int .i64 (at_ : Int), .int .i64 (at_ : Int), .slice Av lf.length cv] := Whole.new w1 182 [.bool false, .int .i64 (at_ : Int), .int .i64 (at_ : Int), .slice Av lf.length cv]
  obtain ⟨g5, hg5⟩ : ∃ g, g = w1.heap.size := ⟨_, rfl⟩
  rw [← hg5] at hN ⊢
  generalize w1.alloc (.cells #[.bool false, .int .i64 (at_ : Int), .int .i64 (at_ : Int), .slice Av lf.length cv] 182) = w2 at hal hN ⊢
  have HC2 := Lib.hid (hc1.new hal)
  have H2 := Lib.hid (H.out.keep HC2.out)
  have HN := Lib.hid hN
  have HG := Lib.hid (show gm < w1.heap.size ∧ gt < w1.heap.size from ⟨(H.out.rec_.keep hc1).lt, (H.out.to_.keep hc1).lt⟩)
  have HG5 := Lib.hid hg5
  clear hal hN hc1 hg5
  have hlo := H2.out.lo
  have hat := (H2.out.wf _ (List.mem_append_right _ (List.mem_singleton_self _))).1
  simp only at hat
  obtain ⟨b0, b1, b2⟩ := (show w2.cell? ⟨g5, 0, none⟩ = some (.bool false) ∧ w2.cell? ⟨g5, 1, none⟩ = some (.int .i64 (at_ : Int)) ∧ w2.cell? ⟨g5, 2, none⟩ = some (.int .i64 (at_ : Int)) from ⟨HN.out.cell 0, HN.out.cell 1, HN.out.cell 2⟩)
  have c0 := H2.out.rec_.cell 0
  have t0 : w2.cell? ⟨gt, at_, none⟩ = some (.int .i64 (m.tO[at_]'(by rw [H2.out.len]; exact hat))) := (H2.out.to_.cell at_).trans (nms_get _ _ (by rw [H2.out.len]; exact hat))
  have f0 := H2.out.to_.frozen at_
  have hat0 : (0 : Int) ≤ (at_ : Int) := by omega
  have hat1 : (at_ : Int) < (n : Int) := by omega
  have hbig := H2.out.big
  have hsum : IntKind.i64.wrap ((i : Int) + 1) = (i : Int) + 1 := IntWalk.i64_in _ (by omega)
  have hdn : ((at_ : Int) != (at_ : Int)) = false := by simp
  go_wp2_with fail
  go_region
  have H3 := Lib.hid ((H2.out.poke at_ ((i : Int) + 1)).keep (Chg.refl [] _).drew)
  have HL3 := Lib.hid (show Lo B [gm, gt] W (w2.setCell ⟨gt, at_, none⟩ (.int .i64 ((i : Int) + 1))).drew from Lo.of_chg ((HC2.out.sub (T' := [gt]) (by simp)).setCell (p := ⟨gt, at_, none⟩) (by simp) (.int .i64 ((i : Int) + 1))).drew (by simp))
  generalize (w2.setCell ⟨gt, at_, none⟩ (.int .i64 ((i : Int) + 1))).drew = w3 at H3 HL3 ⊢
  clear b0 b1 b2 c0 t0 f0 hsum hdn
  obtain ⟨A, c, rfl, hc1, hc2, _⟩ := rown_slice H3.out.own
  have hll : (ys ++ [(⟨⟨false, at_, at_, lf⟩, .slice Av lf.length cv⟩ : PV)]).length = ys.length + 1 := by simp
  have c2 := H3.out.rec_.cell 2
  obtain ⟨g, rfl, j2⟩ := rown_cell H3.out.own rfl ((pvCs_get _ ys.length _ 2 (by simp) (by omega)).trans (show (pvC ⟨⟨false, at_, at_, lf⟩, .slice Av lf.length cv⟩)[2]? = some (.int .i64 (at_ : Int)) from rfl))
  rw [hll] at c2
  have f2 : w3.frozen? ⟨g, ys.length * 4 + 2, none⟩ = false := rown_frozen H3.out.own
  have H4 := Lib.hid (H3.out.waits rfl i hi)
  have hfew := H3.out.few
  have HGB := Lib.hid (H3.out.own.lt g rfl).1
  rw [hll] at hfew
  obtain ⟨q, hq⟩ : ∃ q, q = ys.length := ⟨_, rfl⟩
  rw [← hq] at c2 j2 f2 hfew H4
  have hsub : IntKind.i64.wrap (((q + 1 : Nat) : Int) - 1) = (q : Int) := by rw [IntWalk.i64_in _ (by omega)]; omega
  have hq0 : (0 : Int) ≤ (q : Int) := by omega
  have hq1 : (q : Int) < ((q + 1 : Nat) : Int) := by omega
  clear hq hll H3
  go_wp2_with fail
  go_region
  have HL4 := Lib.hid (show Lo B [gm, gt] W (w3.setCell ⟨g, q * 4 + 2, none⟩ (.int .i64 (i : Int))).drew from HL3.out.trans (Lo.of_chg ((Chg.refl [g] w3).setCell (p := ⟨g, q * 4 + 2, none⟩) (by simp) _).drew (by have := HGB.out; simp; omega)))
  have H5 := Lib.hid (H4.out.keep (Chg.refl [] _).drew)
  generalize (w3.setCell ⟨g, q * 4 + 2, none⟩ (.int .i64 (i : Int))).drew = w4 at HL4 H5 ⊢
  clear c2 j2 f2 hsub
  go_wp2_with fail
  go_ret
  exact ⟨rfl, ⟨_, _, H5.out⟩, HL4.out⟩
end
end Go.Proofs.YtbkfhndmeljlcaaGreatDoor
namespace Go.Proofs.YtbkfhndmeljlcaaGreatDoor
open Go.RowKit
section
variable {W : World} {gm gt B n : Nat} {m : NSt} {vo : Value}
set_option maxHeartbeats 2000000 in
set_option maxRecDepth 100000 in
theorem endIf_none (h : Mt W gm gt B n m vo []) (i : Nat) : Calls Tryz.prog 141 #[.pointer (some ⟨gm, 0, none⟩), .int .i64 (i : Int)] W (BoolPost false W) := by
  go_enter Tryz.func141, Tryz.ntmps141
  go_wp2_with fail
  refine (inner_none h).mono ?_
  rintro e w1 ⟨rfl, hc1⟩
  have HC := Lib.hid (hc1.alloc (.cells #[.bool false, .int .i64 0, .int .i64 0, .slice none 0 0] 182))
  clear hc1 h
  go_wp2_with fail
  go_ret
  exact ⟨rfl, HC.out⟩
set_option maxHeartbeats 2000000 in
set_option maxRecDepth 100000 in
theorem endIf_no {ys : List PV} {x : PV} (h : Mt W gm gt B n m vo (ys ++ [x])) (hn : x.p.loop = true) (i : Nat) : Calls Tryz.prog 141 #[.pointer (some ⟨gm, 0, none⟩), .int .i64 (i : Int)] W (BoolPost false W) := by
  have hin := inner_some h
  obtain ⟨⟨lp, at_, wt, lf⟩, vx⟩ := x
  obtain ⟨Av, cv, e, _⟩ := own_slice (h.left ⟨⟨lp, at_, wt, lf⟩, vx⟩ (by simp))
  simp only at e
  subst e
  simp only at hin hn
  clear h
  subst hn
  go_enter Tryz.func141, Tryz.ntmps141
  go_wp2_with fail
  refine hin.mono ?_
  rintro e w1 ⟨rfl, hc1⟩
  have HC := Lib.hid (hc1.alloc (.cells #[.bool true, .int .i64 (at_ : Int), .int .i64 (wt : Int), .slice Av lf.length cv] 182))
  clear hc1 hin
  go_wp2_with fail
  go_ret
  exact ⟨rfl, HC.out⟩
set_option maxHeartbeats 4000000 in
set_option maxRecDepth 100000 in
theorem endIf_yes {ys : List PV} {x : PV} (h : Mt W gm gt B n m vo (ys ++ [x])) (hl : x.p.loop = false) (i : Nat) : Calls Tryz.prog 141 #[.pointer (some ⟨gm, 0, none⟩), .int .i64 (i : Int)] W
    (NextPost8 gm gt B n ⟨m.tO.set x.p.waits (i : Int), m.deep, (ys.map (·.p)).reverse⟩ W) := by
  have hin := inner_some h
  obtain ⟨⟨lp, at_, wt, lf⟩, vx⟩ := x
  obtain ⟨Av, cv, e, _⟩ := own_slice (h.left ⟨⟨lp, at_, wt, lf⟩, vx⟩ (by simp))
  simp only at e hl
  subst e hl
  simp only at hin
  have H := Lib.hid h
  clear h
  go_enter Tryz.func141, Tryz.ntmps141
  go_wp2_with fail
  refine hin.mono ?_
  rintro e w1 ⟨rfl, hc1⟩
  clear hin
  go_upto_region 2 with fail
  have hal : Chg [] w1 (w1.alloc (.cells #[.bool false, .int .i64 (at_ : Int), .int .i64 (wt : Int), .slice Av lf.length cv] 182)) := (Chg.refl [] w1).alloc _
  have hN : Whole (w1.alloc (.cells #[.bool false, .int .i64 (at_ : Int), .int .i64 (wt : Int), .slice Av lf.length cv] 182)) w1.heap.size 182 [.bool false, .int .i64 (at_ : Int), .int .i64 (wt : Int), .slice Av lf.length cv] := Whole.new w1 182 [.bool false, .int .i64 (at_ : Int), .int .i64 (wt : Int), .slice Av lf.length cv]
  obtain ⟨g5, hg5⟩ : ∃ g, g = w1.heap.size := ⟨_, rfl⟩
  rw [← hg5] at hN ⊢
  generalize w1.alloc (.cells #[.bool false, .int .i64 (at_ : Int), .int .i64 (wt : Int), .slice Av lf.length cv] 182) = w2 at hal hN ⊢
  have HC2 := Lib.hid (hc1.new hal)
  have H2 := Lib.hid (H.out.keep HC2.out)
  have HN := Lib.hid hN
  clear hal hN hc1 hg5
  have hwt := (H2.out.wf _ (List.mem_append_right _ (List.mem_singleton_self _))).2.1
  simp only at hwt
  obtain ⟨b0, b2⟩ := (show w2.cell? ⟨g5, 0, none⟩ = some (.bool false) ∧ w2.cell? ⟨g5, 2, none⟩ = some (.int .i64 (wt : Int)) from ⟨HN.out.cell 0, HN.out.cell 2⟩)
  have c0 := H2.out.rec_.cell 0
  have t0 : w2.cell? ⟨gt, wt, none⟩ = some (.int .i64 (m.tO[wt]'(by rw [H2.out.len]; exact hwt))) := (H2.out.to_.cell wt).trans (nms_get _ _ (by rw [H2.out.len]; exact hwt))
  have f0 := H2.out.to_.frozen wt
  have hat0 : (0 : Int) ≤ (wt : Int) := by omega
  have hat1 : (wt : Int) < (n : Int) := by omega
  have hbig := H2.out.big
  go_wp2_with fail
  go_region
  have H3 := Lib.hid ((H2.out.poke wt (i : Int)).keep (Chg.refl [] _).drew)
  have HL3 := Lib.hid (show Lo B [gm, gt] W (w2.setCell ⟨gt, wt, none⟩ (.int .i64 (i : Int))).drew from Lo.of_chg ((HC2.out.sub (T' := [gt]) (by simp)).setCell (p := ⟨gt, wt, none⟩) (by simp) (.int .i64 (i : Int))).drew (by simp))
  generalize (w2.setCell ⟨gt, wt, none⟩ (.int .i64 (i : Int))).drew = w3 at H3 HL3 ⊢
  clear b0 b2 c0 t0 f0
  obtain ⟨A, c, rfl, hc1, hc2, _⟩ := rown_slice H3.out.own
  have hll : (ys ++ [(⟨⟨false, at_, wt, lf⟩, .slice Av lf.length cv⟩ : PV)]).length = ys.length + 1 := by simp
  have c2 := H3.out.rec_.cell 2
  have f2 := H3.out.rec_.frozen 2
  rw [hll] at c2 hc1
  obtain ⟨g, rfl, _⟩ := rown_cell H3.out.own rfl ((pvCs_get _ ys.length _ 2 (by simp) (by omega)).trans (show (pvC ⟨⟨false, at_, wt, lf⟩, .slice Av lf.length cv⟩)[2]? = some (.int .i64 (wt : Int)) from rfl))
  have H4 := Lib.hid (H3.out.drop rfl)
  have hfew := H3.out.few
  rw [hll] at hfew
  obtain ⟨q, hq⟩ : ∃ q, q = ys.length := ⟨_, rfl⟩
  rw [← hq] at c2 hfew H4 hc1
  have hsub : IntKind.i64.wrap (((q + 1 : Nat) : Int) - 1) = (q : Int) := by rw [IntWalk.i64_in _ (by omega)]; omega
  have hq0 : (0 : Int) ≤ (q : Int) := by omega
  have hq1 : (q : Int) < ((q + 1 : Nat) : Int) := by omega
  have hq2 : (q : Int) ≤ (c : Int) := by omega
  have hqt : (q : Int).toNat = q := Int.toNat_natCast _
  clear hq hll H3
  go_wp2_with fail
  go_region
  have HL4 := Lib.hid (show Lo B [gm, gt] W (w3.setCell ⟨gm, 2, none⟩ (.slice (some ⟨g, 0, none⟩) q c)).drew from HL3.out.trans (Lo.of_chg ((Chg.refl [gm] w3).setCell (p := ⟨gm, 2, none⟩) (by simp) _).drew (by simp)))
  have H5 := Lib.hid (H4.out.keep (Chg.refl [] _).drew)
  generalize (w3.setCell ⟨gm, 2, none⟩ (.slice (some ⟨g, 0, none⟩) q c)).drew = w4 at HL4 H5 ⊢
  clear c2 f2 hsub
  go_wp2_with fail
  go_ret
  exact ⟨rfl, ⟨_, _, H5.out⟩, HL4.out⟩
end
end Go.Proofs.YtbkfhndmeljlcaaGreatDoor
namespace Go.Proofs.YtbkfhndmeljlcaaGreatDoor
open Go.RowKit
theorem setAll_snoc (v : Int) (j : Nat) : ∀ (l : List Nat) (t : List Int), setAll v (l ++ [j]) t = (setAll v l t).set j v
  | [], t => rfl
  | k :: l, t => by rw [List.cons_append, setAll, setAll_snoc v j l, setAll]
section
variable {W : World} {gm gt B n : Nat} {m : NSt} {vo : Value}
set_option maxHeartbeats 2000000 in
set_option maxRecDepth 100000 in
theorem endLoop_none (h : Mt W gm gt B n m vo []) (i : Nat) : Calls Tryz.prog 142 #[.pointer (some ⟨gm, 0, none⟩), .int .i64 (i : Int)] W (BoolPost false W) := by
  go_enter Tryz.func142, Tryz.ntmps142
  go_wp2_with fail
  refine (inner_none h).mono ?_
  rintro e w1 ⟨rfl, hc1⟩
  have HC := Lib.hid (hc1.alloc (.cells #[.bool false, .int .i64 0, .int .i64 0, .slice none 0 0] 182))
  clear hc1 h
  go_wp2_with fail
  go_ret
  exact ⟨rfl, HC.out⟩
set_option maxHeartbeats 2000000 in
set_option maxRecDepth 100000 in
theorem endLoop_no {ys : List PV} {x : PV} (h : Mt W gm gt B n m vo (ys ++ [x])) (hn : x.p.loop = false) (i : Nat) : Calls Tryz.prog 142 #[.pointer (some ⟨gm, 0, none⟩), .int .i64 (i : Int)] W (BoolPost false W) := by
  have hin := inner_some h
  obtain ⟨⟨lp, at_, wt, lf⟩, vx⟩ := x
  obtain ⟨Av, cv, e, _⟩ := own_slice (h.left ⟨⟨lp, at_, wt, lf⟩, vx⟩ (by simp))
  simp only at e
  subst e
  simp only at hin hn
  clear h
  subst hn
  go_enter Tryz.func142, Tryz.ntmps142
  go_wp2_with fail
  refine hin.mono ?_
  rintro e w1 ⟨rfl, hc1⟩
  have HC := Lib.hid (hc1.alloc (.cells #[.bool false, .int .i64 (at_ : Int), .int .i64 (wt : Int), .slice Av lf.length cv] 182))
  clear hc1 hin
  go_wp2_with fail
  go_ret
  exact ⟨rfl, HC.out⟩
set_option maxHeartbeats 4000000 in
set_option maxRecDepth 100000 in
theorem endLoop_yes {ys : List PV} {x : PV} (h : Mt W gm gt B n m vo (ys ++ [x])) (hl : x.p.loop = true) (i : Nat) (hi : i < n) : Calls Tryz.prog 142 #[.pointer (some ⟨gm, 0, none⟩), .int .i64 (i : Int)] W
    (NextPost8 gm gt B n ⟨setAll ((i : Int) + 1) x.p.left (m.tO.set i (x.p.at_ : Int)), m.deep, (ys.map (·.p)).reverse⟩ W) := by
  have hin := inner_some h
  obtain ⟨⟨lp, at_, wt, lf⟩, vx⟩ := x
  obtain ⟨Av, cv, e, _⟩ := own_slice (h.left ⟨⟨lp, at_, wt, lf⟩, vx⟩ (by simp))
  simp only at e hl
  subst e hl
  simp only at hin
  have H := Lib.hid h
  clear h
  go_enter Tryz.func142, Tryz.ntmps142
  go_wp2_with fail
  refine hin.mono ?_
  rintro e w1 ⟨rfl, hc1⟩
  clear hin
  go_upto_region 2 with fail
  have hal : Chg [] w1 (w1.alloc (.cells #[.bool true, .int .i64 (at_ : Int), .int .i64 (wt : Int), .slice Av lf.length cv] 182)) := (Chg.refl [] w1).alloc _
  have hN : Whole (w1.alloc (.cells #[.bool true, .int .i64 (at_ : Int), .int .i64 (wt : Int), .slice Av lf.length cv] 182)) w1.heap.size 182 [.bool true, .int .i64 (at_ : Int), .int .i64 (wt : Int), .slice Av lf.length cv] := Whole.new w1 182 [.bool true, .int .i64 (at_ : Int), .int .i64 (wt : Int), .slice Av lf.length cv]
  obtain ⟨g5, hg5⟩ : ∃ g, g = w1.heap.size := ⟨_, rfl⟩
  rw [← hg5] at hN ⊢
  generalize w1.alloc (.cells #[.bool true, .int .i64 (at_ : Int), .int .i64 (wt : Int), .slice Av lf.length cv] 182) = w2 at hal hN ⊢
  have HC2 := Lib.hid (hc1.new hal)
  have H2 := Lib.hid (H.out.keep HC2.out)
  have HN := Lib.hid hN
  have HG := Lib.hid (show gt < g5 by rw [hg5]; exact (H.out.to_.keep hc1).lt)
  clear hal hN hc1 hg5
  obtain ⟨b0, b1⟩ := (show w2.cell? ⟨g5, 0, none⟩ = some (.bool true) ∧ w2.cell? ⟨g5, 1, none⟩ = some (.int .i64 (at_ : Int)) from ⟨HN.out.cell 0, HN.out.cell 1⟩)
  have c0 := H2.out.rec_.cell 0
  have t0 : w2.cell? ⟨gt, i, none⟩ = some (.int .i64 (m.tO[i]'(by rw [H2.out.len]; exact hi))) := (H2.out.to_.cell i).trans (nms_get _ _ (by rw [H2.out.len]; exact hi))
  have f0 := H2.out.to_.frozen i
  have hat0 : (0 : Int) ≤ (i : Int) := by omega
  have hat1 : (i : Int) < (n : Int) := by omega
  have hbig := H2.out.big
  go_wp2_with fail
  go_region
  have H3 := Lib.hid ((H2.out.poke i (at_ : Int)).keep (Chg.refl [] _).drew)
  have HL3 := Lib.hid (show Lo B [gm, gt] W (w2.setCell ⟨gt, i, none⟩ (.int .i64 (at_ : Int))).drew from Lo.of_chg ((HC2.out.sub (T' := [gt]) (by simp)).setCell (p := ⟨gt, i, none⟩) (by simp) (.int .i64 (at_ : Int))).drew (by simp))
  have HN3 := Lib.hid (show Whole (w2.setCell ⟨gt, i, none⟩ (.int .i64 (at_ : Int))).drew g5 182 [.bool true, .int .i64 (at_ : Int), .int .i64 (wt : Int), .slice Av lf.length cv] from (HN.out.far (by have := HG.out; simp only; omega) _).drew)
  generalize (w2.setCell ⟨gt, i, none⟩ (.int .i64 (at_ : Int))).drew = w3 at H3 HL3 HN3 ⊢
  clear b0 b1 c0 t0 f0
  have b3 := HN3.out.cell 3
  have hsum : IntKind.i64.wrap ((i : Int) + 1) = (i : Int) + 1 := IntWalk.i64_in _ (by omega)
  obtain ⟨T, hT⟩ : ∃ T, T = m.tO.set i (at_ : Int) := ⟨_, rfl⟩
  rw [← hT] at H3
  have HTT := Lib.hid hT
  obtain ⟨N, hN⟩ : ∃ N, N = lf.length := ⟨_, rfl⟩
  have HLF := Lib.hid (H3.out.wf _ (List.mem_append_right _ (List.mem_singleton_self _))).2.2
  have hNb : N ≤ 100000 := by have := HLF.out.1; simp only at this; omega
  rw [← hN] at b3
  have HNN := Lib.hid hN
  clear hT hN
  go_wp2_with fail
  go_loopw [8, 32] (fun _ s wr => ∃ k : Nat, k ≤ N ∧ s = .int .i64 (k : Int) ∧ Hid (Mt wr gm gt B n ⟨setAll ((i : Int) + 1) (lf.take k) T, m.deep, m.op⟩ vo (ys ++ [⟨⟨true, at_, wt, lf⟩, .slice Av lf.length cv⟩])) ∧ Hid (Lo B [gm, gt] W wr)) (fun _ s _ => N - (intOf s).toNat)
  case atStart => exact ⟨0, Nat.zero_le _, rfl, H3, HL3⟩
  case round =>
    obtain ⟨k, hk, rfl, HM, HLr⟩ := hrel
    by_cases hlt : k < N
    · have hltI : (k : Int) < (N : Int) := by omega
      have hkl : k < lf.length := by rw [← HNN.out]; exact hlt
      obtain ⟨Av', cv', e, _, _, hs, hsp⟩ := own_slice (HM.out.left _ (List.mem_append_right _ (List.mem_singleton_self _)))
      simp only at e
      injection e with e1 _ e3
      subst e1 e3
      obtain ⟨⟨bA, oA, sA⟩, rfl, _, hx⟩ := hs (by rw [nts_len]; simp only; omega)
      obtain rfl : sA = none := (hsp _ rfl).1
      have hx1 := hx k (.int .i64 ((lf[k]'hkl : Nat) : Int)) (by simp [nts, hkl])
      rw [add_plain] at hx1
      have hj := HLF.out.2 lf[k] (List.getElem_mem hkl)
      have HTK := Lib.hid (show lf.take (k + 1) = lf.take k ++ [lf[k]] by rw [List.take_succ_eq_append_getElem hkl])
      generalize lf[k] = j at hx1 hj HTK
      have hj0 : (0 : Int) ≤ (j : Int) := by omega
      have hj1 : (j : Int) < (n : Int) := by omega
      have c0 := HM.out.rec_.cell 0
      obtain ⟨T2, hT2⟩ : ∃ T9, T9 = setAll ((i : Int) + 1) (lf.take k) T := ⟨_, rfl⟩
      have HM' := HM
      rw [← hT2] at HM'
      have t0 : wr.cell? ⟨gt, j, none⟩ = some (.int .i64 (T2[j]'(by rw [HM'.out.len]; exact hj))) := (HM'.out.to_.cell j).trans (nms_get _ _ (by rw [HM'.out.len]; exact hj))
      have f0 := HM'.out.to_.frozen j
      have HMz := Lib.hid (show Mt (wr.setCell ⟨gt, j, none⟩ (.int .i64 ((i : Int) + 1))) gm gt B n ⟨setAll ((i : Int) + 1) (lf.take (k + 1)) T, m.deep, m.op⟩ vo (ys ++ [⟨⟨true, at_, wt, lf⟩, .slice (some ⟨bA, oA, none⟩) lf.length cv⟩]) from by
        have h := HM'.out.poke j ((i : Int) + 1)
        rw [HTK.out, setAll_snoc, ← hT2]
        exact h)
      have HLz := Lib.hid (show Lo B [gm, gt] W (wr.setCell ⟨gt, j, none⟩ (.int .i64 ((i : Int) + 1))) from HLr.out.trans (Lo.of_chg ((Chg.refl [gt] wr).setCell (p := ⟨gt, j, none⟩) (by simp) _) (by simp)))
      clear hx hs hsp hT2
      go_wp2_with fail
      go_roundw
      case rel => exact ⟨k + 1, by omega, by go_num, HMz, HLz⟩
      case measure => simp [intOf]; omega
    · have hltI : ¬ (k : Int) < (N : Int) := by omega
      have H3' := HM
      rw [List.take_of_length_le (by rw [← HNN.out]; omega)] at H3'
      obtain ⟨T2, hT2⟩ : ∃ T2, T2 = setAll ((i : Int) + 1) lf T := ⟨_, rfl⟩
      rw [← hT2] at H3'
      have HT2 := Lib.hid hT2
      clear hT2
      obtain ⟨A, c, rfl, hc1, hc2, _⟩ := rown_slice H3'.out.own
      have hll : (ys ++ [(⟨⟨true, at_, wt, lf⟩, .slice Av lf.length cv⟩ : PV)]).length = ys.length + 1 := by simp
      have c2 := H3'.out.rec_.cell 2
      have f2 := H3'.out.rec_.frozen 2
      rw [hll] at c2 hc1
      obtain ⟨g, rfl, _⟩ := rown_cell H3'.out.own rfl ((pvCs_get _ ys.length _ 2 (by simp) (by omega)).trans (show (pvC ⟨⟨true, at_, wt, lf⟩, .slice Av lf.length cv⟩)[2]? = some (.int .i64 (wt : Int)) from rfl))
      have H4 := Lib.hid (H3'.out.drop rfl)
      have hfew := H3'.out.few
      rw [hll] at hfew
      obtain ⟨q, hq⟩ : ∃ q, q = ys.length := ⟨_, rfl⟩
      rw [← hq] at c2 hfew H4 hc1
      have hsub : IntKind.i64.wrap (((q + 1 : Nat) : Int) - 1) = (q : Int) := by rw [IntWalk.i64_in _ (by omega)]; omega
      have hq0 : (0 : Int) ≤ (q : Int) := by omega
      have hq1 : (q : Int) < ((q + 1 : Nat) : Int) := by omega
      have hq2 : (q : Int) ≤ (c : Int) := by omega
      have hqt : (q : Int).toNat = q := Int.toNat_natCast _
      clear hq hll
      go_wp2_with fail
      go_region
      have HL4 := Lib.hid (show Lo B [gm, gt] W (wr.setCell ⟨gm, 2, none⟩ (.slice (some ⟨g, 0, none⟩) q c)).drew from HLr.out.trans (Lo.of_chg ((Chg.refl [gm] wr).setCell (p := ⟨gm, 2, none⟩) (by simp) _).drew (by simp)))
      have H5 := Lib.hid (H4.out.keep (Chg.refl [] _).drew)
      generalize (wr.setCell ⟨gm, 2, none⟩ (.slice (some ⟨g, 0, none⟩) q c)).drew = w4 at HL4 H5 ⊢
      clear c2 f2 hsub
      go_wp2_with fail
      go_ret
      have h := H5.out
      rw [HT2.out, HTT.out] at h
      exact ⟨rfl, ⟨_, _, h⟩, HL4.out⟩
end
end Go.Proofs.YtbkfhndmeljlcaaGreatDoor
