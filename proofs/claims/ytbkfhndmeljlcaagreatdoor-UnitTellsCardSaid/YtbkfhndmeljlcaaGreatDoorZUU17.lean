/-
  UU: NestHalf, NestEnd, NestLoop, NestLeave.
-/
import Derived.Test.YtbkfhndmeljlcaaGreatDoorZUU3
import Derived.Test.YtbkfhndmeljlcaaGreatDoorZUU9
import Derived.BigRegion
import Derived.Deep.RegionLaw
namespace Go.Proofs.YtbkfhndmeljlcaaGreatDoor
open Go.RowKit
section
variable {W : World} {gm gt B n : Nat} {m : NSt} {vo : Value}
set_option maxHeartbeats 2000000 in
set_option maxRecDepth 100000 in
theorem halve_none (h : Mt W gm gt B n m vo []) (i : Nat) : Calls Tryz.prog 140 #[.pointer (some ⟨gm, 0, none⟩), .int .i64 (i : Int)] W (BoolPost false W) := by
  go_enter Tryz.func140, Tryz.ntmps140
  go_wp2_with fail
  refine (inner_none h).mono ?_
  rintro e w1 ⟨rfl, hc1⟩
  have HC := Lib.hid (hc1.alloc (.cells #[.bool false, .int .i64 0, .int .i64 0, .slice none 0 0] 182))
  clear hc1 h
  go_wp2_with fail
  go_ret
  exact ⟨rfl, HC.out⟩
set_option maxHeartbeats 2000000 in
set_option maxRecDepth 100000 in
theorem halve_no {ys : List PV} {x : PV} (h : Mt W gm gt B n m vo (ys ++ [x])) (hn : x.p.loop = true ∨ x.p.waits ≠ x.p.at_) (i : Nat) : Calls Tryz.prog 140 #[.pointer (some ⟨gm, 0, none⟩), .int .i64 (i : Int)] W (BoolPost false W) := by
  have hin := inner_some h
  obtain ⟨⟨lp, at_, wt, lf⟩, vx⟩ := x
  obtain ⟨Av, cv, e, _⟩ := own_slice (h.left ⟨⟨lp, at_, wt, lf⟩, vx⟩ (by simp))
  simp only at e
  subst e
  simp only at hin hn
  clear h
  go_enter Tryz.func140, Tryz.ntmps140
  go_wp2_with fail
  refine hin.mono ?_
  rintro e w1 ⟨rfl, hc1⟩
  have HC := Lib.hid (hc1.alloc (.cells #[.bool lp, .int .i64 (at_ : Int), .int .i64 (wt : Int), .slice Av lf.length cv] 182))
  clear hc1 hin
  by_cases hl : lp = true
  · subst hl
    go_wp2_with fail
    go_ret
    exact ⟨rfl, HC.out⟩
  · obtain rfl : lp = false := by simpa using hl
    have hne : wt ≠ at_ := by simpa using hn
    have hd : ((wt : Int) != (at_ : Int)) = true := by simp; omega
    go_wp2_with fail
    go_ret
    exact ⟨rfl, HC.out⟩
def NextPost8 (gm gt B n : Nat) (m' : NSt) (W : World) (e : Ending) (w' : World) : Prop := e = .returned (.bool true) ∧ (∃ vo' xs', Mt w' gm gt B n m' vo' xs') ∧ Lo B [gm, gt] W w'
set_option maxHeartbeats 4000000 in
set_option maxRecDepth 100000 in
theorem halve_yes {ys : List PV} {x : PV} (h : Mt W gm gt B n m vo (ys ++ [x])) (hl : x.p.loop = false) (hw : x.p.waits = x.p.at_) (i : Nat) (hi : i < n) : Calls Tryz.prog 140 #[.pointer (some ⟨gm, 0, none⟩), .int .i64 (i : Int)] W
    (NextPost8 gm gt B n ⟨m.tO.set x.p.at_ ((i : Int) + 1), m.deep, ⟨x.p.loop, x.p.at_, i, x.p.left⟩ :: (ys.map (·.p)).reverse⟩ W) := by
  have hin := inner_some h
  obtain ⟨⟨lp, at_, wt, lf⟩, vx⟩ := x
  obtain ⟨Av, cv, e, _⟩ := own_slice (h.left ⟨⟨lp, at_, wt, lf⟩, vx⟩ (by simp))
  simp only at e hl hw
  have hw' := hw.symm
  subst e hl hw'
  simp only at hin
  have H := Lib.hid h
  clear h
  go_enter Tryz.func140, Tryz.ntmps140
  go_wp2_with fail
  refine hin.mono ?_
  rintro e w1 ⟨rfl, hc1⟩
  clear hin
  go_upto_region 2 with fail
  have hal : Chg [] w1 (w1.alloc (.cells #[.bool false, .int .i64 (at_ : Int), .int .i64 (at_ : Int), .slice Av lf.length cv] 182)) := (Chg.refl [] w1).alloc _
  have hN : Whole (w1.alloc (.cells #[.bool false, .int .i64 (at_ : Int), .int .i64 (at_ : Int), .slice Av lf.length cv] 182)) w1.heap.size 182 [.bool false, .int .i64 (at_ : Int), .int .i64 (at_ : Int), .slice Av lf.length cv] := Whole.new w1 182 [.bool false, .int .i64 (at_ : Int), .int .i64 (at_ : Int), .slice Av lf.length cv]
  obtain ⟨g5, hg5⟩ : ∃ g, g = w1.heap.size := ⟨_, rfl⟩
  rw [← hg5] at hN ⊢
  generalize w1.alloc (.cells #[.bool false, .int .i64 (at_ : Int), .int .i64 (at_ : Int), .slice Av lf.length cv] 182) = w2 at hal hN ⊢
  have HC2 := Lib.hid (hc1.new hal)
  have H2 := Lib.hid (H.out.keep HC2.out)
  have HN := Lib.hid hN
  have HG := Lib.hid (show gm < w1.heap.size ∧ gt < w1.heap.size from ⟨(H.out.rec_.keep hc1).lt, (H.out.to_.keep hc1).lt⟩)
  have HG5 := Lib.hid hg5
  clear hal hN hc1 hg5
  have hlo := H2.out.lo
  have hat := (H2.out.wf _ (List.mem_append_right _ (List.mem_singleton_self _))).1
  simp only at hat
  obtain ⟨b0, b1, b2⟩ := (show w2.cell? ⟨g5, 0, none⟩ = some (.bool false) ∧ w2.cell? ⟨g5, 1, none⟩ = some (.int .i64 (at_ : Int)) ∧ w2.cell? ⟨g5, 2, none⟩ = some (.int .i64 (at_ : Int)) from ⟨HN.out.cell 0, HN.out.cell 1, HN.out.cell 2⟩)
  have c0 := H2.out.rec_.cell 0
  have t0 : w2.cell? ⟨gt, at_, none⟩ = some (.int .i64 (m.tO[at_]'(by rw [H2.out.len]; exact hat))) := (H2.out.to_.cell at_).trans (nms_get _ _ (by rw [H2.out.len]; exact hat))
  have f0 := H2.out.to_.frozen at_
  have hat0 : (0 : Int) ≤ (at_ : Int) := by omega
  have hat1 : (at_ : Int) < (n : Int) := by omega
  have hbig := H2.out.big
  have hsum : IntKind.i64.wrap ((i : Int) + 1) = (i : Int) + 1 := IntWalk.i64_in _ (by omega)
  have hdn : ((at_ : Int) != (at_ : Int)) = false := by simp
  go_wp2_with fail
  go_region
  have H3 := Lib.hid ((H2.out.poke at_ ((i : Int) + 1)).keep (Chg.refl [] _).drew)
  have HL3 := Lib.hid (show Lo B [gm, gt] W (w2.setCell ⟨gt, at_, none⟩ (.int .i64 ((i : Int) + 1))).drew from Lo.of_chg ((HC2.out.sub (T' := [gt]) (by simp)).setCell (p := ⟨gt, at_, none⟩) (by simp) (.int .i64 ((i : Int) + 1))).drew (by simp))
  generalize (w2.setCell ⟨gt, at_, none⟩ (.int .i64 ((i : Int) + 1))).drew = w3 at H3 HL3 ⊢
  clear b0 b1 b2 c0 t0 f0 hsum hdn
  obtain ⟨A, c, rfl, hc1, hc2, _⟩ := rown_slice H3.out.own
  have hll : (ys ++ [(⟨⟨false, at_, at_, lf⟩, .slice Av lf.length cv⟩ : PV)]).length = ys.length + 1 := by simp
  have c2 := H3.out.rec_.cell 2
  obtain ⟨g, rfl, j2⟩ := rown_cell H3.out.own rfl ((pvCs_get _ ys.length _ 2 (by simp) (by omega)).trans (show (pvC ⟨⟨false, at_, at_, lf⟩, .slice Av lf.length cv⟩)[2]? = some (.int .i64 (at_ : Int)) from rfl))
  rw [hll] at c2
  have f2 : w3.frozen? ⟨g, ys.length * 4 + 2, none⟩ = false := rown_frozen H3.out.own
  have H4 := Lib.hid (H3.out.waits rfl i hi)
  have hfew := H3.out.few
  have HGB := Lib.hid (H3.out.own.lt g rfl).1
  rw [hll] at hfew
  obtain ⟨q, hq⟩ : ∃ q, q = ys.length := ⟨_, rfl⟩
  rw [← hq] at c2 j2 f2 hfew H4
  have hsub : IntKind.i64.wrap (((q + 1 : Nat) : Int) - 1) = (q : Int) := by rw [IntWalk.i64_in _ (by omega)]; omega
  have hq0 : (0 : Int) ≤ (q : Int) := by omega
  have hq1 : (q : Int) < ((q + 1 : Nat) : Int) := by omega
  clear hq hll H3
  go_wp2_with fail
  go_region
  have HL4 := Lib.hid (show Lo B [gm, gt] W (w3.setCell ⟨g, q * 4 + 2, none⟩ (.int .i64 (i : Int))).drew from HL3.out.trans (Lo.of_chg ((Chg.refl [g] w3).setCell (p := ⟨g, q * 4 + 2, none⟩) (by simp) _).drew (by have := HGB.out; simp; omega)))
  have H5 := Lib.hid (H4.out.keep (Chg.refl [] _).drew)
  generalize (w3.setCell ⟨g, q * 4 + 2, none⟩ (.int .i64 (i : Int))).drew = w4 at HL4 H5 ⊢
  clear c2 j2 f2 hsub
  go_wp2_with fail
  go_ret
  exact ⟨rfl, ⟨_, _, H5.out⟩, HL4.out⟩
end
end Go.Proofs.YtbkfhndmeljlcaaGreatDoor
namespace Go.Proofs.YtbkfhndmeljlcaaGreatDoor
open Go.RowKit
section
variable {W : World} {gm gt B n : Nat} {m : NSt} {vo : Value}
set_option maxHeartbeats 2000000 in
set_option maxRecDepth 100000 in
theorem endIf_none (h : Mt W gm gt B n m vo []) (i : Nat) : Calls Tryz.prog 141 #[.pointer (some ⟨gm, 0, none⟩), .int .i64 (i : Int)] W (BoolPost false W) := by
  go_enter Tryz.func141, Tryz.ntmps141
  go_wp2_with fail
  refine (inner_none h).mono ?_
  rintro e w1 ⟨rfl, hc1⟩
  have HC := Lib.hid (hc1.alloc (.cells #[.bool false, .int .i64 0, .int .i64 0, .slice none 0 0] 182))
  clear hc1 h
  go_wp2_with fail
  go_ret
  exact ⟨rfl, HC.out⟩
set_option maxHeartbeats 2000000 in
set_option maxRecDepth 100000 in
theorem endIf_no {ys : List PV} {x : PV} (h : Mt W gm gt B n m vo (ys ++ [x])) (hn : x.p.loop = true) (i : Nat) : Calls Tryz.prog 141 #[.pointer (some ⟨gm, 0, none⟩), .int .i64 (i : Int)] W (BoolPost false W) := by
  have hin := inner_some h
  obtain ⟨⟨lp, at_, wt, lf⟩, vx⟩ := x
  obtain ⟨Av, cv, e, _⟩ := own_slice (h.left ⟨⟨lp, at_, wt, lf⟩, vx⟩ (by simp))
  simp only at e
  subst e
  simp only at hin hn
  clear h
  subst hn
  go_enter Tryz.func141, Tryz.ntmps141
  go_wp2_with fail
  refine hin.mono ?_
  rintro e w1 ⟨rfl, hc1⟩
  have HC := Lib.hid (hc1.alloc (.cells #[.bool true, .int .i64 (at_ : Int), .int .i64 (wt : Int), .slice Av lf.length cv] 182))
  clear hc1 hin
  go_wp2_with fail
  go_ret
  exact ⟨rfl, HC.out⟩
set_option maxHeartbeats 4000000 in
set_option maxRecDepth 100000 in
theorem endIf_yes {ys : List PV} {x : PV} (h : Mt W gm gt B n m vo (ys ++ [x])) (hl : x.p.loop = false) (i : Nat) : Calls Tryz.prog 141 #[.pointer (some ⟨gm, 0, none⟩), .int .i64 (i : Int)] W
    (NextPost8 gm gt B n ⟨m.tO.set x.p.waits (i : Int), m.deep, (ys.map (·.p)).reverse⟩ W) := by
  have hin := inner_some h
  obtain ⟨⟨lp, at_, wt, lf⟩, vx⟩ := x
  obtain ⟨Av, cv, e, _⟩ := own_slice (h.left ⟨⟨lp, at_, wt, lf⟩, vx⟩ (by simp))
  simp only at e hl
  subst e hl
  simp only at hin
  have H := Lib.hid h
  clear h
  go_enter Tryz.func141, Tryz.ntmps141
  go_wp2_with fail
  refine hin.mono ?_
  rintro e w1 ⟨rfl, hc1⟩
  clear hin
  go_upto_region 2 with fail
  have hal : Chg [] w1 (w1.alloc (.cells #[.bool false, .int .i64 (at_ : Int), .int .i64 (wt : Int), .slice Av lf.length cv] 182)) := (Chg.refl [] w1).alloc _
  have hN : Whole (w1.alloc (.cells #[.bool false, .int .i64 (at_ : Int), .int .i64 (wt : Int), .slice Av lf.length cv] 182)) w1.heap.size 182 [.bool false, .int .i64 (at_ : Int), .int .i64 (wt : Int), .slice Av lf.length cv] := Whole.new w1 182 [.bool false, .int .i64 (at_ : Int), .int .i64 (wt : Int), .slice Av lf.length cv]
  obtain ⟨g5, hg5⟩ : ∃ g, g = w1.heap.size := ⟨_, rfl⟩
  rw [← hg5] at hN ⊢
  generalize w1.alloc (.cells #[.bool false, .int .i64 (at_ : Int), .int .i64 (wt : Int), .slice Av lf.length cv] 182) = w2 at hal hN ⊢
  have HC2 := Lib.hid (hc1.new hal)
  have H2 := Lib.hid (H.out.keep HC2.out)
  have HN := Lib.hid hN
  clear hal hN hc1 hg5
  have hwt := (H2.out.wf _ (List.mem_append_right _ (List.mem_singleton_self _))).2.1
  simp only at hwt
  obtain ⟨b0, b2⟩ := (show w2.cell? ⟨g5, 0, none⟩ = some (.bool false) ∧ w2.cell? ⟨g5, 2, none⟩ = some (.int .i64 (wt : Int)) from ⟨HN.out.cell 0, HN.out.cell 2⟩)
  have c0 := H2.out.rec_.cell 0
  have t0 : w2.cell? ⟨gt, wt, none⟩ = some (.int .i64 (m.tO[wt]'(by rw [H2.out.len]; exact hwt))) := (H2.out.to_.cell wt).trans (nms_get _ _ (by rw [H2.out.len]; exact hwt))
  have f0 := H2.out.to_.frozen wt
  have hat0 : (0 : Int) ≤ (wt : Int) := by omega
  have hat1 : (wt : Int) < (n : Int) := by omega
  have hbig := H2.out.big
  go_wp2_with fail
  go_region
  have H3 := Lib.hid ((H2.out.poke wt (i : Int)).keep (Chg.refl [] _).drew)
  have HL3 := Lib.hid (show Lo B [gm, gt] W (w2.setCell ⟨gt, wt, none⟩ (.int .i64 (i : Int))).drew from Lo.of_chg ((HC2.out.sub (T' := [gt]) (by simp)).setCell (p := ⟨gt, wt, none⟩) (by simp) (.int .i64 (i : Int))).drew (by simp))
  generalize (w2.setCell ⟨gt, wt, none⟩ (.int .i64 (i : Int))).drew = w3 at H3 HL3 ⊢
  clear b0 b2 c0 t0 f0
  obtain ⟨A, c, rfl, hc1, hc2, _⟩ := rown_slice H3.out.own
  have hll : (ys ++ [(⟨⟨false, at_, wt, lf⟩, .slice Av lf.length cv⟩ : PV)]).length = ys.length + 1 := by simp
  have c2 := H3.out.rec_.cell 2
  have f2 := H3.out.rec_.frozen 2
  rw [hll] at c2 hc1
  obtain ⟨g, rfl, _⟩ := rown_cell H3.out.own rfl ((pvCs_get _ ys.length _ 2 (by simp) (by omega)).trans (show (pvC ⟨⟨false, at_, wt, lf⟩, .slice Av lf.length cv⟩)[2]? = some (.int .i64 (wt : Int)) from rfl))
  have H4 := Lib.hid (H3.out.drop rfl)
  have hfew := H3.out.few
  rw [hll] at hfew
  obtain ⟨q, hq⟩ : ∃ q, q = ys.length := ⟨_, rfl⟩
  rw [← hq] at c2 hfew H4 hc1
  have hsub : IntKind.i64.wrap (((q + 1 : Nat) : Int) - 1) = (q : Int) := by rw [IntWalk.i64_in _ (by omega)]; omega
  have hq0 : (0 : Int) ≤ (q : Int) := by omega
  have hq1 : (q : Int) < ((q + 1 : Nat) : Int) := by omega
  have hq2 : (q : Int) ≤ (c : Int) := by omega
  have hqt : (q : Int).toNat = q := Int.toNat_natCast _
  clear hq hll H3
  go_wp2_with fail
  go_region
  have HL4 := Lib.hid (show Lo B [gm, gt] W (w3.setCell ⟨gm, 2, none⟩ (.slice (some ⟨g, 0, none⟩) q c)).drew from HL3.out.trans (Lo.of_chg ((Chg.refl [gm] w3).setCell (p := ⟨gm, 2, none⟩) (by simp) _).drew (by simp)))
  have H5 := Lib.hid (H4.out.keep (Chg.refl [] _).drew)
  generalize (w3.setCell ⟨gm, 2, none⟩ (.slice (some ⟨g, 0, none⟩) q c)).drew = w4 at HL4 H5 ⊢
  clear c2 f2 hsub
  go_wp2_with fail
  go_ret
  exact ⟨rfl, ⟨_, _, H5.out⟩, HL4.out⟩
end
end Go.Proofs.YtbkfhndmeljlcaaGreatDoor
namespace Go.Proofs.YtbkfhndmeljlcaaGreatDoor
open Go.RowKit
theorem setAll_snoc (v : Int) (j : Nat) : ∀ (l : List Nat) (t : List Int), setAll v (l ++ [j]) t = (setAll v l t).set j v
  | [], t => rfl
  | k :: l, t => by rw [List.cons_append, setAll, setAll_snoc v j l, setAll]
section
variable {W : World} {gm gt B n : Nat} {m : NSt} {vo : Value}
set_option maxHeartbeats 2000000 in
set_option maxRecDepth 100000 in
theorem endLoop_none (h : Mt W gm gt B n m vo []) (i : Nat) : Calls Tryz.prog 142 #[.pointer (some ⟨gm, 0, none⟩), .int .i64 (i : Int)] W (BoolPost false W) := by
  go_enter Tryz.func142, Tryz.ntmps142
  go_wp2_with fail
  refine (inner_none h).mono ?_
  rintro e w1 ⟨rfl, hc1⟩
  have HC := Lib.hid (hc1.alloc (.cells #[.bool false, .int .i64 0, .int .i64 0, .slice none 0 0] 182))
  clear hc1 h
  go_wp2_with fail
  go_ret
  exact ⟨rfl, HC.out⟩
set_option maxHeartbeats 2000000 in
set_option maxRecDepth 100000 in
theorem endLoop_no {ys : List PV} {x : PV} (h : Mt W gm gt B n m vo (ys ++ [x])) (hn : x.p.loop = false) (i : Nat) : Calls Tryz.prog 142 #[.pointer (some ⟨gm, 0, none⟩), .int .i64 (i : Int)] W (BoolPost false W) := by
  have hin := inner_some h
  obtain ⟨⟨lp, at_, wt, lf⟩, vx⟩ := x
  obtain ⟨Av, cv, e, _⟩ := own_slice (h.left ⟨⟨lp, at_, wt, lf⟩, vx⟩ (by simp))
  simp only at e
  subst e
  simp only at hin hn
  clear h
  subst hn
  go_enter Tryz.func142, Tryz.ntmps142
  go_wp2_with fail
  refine hin.mono ?_
  rintro e w1 ⟨rfl, hc1⟩
  have HC := Lib.hid (hc1.alloc (.cells #[.bool false, .int .i64 (at_ : Int), .int .i64 (wt : Int), .slice Av lf.length cv] 182))
  clear hc1 hin
  go_wp2_with fail
  go_ret
  exact ⟨rfl, HC.out⟩
set_option maxHeartbeats 4000000 in
set_option maxRecDepth 100000 in
theorem endLoop_yes {ys : List PV} {x : PV} (h : Mt W gm gt B n m vo (ys ++ [x])) (hl : x.p.loop = true) (i : Nat) (hi : i < n) : Calls Tryz.prog 142 #[.pointer (some ⟨gm, 0, none⟩), .int .i64 (i : Int)] W
    (NextPost8 gm gt B n ⟨setAll ((i : Int) + 1) x.p.left (m.tO.set i (x.p.at_ : Int)), m.deep, (ys.map (·.p)).reverse⟩ W) := by
  have hin := inner_some h
  obtain ⟨⟨lp, at_, wt, lf⟩, vx⟩ := x
  obtain ⟨Av, cv, e, _⟩ := own_slice (h.left ⟨⟨lp, at_, wt, lf⟩, vx⟩ (by simp))
  simp only at e hl
  subst e hl
  simp only at hin
  have H := Lib.hid h
  clear h
  go_enter Tryz.func142, Tryz.ntmps142
  go_wp2_with fail
  refine hin.mono ?_
  rintro e w1 ⟨rfl, hc1⟩
  clear hin
  go_upto_region 2 with fail
  have hal : Chg [] w1 (w1.alloc (.cells #[.bool true, .int .i64 (at_ : Int), .int .i64 (wt : Int), .slice Av lf.length cv] 182)) := (Chg.refl [] w1).alloc _
  have hN : Whole (w1.alloc (.cells #[.bool true, .int .i64 (at_ : Int), .int .i64 (wt : Int), .slice Av lf.length cv] 182)) w1.heap.size 182 [.bool true, .int .i64 (at_ : Int), .int .i64 (wt : Int), .slice Av lf.length cv] := Whole.new w1 182 [.bool true, .int .i64 (at_ : Int), .int .i64 (wt : Int), .slice Av lf.length cv]
  obtain ⟨g5, hg5⟩ : ∃ g, g = w1.heap.size := ⟨_, rfl⟩
  rw [← hg5] at hN ⊢
  generalize w1.alloc (.cells #[.bool true, .int .i64 (at_ : Int), .int .i64 (wt : Int), .slice Av lf.length cv] 182) = w2 at hal hN ⊢
  have HC2 := Lib.hid (hc1.new hal)
  have H2 := Lib.hid (H.out.keep HC2.out)
  have HN := Lib.hid hN
  have HG := Lib.hid (show gt < g5 by rw [hg5]; exact (H.out.to_.keep hc1).lt)
  clear hal hN hc1 hg5
  obtain ⟨b0, b1⟩ := (show w2.cell? ⟨g5, 0, none⟩ = some (.bool true) ∧ w2.cell? ⟨g5, 1, none⟩ = some (.int .i64 (at_ : Int)) from ⟨HN.out.cell 0, HN.out.cell 1⟩)
  have c0 := H2.out.rec_.cell 0
  have t0 : w2.cell? ⟨gt, i, none⟩ = some (.int .i64 (m.tO[i]'(by rw [H2.out.len]; exact hi))) := (H2.out.to_.cell i).trans (nms_get _ _ (by rw [H2.out.len]; exact hi))
  have f0 := H2.out.to_.frozen i
  have hat0 : (0 : Int) ≤ (i : Int) := by omega
  have hat1 : (i : Int) < (n : Int) := by omega
  have hbig := H2.out.big
  go_wp2_with fail
  go_region
  have H3 := Lib.hid ((H2.out.poke i (at_ : Int)).keep (Chg.refl [] _).drew)
  have HL3 := Lib.hid (show Lo B [gm, gt] W (w2.setCell ⟨gt, i, none⟩ (.int .i64 (at_ : Int))).drew from Lo.of_chg ((HC2.out.sub (T' := [gt]) (by simp)).setCell (p := ⟨gt, i, none⟩) (by simp) (.int .i64 (at_ : Int))).drew (by simp))
  have HN3 := Lib.hid (show Whole (w2.setCell ⟨gt, i, none⟩ (.int .i64 (at_ : Int))).drew g5 182 [.bool true, .int .i64 (at_ : Int), .int .i64 (wt : Int), .slice Av lf.length cv] from (HN.out.far (by have := HG.out; simp only; omega) _).drew)
  generalize (w2.setCell ⟨gt, i, none⟩ (.int .i64 (at_ : Int))).drew = w3 at H3 HL3 HN3 ⊢
  clear b0 b1 c0 t0 f0
  have b3 := HN3.out.cell 3
  have hsum : IntKind.i64.wrap ((i : Int) + 1) = (i : Int) + 1 := IntWalk.i64_in _ (by omega)
  obtain ⟨T, hT⟩ : ∃ T, T = m.tO.set i (at_ : Int) := ⟨_, rfl⟩
  rw [← hT] at H3
  have HTT := Lib.hid hT
  obtain ⟨N, hN⟩ : ∃ N, N = lf.length := ⟨_, rfl⟩
  have HLF := Lib.hid (H3.out.wf _ (List.mem_append_right _ (List.mem_singleton_self _))).2.2
  have hNb : N ≤ 100000 := by have := HLF.out.1; simp only at this; omega
  rw [← hN] at b3
  have HNN := Lib.hid hN
  clear hT hN
  go_wp2_with fail
  go_loopw [8, 32] (fun _ s wr => ∃ k : Nat, k ≤ N ∧ s = .int .i64 (k : Int) ∧ Hid (Mt wr gm gt B n ⟨setAll ((i : Int) + 1) (lf.take k) T, m.deep, m.op⟩ vo (ys ++ [⟨⟨true, at_, wt, lf⟩, .slice Av lf.length cv⟩])) ∧ Hid (Lo B [gm, gt] W wr)) (fun _ s _ => N - (intOf s).toNat)
  case atStart => exact ⟨0, Nat.zero_le _, rfl, H3, HL3⟩
  case round =>
    obtain ⟨k, hk, rfl, HM, HLr⟩ := hrel
    by_cases hlt : k < N
    · have hltI : (k : Int) < (N : Int) := by omega
      have hkl : k < lf.length := by rw [← HNN.out]; exact hlt
      obtain ⟨Av', cv', e, _, _, hs, hsp⟩ := own_slice (HM.out.left _ (List.mem_append_right _ (List.mem_singleton_self _)))
      simp only at e
      injection e with e1 _ e3
      subst e1 e3
      obtain ⟨⟨bA, oA, sA⟩, rfl, _, hx⟩ := hs (by rw [nts_len]; simp only; omega)
      obtain rfl : sA = none := (hsp _ rfl).1
      have hx1 := hx k (.int .i64 ((lf[k]'hkl : Nat) : Int)) (by simp [nts, hkl])
      rw [add_plain] at hx1
      have hj := HLF.out.2 lf[k] (List.getElem_mem hkl)
      have HTK := Lib.hid (show lf.take (k + 1) = lf.take k ++ [lf[k]] by rw [List.take_succ_eq_append_getElem hkl])
      generalize lf[k] = j at hx1 hj HTK
      have hj0 : (0 : Int) ≤ (j : Int) := by omega
      have hj1 : (j : Int) < (n : Int) := by omega
      have c0 := HM.out.rec_.cell 0
      obtain ⟨T2, hT2⟩ : ∃ T9, T9 = setAll ((i : Int) + 1) (lf.take k) T := ⟨_, rfl⟩
      have HM' := HM
      rw [← hT2] at HM'
      have t0 : wr.cell? ⟨gt, j, none⟩ = some (.int .i64 (T2[j]'(by rw [HM'.out.len]; exact hj))) := (HM'.out.to_.cell j).trans (nms_get _ _ (by rw [HM'.out.len]; exact hj))
      have f0 := HM'.out.to_.frozen j
      have HMz := Lib.hid (show Mt (wr.setCell ⟨gt, j, none⟩ (.int .i64 ((i : Int) + 1))) gm gt B n ⟨setAll ((i : Int) + 1) (lf.take (k + 1)) T, m.deep, m.op⟩ vo (ys ++ [⟨⟨true, at_, wt, lf⟩, .slice (some ⟨bA, oA, none⟩) lf.length cv⟩]) from by
        have h := HM'.out.poke j ((i : Int) + 1)
        rw [HTK.out, setAll_snoc, ← hT2]
        exact h)
      have HLz := Lib.hid (show Lo B [gm, gt] W (wr.setCell ⟨gt, j, none⟩ (.int .i64 ((i : Int) + 1))) from HLr.out.trans (Lo.of_chg ((Chg.refl [gt] wr).setCell (p := ⟨gt, j, none⟩) (by simp) _) (by simp)))
      clear hx hs hsp hT2
      go_wp2_with fail
      go_roundw
      case rel => exact ⟨k + 1, by omega, by go_num, HMz, HLz⟩
      case measure => simp [intOf]; omega
    · have hltI : ¬ (k : Int) < (N : Int) := by omega
      have H3' := HM
      rw [List.take_of_length_le (by rw [← HNN.out]; omega)] at H3'
      obtain ⟨T2, hT2⟩ : ∃ T2, T2 = setAll ((i : Int) + 1) lf T := ⟨_, rfl⟩
      rw [← hT2] at H3'
      have HT2 := Lib.hid hT2
      clear hT2
      obtain ⟨A, c, rfl, hc1, hc2, _⟩ := rown_slice H3'.out.own
      have hll : (ys ++ [(⟨⟨true, at_, wt, lf⟩, .slice Av lf.length cv⟩ : PV)]).length = ys.length + 1 := by simp
      have c2 := H3'.out.rec_.cell 2
      have f2 := H3'.out.rec_.frozen 2
      rw [hll] at c2 hc1
      obtain ⟨g, rfl, _⟩ := rown_cell H3'.out.own rfl ((pvCs_get _ ys.length _ 2 (by simp) (by omega)).trans (show (pvC ⟨⟨true, at_, wt, lf⟩, .slice Av lf.length cv⟩)[2]? = some (.int .i64 (wt : Int)) from rfl))
      have H4 := Lib.hid (H3'.out.drop rfl)
      have hfew := H3'.out.few
      rw [hll] at hfew
      obtain ⟨q, hq⟩ : ∃ q, q = ys.length := ⟨_, rfl⟩
      rw [← hq] at c2 hfew H4 hc1
      have hsub : IntKind.i64.wrap (((q + 1 : Nat) : Int) - 1) = (q : Int) := by rw [IntWalk.i64_in _ (by omega)]; omega
      have hq0 : (0 : Int) ≤ (q : Int) := by omega
      have hq1 : (q : Int) < ((q + 1 : Nat) : Int) := by omega
      have hq2 : (q : Int) ≤ (c : Int) := by omega
      have hqt : (q : Int).toNat = q := Int.toNat_natCast _
      clear hq hll
      go_wp2_with fail
      go_region
      have HL4 := Lib.hid (show Lo B [gm, gt] W (wr.setCell ⟨gm, 2, none⟩ (.slice (some ⟨g, 0, none⟩) q c)).drew from HLr.out.trans (Lo.of_chg ((Chg.refl [gm] wr).setCell (p := ⟨gm, 2, none⟩) (by simp) _).drew (by simp)))
      have H5 := Lib.hid (H4.out.keep (Chg.refl [] _).drew)
      generalize (wr.setCell ⟨gm, 2, none⟩ (.slice (some ⟨g, 0, none⟩) q c)).drew = w4 at HL4 H5 ⊢
      clear c2 f2 hsub
      go_wp2_with fail
      go_ret
      have h := H5.out
      rw [HT2.out, HTT.out] at h
      exact ⟨rfl, ⟨_, _, h⟩, HL4.out⟩
end
end Go.Proofs.YtbkfhndmeljlcaaGreatDoor
namespace Go.Proofs.YtbkfhndmeljlcaaGreatDoor
open Go.RowKit
theorem leaveP_rev (i : Nat) (ys : List NPart) (x : NPart) (hx : x.loop = true) : ∀ zs : List NPart, (∀ z ∈ zs, z.loop = false) → leaveP i (zs ++ x :: ys) = some (zs ++ ⟨x.loop, x.at_, x.waits, x.left ++ [i]⟩ :: ys)
  | [], _ => by simp [leaveP, hx]
  | z :: zs, h => by
    have hz := h z (List.mem_cons_self ..)
    rw [List.cons_append, leaveP, if_neg (by simp [hz]), leaveP_rev i ys x hx zs fun y hy => h y (List.mem_cons_of_mem _ hy)]
    rfl
theorem leaveP_no (i : Nat) : ∀ zs : List NPart, (∀ z ∈ zs, z.loop = false) → leaveP i zs = none
  | [], _ => rfl
  | z :: zs, h => by
    have hz := h z (List.mem_cons_self ..)
    rw [leaveP, if_neg (by simp [hz]), leaveP_no i zs fun y hy => h y (List.mem_cons_of_mem _ hy)]
    rfl
/-- append as a step: where the row lies then is told. -/
theorem step_append_where {P : Program} {w : World} {ops : Array Oper} {o : Oper} {a : Act} {K : Act → World → Prop} {Q : Exit → Act → World → Prop} {E : Prop} (hgd : o.guard = none) (s x : Operand) (t : TypeId)
    (ho : o.op = .call { callee := .builtin .append, args := #[s, x], argTypes := #[t, t] })
    (base : Nat) (e : TypeId) (i : TypeInfo) (z : Value) (bytes : Nat) (ht : P.underlying t = some (.slice e)) (hi : P.info? e = some i) (hz : i.zero = some z)
    (hsize : i.size = 1) (hby : i.bytes = bytes) (hzs : z.cells.size = 1)
    (v : Value) (n : Nat) (xs : List Value) (hse : a.eval s = v) (hown : w.ownsRow base e 1 v n xs)
    (A : Option Addr) (m c : Nat) (news : List Value) (hxe : a.eval x = .slice A m c) (hl : news.length = m) (hs : Src w A news) (h1 : ∀ u ∈ news, u.oneCell' = true)
    (h63 : n + m ≤ maxLen) (hbytes : (n + m) * bytes ≤ 140737488355328) (hbase : base ≤ w.heap.size)
    (h : ∀ v' w', w'.ownsRow base e 1 v' (n + m) (xs ++ news) → w.grownBy w' v.ownBlock → (v'.ownBlock = v.ownBlock ∨ v'.ownBlock = some w.heap.size) → K (a.put o.dst v') w') :
    if Region.wanted o (yielded ops a.tmps) = true then Oper.wp P o a w K Q else E := by
  have hw : Region.wanted o (yielded ops a.tmps) = true := by simp [Region.wanted, hgd]
  rw [if_pos hw]
  obtain ⟨v', w', hrun, h2, h3, h4⟩ := run_append_src (P := P) w base t o.type e i z bytes ht hi hz hsize hby hzs v n xs hown A m c news hl hs h1 h63 hbytes hbase
  unfold Oper.wp execOp
  simp only [ho, resolve, invoke, builtin, Sem.run_bind, Sem.run_pure, Result.andThen_ok, List.map_toArray, List.map_cons, List.map_nil, hse, hxe, hrun]
  exact h v' w' h2 h3 h4
section
variable {W : World} {gm gt B n : Nat} {m : NSt} {vo : Value}
/-- A ~ waits in a part. -/
theorem Mt.leave {ys zs : List PV} {x : PV} {g c q i : Nat} {W1 w' : World} {v' : Value} (h : Mt W gm gt B n m vo (ys ++ x :: zs)) (hv : vo = .slice (some ⟨g, 0, none⟩) q c) (hi : i < n) (hfl : x.p.left.length < n) (hc : Chg [] W W1)
    (ho : w'.ownsRow B 3 1 v' (x.p.left.length + 1) (nts x.p.left ++ [.int .i64 (i : Int)])) (hg : W1.grownBy w' x.v.ownBlock) (hb : v'.ownBlock = x.v.ownBlock ∨ v'.ownBlock = some W1.heap.size) :
    Mt (w'.setCell ⟨g, ys.length * 4 + 3, none⟩ v') gm gt B n ⟨m.tO, m.deep, (zs.map (·.p)).reverse ++ ⟨x.p.loop, x.p.at_, x.p.waits, x.p.left ++ [i]⟩ :: (ys.map (·.p)).reverse⟩ vo (ys ++ ⟨⟨x.p.loop, x.p.at_, x.p.waits, x.p.left ++ [i]⟩, v'⟩ :: zs) := by
  have h1 := h.keep hc
  subst hv
  have hxm := h1.left x (by simp)
  have hq : q = (ys ++ x :: zs).length := by
    rcases h.own.2 with ⟨e, _⟩ | ⟨_, _, _, e, _⟩
    · cases e
    · injection e
  subst hq
  have hB := (h.own.lt g rfl).1
  have hlo := h.lo
  have hopen := rown_grown h1.own hxm (by decide) hg
  have hfar : ∀ {k q2 : Nat} {u : Value} {cs : List Value}, w'.ownsRow B 3 k u q2 cs → (w'.setCell ⟨g, ys.length * 4 + 3, none⟩ v').ownsRow B 3 k u q2 cs := fun hu => rown_far hu (own_ne hopen hu (by decide) rfl)
  have hoth : ∀ y ∈ ys ++ zs, (y.v.ownBlock = none ∨ y.v.ownBlock ≠ x.v.ownBlock) := by
    have hp := h.apart
    rw [List.pairwise_append, List.pairwise_cons] at hp
    intro y hy
    rcases List.mem_append.1 hy with hy | hy
    · exact hp.2.2 y hy x (by simp)
    · rcases hp.2.1.1 y hy with h | h
      · cases hyb : y.v.ownBlock with
        | none => exact .inl rfl
        | some b => exact .inr (by rw [h]; simp)
      · exact .inr (Ne.symm h)
  have hnew : ∀ y ∈ ys ++ zs, (y.v.ownBlock = none ∨ y.v.ownBlock ≠ v'.ownBlock) := fun y hy => by
    rcases hb with e | e
    · rw [e]; exact hoth y hy
    · cases hyb : y.v.ownBlock with
      | none => exact .inl rfl
      | some b =>
        refine .inr (fun hh => ?_)
        rw [e] at hh
        injection hh with hh
        have hm : y ∈ ys ++ x :: zs := by
          rcases List.mem_append.1 hy with hy | hy
          · exact List.mem_append_left _ hy
          · exact List.mem_append_right _ (List.mem_cons_of_mem _ hy)
        have := ((h1.left y hm).lt b hyb).2
        omega
  have hleft : ∀ y ∈ ys ++ zs, (w'.setCell ⟨g, ys.length * 4 + 3, none⟩ v').ownsRow B 3 1 y.v y.p.left.length (nts y.p.left) := fun y hy => by
    have hm : y ∈ ys ++ x :: zs := by
      rcases List.mem_append.1 hy with hy | hy
      · exact List.mem_append_left _ hy
      · exact List.mem_append_right _ (List.mem_cons_of_mem _ hy)
    exact hfar ((h1.left y hm).kept hg (hoth y hy))
  refine ⟨(whole_grown h1.rec_ hxm (by decide) hg).far (by simp only; omega) _, ?_, h.len, by simp, ?_, fun y hy => ?_, ?_, h.lo, by have := h.few; simpa using this, h.deep, fun y hy => ?_, h.big, by rw [size_set]; exact Nat.le_trans h1.room hg.size⟩
  · refine Whole.far ?_ (by simp only; omega) _
    unfold Whole
    rw [hg.block gt h1.to_.lt (fun hc => by have := (hxm.lt gt hc.symm).1; omega)]
    exact h1.to_
  · have ho2 := rown_set (j := ys.length * 4 + 3) (u := v') hopen
    have e1 : (ys ++ (⟨⟨x.p.loop, x.p.at_, x.p.waits, x.p.left ++ [i]⟩, v'⟩ : PV) :: zs).length = (ys ++ x :: zs).length := by simp
    have e2 : (pvCs (ys ++ x :: zs)).set (ys.length * 4 + 3) v' = pvCs (ys ++ ⟨⟨x.p.loop, x.p.at_, x.p.waits, x.p.left ++ [i]⟩, v'⟩ :: zs) := by
      rw [pvCs_app, pvCs_app, pvCs, pvCs, List.set_append_right _ _ (by rw [pvCs_len]; omega), pvCs_len]
      rw [show ys.length * 4 + 3 - ys.length * 4 = 3 by omega]
      rfl
    rw [e1, ← e2]
    exact ho2
  · rcases List.mem_append.1 hy with hy | hy
    · exact hleft y (List.mem_append_left _ hy)
    · rcases List.mem_cons.1 hy with rfl | hy
      · have := hfar ho
        simp only [nts_app, List.length_append, List.length_cons, List.length_nil]
        exact this
      · exact hleft y (List.mem_append_right _ hy)
  · have hp := h.apart
    rw [List.pairwise_append, List.pairwise_cons] at hp ⊢
    refine ⟨hp.1, ⟨fun z hz => ?_, hp.2.1.2⟩, fun y hy z hz => ?_⟩
    · rcases hnew z (List.mem_append_right _ hz) with h | h
      · cases hvb : v'.ownBlock with
        | none => exact .inl (by simp)
        | some b => exact .inr (by simp [h])
      · exact .inr (Ne.symm h)
    · rcases List.mem_cons.1 hz with rfl | hz
      · exact hnew y (List.mem_append_left _ hy)
      · exact hp.2.2 y hy z (List.mem_cons_of_mem _ hz)
  · rcases List.mem_append.1 hy with hy | hy
    · exact h.wf y (List.mem_append_left _ hy)
    · rcases List.mem_cons.1 hy with rfl | hy
      · have := h.wf x (by simp)
        refine ⟨this.1, this.2.1, by simp only [List.length_append, List.length_cons, List.length_nil]; omega, fun j hj => ?_⟩
        rcases List.mem_append.1 hj with hj | hj
        · exact this.2.2.2 j hj
        · simp only [List.mem_cons, List.not_mem_nil, or_false] at hj
          rw [hj]; exact hi
      · exact h.wf y (by simp [hy])
set_option maxHeartbeats 2000000 in
set_option maxRecDepth 100000 in
theorem leave_no {xs : List PV} (h : Mt W gm gt B n m vo xs) (hn : ∀ x ∈ xs, x.p.loop = false) (i : Nat) : Calls Tryz.prog 143 #[.pointer (some ⟨gm, 0, none⟩), .int .i64 (i : Int)] W (BoolPost false W) := by
  have c2 := h.rec_.cell 2
  obtain ⟨A, c, rfl, hc1, hc2, _⟩ := rown_slice h.own
  have H := Lib.hid h
  have HN := Lib.hid hn
  have hfew := h.few
  obtain ⟨q, hq⟩ : ∃ q, q = xs.length := ⟨_, rfl⟩
  rw [← hq] at c2 hfew hc1
  have HQ := Lib.hid hq
  clear h hn hq
  have hsub : ∀ k : Nat, k ≤ 17 → IntKind.i64.wrap ((k : Int) - 1) = (k : Int) - 1 := fun k hk => IntWalk.i64_in _ (by omega)
  have hsq := hsub q (by omega)
  have HSUB := Lib.hid hsub
  clear hsub
  go_enter Tryz.func143, Tryz.ntmps143
  go_wp2_with fail
  go_loop [5] (fun s => ∃ k : Nat, k ≤ q ∧ s = .int .i64 ((k : Int) - 1)) (fun s => (intOf s + 1).toNat)
  case atStart => exact ⟨q, Nat.le_refl _, rfl⟩
  case round =>
    obtain ⟨k, hk, rfl⟩ := hrel
    by_cases hlt : 0 < k
    · obtain ⟨j, rfl⟩ : ∃ j, k = j + 1 := ⟨k - 1, by omega⟩
      have he : ((j + 1 : Nat) : Int) - 1 = (j : Int) := by omega
      rw [he]
      have hj0 : (0 : Int) ≤ (j : Int) := by omega
      have hj1 : (j : Int) < (q : Int) := by omega
      have hjx : j < xs.length := by rw [← HQ.out]; omega
      have hlp := HN.out xs[j] (List.getElem_mem hjx)
      obtain ⟨g, rfl, j0⟩ := rown_cell H.out.own (by rw [← HQ.out]) ((pvCs_get xs j xs[j] 0 (List.getElem?_eq_getElem hjx) (by omega)).trans (show (pvC xs[j])[0]? = some (.bool xs[j].p.loop) from rfl))
      rw [Nat.add_zero, hlp] at j0
      have hsj := HSUB.out j (by omega)
      clear hlp hsq
      go_wp2_with fail
      go_round
      case rel => exact ⟨j, by omega, rfl⟩
      case measure => simp [intOf]
    · obtain rfl : k = 0 := by omega
      have hz : ¬ (0 : Int) ≤ ((0 : Nat) : Int) - 1 := by omega
      go_wp2_with fail
      go_ret
      exact ⟨rfl, Chg.refl _ _⟩
set_option maxHeartbeats 4000000 in
set_option maxRecDepth 100000 in
theorem leave_yes {ys zs : List PV} {x : PV} (h : Mt W gm gt B n m vo (ys ++ x :: zs)) (hl : x.p.loop = true) (hn : ∀ z ∈ zs, z.p.loop = false) (i : Nat) (hi : i < n) (hfl : x.p.left.length < n) : Calls Tryz.prog 143 #[.pointer (some ⟨gm, 0, none⟩), .int .i64 (i : Int)] W
    (NextPost8 gm gt B n ⟨m.tO, m.deep, (zs.map (·.p)).reverse ++ ⟨x.p.loop, x.p.at_, x.p.waits, x.p.left ++ [i]⟩ :: (ys.map (·.p)).reverse⟩ W) := by
  have HHL := Lib.hid hl
  clear hl
  have c2 := h.rec_.cell 2
  obtain ⟨A, c, rfl, hc1, hc2, _⟩ := rown_slice h.own
  have H := Lib.hid h
  have HN := Lib.hid hn
  obtain ⟨i0, hi0, hz0, hz1, hz2⟩ := info_parts info_int
  have hfew := h.few
  obtain ⟨q, hq⟩ : ∃ q, q = (ys ++ x :: zs).length := ⟨_, rfl⟩
  obtain ⟨b, hb⟩ : ∃ b, b = ys.length := ⟨_, rfl⟩
  have hbq : b < q := by rw [hb, hq]; simp
  have hxb : (ys ++ x :: zs)[b]? = some x := by rw [hb]; simp
  have hzs : ∀ (j : Nat) (hj : j < (ys ++ x :: zs).length), b < j → ((ys ++ x :: zs)[j]).p.loop = false := fun j hj hbj => by
    have : (ys ++ x :: zs)[j] ∈ zs := by
      rw [List.getElem_append_right (by omega)]
      obtain ⟨d, hd⟩ : ∃ d, j - ys.length = d + 1 := ⟨j - ys.length - 1, by omega⟩
      simp only [hd, List.getElem_cons_succ]
      exact List.getElem_mem _
    exact hn _ this
  rw [← hq] at c2 hfew hc1
  have HQ := Lib.hid hq
  have HBB := Lib.hid hb
  have HXB := Lib.hid hxb
  have HZS := Lib.hid hzs
  clear h hn hq hb hxb hzs
  have hsub : ∀ k : Nat, k ≤ 17 → IntKind.i64.wrap ((k : Int) - 1) = (k : Int) - 1 := fun k hk => IntWalk.i64_in _ (by omega)
  have hsq := hsub q (by omega)
  have HSUB := Lib.hid hsub
  clear hsub
  go_enter Tryz.func143, Tryz.ntmps143
  go_wp2_with fail
  go_loop [5] (fun s => ∃ k : Nat, k ≤ q ∧ b < k ∧ s = .int .i64 ((k : Int) - 1)) (fun s => (intOf s + 1).toNat)
  case atStart => exact ⟨q, Nat.le_refl _, hbq, rfl⟩
  case round =>
    obtain ⟨k, hk, hbk, rfl⟩ := hrel
    obtain ⟨j, rfl⟩ : ∃ j, k = j + 1 := ⟨k - 1, by omega⟩
    have he : ((j + 1 : Nat) : Int) - 1 = (j : Int) := by omega
    rw [he]
    have hj0 : (0 : Int) ≤ (j : Int) := by omega
    have hj1 : (j : Int) < (q : Int) := by omega
    by_cases hlt : b < j
    · have hjx : j < (ys ++ x :: zs).length := by rw [← HQ.out]; omega
      have hlp := HZS.out j hjx hlt
      obtain ⟨g, rfl, j0⟩ := rown_cell H.out.own (by rw [← HQ.out]) ((pvCs_get _ j (ys ++ x :: zs)[j] 0 (List.getElem?_eq_getElem hjx) (by omega)).trans (show (pvC (ys ++ x :: zs)[j])[0]? = some (.bool (ys ++ x :: zs)[j].p.loop) from rfl))
      rw [Nat.add_zero, hlp] at j0
      have hsj := HSUB.out j (by omega)
      clear hlp hsq
      go_wp2_with fail
      go_round
      case rel => exact ⟨j, by omega, by omega, rfl⟩
      case measure => simp [intOf]
    · obtain rfl : b = j := by omega
      obtain ⟨g, rfl, j0⟩ := rown_cell H.out.own (by rw [← HQ.out]) ((pvCs_get _ b x 0 HXB.out (by omega)).trans (show (pvC x)[0]? = some (.bool x.p.loop) from rfl))
      obtain ⟨g', e, j3⟩ := rown_cell H.out.own (by rw [← HQ.out]) ((pvCs_get _ b x 3 HXB.out (by omega)).trans (show (pvC x)[3]? = some x.v from rfl))
      injection e with e; injection e with e; subst e
      rw [Nat.add_zero, HHL.out] at j0
      have hxm := H.out.left x (by simp)
      obtain ⟨Av, cv, e, _⟩ := own_slice hxm
      rw [e] at j3 hxm
      have HE := Lib.hid e
      have HXM := Lib.hid hxm
      have hLL := (H.out.wf x (by simp)).2.2.1
      have hbig := H.out.big
      have hBW : B ≤ W.heap.size := Nat.le_trans (H.out.own.lt g rfl).1 (Nat.le_of_lt (H.out.own.lt g rfl).2)
      clear e hxm hsq
      have q3 : (W.alloc (.cells #[.int .i64 (i : Int)] 3)).cell? ⟨g, b * 4 + 3, none⟩ = some (.slice Av x.p.left.length cv) := cell_keep j3 ((Chg.refl [] W).alloc _)
      have q2 : (W.alloc (.cells #[.int .i64 (i : Int)] 3)).cell? ⟨gm, 2, none⟩ = some (.slice (some ⟨g, 0, none⟩) q c) := cell_keep (by simpa using c2) ((Chg.refl [] W).alloc _)
      go_wp2_with fail
      go_region_law (
        (refine step_append_where rfl (.tmp 36) (.tmp 38) 26 rfl B 3 i0 _ 8 Tryz.underlying26 hi0 hz0 hz1 hz2 rfl (.slice Av x.p.left.length cv) x.p.left.length (nts x.p.left) rfl (own_keep HXM.out (((Chg.refl [] W).alloc _).drew)) (some ⟨W.heap.size, 0, none⟩) 1 1 [.int .i64 (i : Int)] rfl rfl ((Src.of_all (Whole.new W 3 [.int .i64 (i : Int)])).drew) (by simp [Value.oneCell']) (by unfold maxLen; omega) (by omega) (by simp; omega) ?_
         intro v' w' ho hg hwb
         obtain ⟨A', c', rfl, _⟩ := own_slice ho
         have HO := Lib.hid ho
         have HGR := Lib.hid hg
         have HAL := Lib.hid (show Chg [] W (W.alloc (.cells #[.int .i64 (i : Int)] 3)).drew from ((Chg.refl [] W).alloc _).drew)
         have HO2 := Lib.hid (rown_grown (rown_keep H.out.own HAL.out) (own_keep HXM.out HAL.out) (by decide) hg)
         obtain ⟨g', e, k3⟩ := rown_cell HO2.out (by rw [← HQ.out]) ((pvCs_get _ b x 3 HXB.out (by omega)).trans (show (pvC x)[3]? = some x.v from rfl))
         injection e with e; injection e with e; subst e
         have kf : w'.frozen? ⟨g, b * 4 + 3, none⟩ = false := by
           have h := HO2.out
           rw [← HQ.out] at h
           exact rown_frozen h
         have k2 : w'.cell? ⟨gm, 2, none⟩ = some (.slice (some ⟨g, 0, none⟩) q c) := by
           have h := (whole_grown (H.out.rec_.keep HAL.out) (own_keep HXM.out HAL.out) (by decide) hg).cell 2
           rw [← HQ.out] at h
           simpa using h
         have HWB := Lib.hid hwb
         have hsv : (∀ j, w'.heap.size = j → True) := fun _ _ => trivial
         clear ho hg hwb hsv))
      all_goals
        have HM := Lib.hid (H.out.leave rfl hi hfl HAL.out HO.out (by rw [HE.out]; exact HGR.out) (by rw [HE.out]; exact HWB.out))
        rw [← HBB.out] at HM
        have HL := Lib.hid (show Lo B [gm, gt] W (w'.setCell ⟨g, b * 4 + 3, none⟩ (.slice A' (x.p.left.length + 1) c')) from ((Lo.of_chg HAL.out (by simp)).trans (Lo.of_grown (own_keep HXM.out HAL.out) (Nat.le_refl _) HGR.out)).trans (Lo.of_chg ((Chg.refl [g] w').setCell (p := ⟨g, b * 4 + 3, none⟩) (by simp) _) (by have := (H.out.own.lt g rfl).1; simp; omega)))
        generalize w'.setCell ⟨g, b * 4 + 3, none⟩ (.slice A' (x.p.left.length + 1) c') = w9 at HM HL ⊢
        clear k2 k3 kf
        go_wp2_with fail
        go_ret
        exact ⟨rfl, ⟨_, _, HM.out⟩, HL.out⟩
end
end Go.Proofs.YtbkfhndmeljlcaaGreatDoor
