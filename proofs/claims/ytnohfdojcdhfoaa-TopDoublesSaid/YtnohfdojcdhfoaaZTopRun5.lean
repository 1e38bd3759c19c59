/-
  TopRun, part 5: NestHalf, NestEnd, NestLoop, NestLeave, NestTake, NestMatch, NestRef, NestRefA, StFunc, WkPure.
-/
import Derived.Test.YtnohfdojcdhfoaaZTopRun1
import Derived.Test.YtnohfdojcdhfoaaZTopRun2
import Derived.Test.YtnohfdojcdhfoaaZTopRun3
import Derived.Test.YtnohfdojcdhfoaaZTopRun4
import Derived.BigRegion
import Derived.Deep.RegionLaw
import Derived.Deep.QuietTactic
import Derived.BigQuiet
namespace Go.Proofs.Ytnohfdojcdhfoaa
open Go.RowKit
section
variable {W : World} {gm gt B n : Nat} {m : NSt} {vo : Value}
set_option maxHeartbeats 2000000 in
theorem halve_none (h : Mt W gm gt B n m vo []) (i : Nat) : Calls Try.prog 113 #[.pointer (some ⟨gm, 0, none⟩), .int .i64 (i : Int)] W (BoolPost false W) := by
  go_enter Try.func113, Try.ntmps113
  go_wp2_with fail
  refine (inner_none h).mono ?_
  rintro e w1 ⟨rfl, hc1⟩
  have HC := Lib.hid (hc1.alloc (.cells #[.bool false, .int .i64 0, .int .i64 0, .slice none 0 0] 169))
  clear hc1 h
  go_wp2_with fail
  go_ret
  exact ⟨rfl, HC.out⟩
set_option maxHeartbeats 2000000 in
theorem halve_no {ys : List PV} {x : PV} (h : Mt W gm gt B n m vo (ys ++ [x])) (hn : x.p.loop = true ∨ x.p.waits ≠ x.p.at_) (i : Nat) : Calls Try.prog 113 #[.pointer (some ⟨gm, 0, none⟩), .int .i64 (i : Int)] W (BoolPost false W) := by
  have hin := inner_some h
  obtain ⟨⟨lp, at_, wt, lf⟩, vx⟩ := x
  obtain ⟨Av, cv, e, _⟩ := own_slice (h.left ⟨⟨lp, at_, wt, lf⟩, vx⟩ (by simp))
  simp only at e
  subst e
  simp only at hin hn
  clear h
  go_enter Try.func113, Try.ntmps113
  go_wp2_with fail
  refine hin.mono ?_
  rintro e w1 ⟨rfl, hc1⟩
  have HC := Lib.hid (hc1.alloc (.cells #[.bool lp, .int .i64 (at_ : Int), .int .i64 (wt : Int), .slice Av lf.length cv] 169))
  clear hc1 hin
  by_cases hl : lp = true
  · subst hl
    go_wp2_with fail
    go_ret
    exact ⟨rfl, HC.out⟩
  · obtain rfl : lp = false := by simpa using hl
    have hne : wt ≠ at_ := by simpa using hn
    have hd : ((wt : Int) != (at_ : Int)) = true := by simp; omega
    go_wp2_with fail
    go_ret
    exact ⟨rfl, HC.out⟩
def NextPost8 (gm gt B n : Nat) (m' : NSt) (W : World) (e : Ending) (w' : World) : Prop := e = .returned (.bool true) ∧ (∃ vo' xs', Mt w' gm gt B n m' vo' xs') ∧ Lo B [gm, gt] W w'
set_option maxHeartbeats 4000000 in
theorem halve_yes {ys : List PV} {x : PV} (h : Mt W gm gt B n m vo (ys ++ [x])) (hl : x.p.loop = false) (hw : x.p.waits = x.p.at_) (i : Nat) (hi : i < n) : Calls Try.prog 113 #[.pointer (some ⟨gm, 0, none⟩), .int .i64 (i : Int)] W
    (NextPost8 gm gt B n ⟨m.tO.set x.p.at_ ((i : Int) + 1), m.deep, ⟨x.p.loop, x.p.at_, i, x.p.left⟩ :: (ys.map (·.p)).reverse⟩ W) := by
  have hin := inner_some h
  obtain ⟨⟨lp, at_, wt, lf⟩, vx⟩ := x
  obtain ⟨Av, cv, e, _⟩ := own_slice (h.left ⟨⟨lp, at_, wt, lf⟩, vx⟩ (by simp))
  simp only at e hl hw
  have hw' := hw.symm
  subst e hl hw'
  simp only at hin
  have H := Lib.hid h
  clear h
  go_enter Try.func113, Try.ntmps113
  go_wp2_with fail
  refine hin.mono ?_
  rintro e w1 ⟨rfl, hc1⟩
  clear hin
  go_upto_region 2 with fail
  have hal : Chg [] w1 (w1.alloc (.cells #[.bool false, .int .i64 (at_ : Int), .int .i64 (at_ : Int), .slice Av lf.length cv] 169)) := (Chg.refl [] w1).alloc _
  have hN : Whole (w1.alloc (.cells #[.bool false, .int .i64 (at_ : Int), .int .i64 (at_ : Int), .slice Av lf.length cv] 169)) w1.heap.size 169 [.bool false, .int .i64 (at_ : Int), .int .i64 (at_ : Int), .slice Av lf.length cv] := Whole.new w1 169 [.bool false, .int .i64 (at_ : Int), .int .i64 (at_ : Int), .slice Av lf.length cv]
  obtain ⟨g5, hg5⟩ : ∃ g, g = w1.heap.size := ⟨_, rfl⟩
  rw [← hg5] at hN ⊢
  generalize w1.alloc (.cells #[.bool false, .int .i64 (at_ : Int), .int .i64 (at_ : Int), .slice Av lf.length cv] 169) = w2 at hal hN ⊢
  have HC2 := Lib.hid (hc1.new hal)
  have H2 := Lib.hid (H.out.keep HC2.out)
  have HN := Lib.hid hN
  have HG := Lib.hid (show gm < w1.heap.size ∧ gt < w1.heap.size from ⟨(H.out.rec_.keep hc1).lt, (H.out.to_.keep hc1).lt⟩)
  have HG5 := Lib.hid hg5
  clear hal hN hc1 hg5
  have hlo := H2.out.lo
  have hat := (H2.out.wf _ (List.mem_append_right _ (List.mem_singleton_self _))).1
  simp only at hat
  obtain ⟨b0, b1, b2⟩ := (show w2.cell? ⟨g5, 0, none⟩ = some (.bool false) ∧ w2.cell? ⟨g5, 1, none⟩ = some (.int .i64 (at_ : Int)) ∧ w2.cell? ⟨g5, 2, none⟩ = some (.int .i64 (at_ : Int)) from ⟨HN.out.cell 0, HN.out.cell 1, HN.out.cell 2⟩)
  have c0 := H2.out.rec_.cell 0
  have t0 : w2.cell? ⟨gt, at_, none⟩ = some (.int .i64 (m.tO[at_]'(by rw [H2.out.len]; exact hat))) := (H2.out.to_.cell at_).trans (nms_get _ _ (by rw [H2.out.len]; exact hat))
  have f0 := H2.out.to_.frozen at_
  have hat0 : (0 : Int) ≤ (at_ : Int) := by omega
  have hat1 : (at_ : Int) < (n : Int) := by omega
  have hbig := H2.out.big
  have hsum : IntKind.i64.wrap ((i : Int) + 1) = (i : Int) + 1 := IntWalk.i64_in _ (by omega)
  have hdn : ((at_ : Int) != (at_ : Int)) = false := by simp
  go_wp2_with fail
  go_region
  have H3 := Lib.hid ((H2.out.poke at_ ((i : Int) + 1)).keep (Chg.refl [] _).drew)
  have HL3 := Lib.hid (show Lo B [gm, gt] W (w2.setCell ⟨gt, at_, none⟩ (.int .i64 ((i : Int) + 1))).drew from Lo.of_chg ((HC2.out.sub (T' := [gt]) (by simp)).setCell (p := ⟨gt, at_, none⟩) (by simp) (.int .i64 ((i : Int) + 1))).drew (by simp))
  generalize (w2.setCell ⟨gt, at_, none⟩ (.int .i64 ((i : Int) + 1))).drew = w3 at H3 HL3 ⊢
  clear b0 b1 b2 c0 t0 f0 hsum hdn
  obtain ⟨A, c, rfl, hc1, hc2, _⟩ := rown_slice H3.out.own
  have hll : (ys ++ [(⟨⟨false, at_, at_, lf⟩, .slice Av lf.length cv⟩ : PV)]).length = ys.length + 1 := by simp
  have c2 := H3.out.rec_.cell 2
  obtain ⟨g, rfl, j2⟩ := rown_cell H3.out.own rfl ((pvCs_get _ ys.length _ 2 (by simp) (by omega)).trans (show (pvC ⟨⟨false, at_, at_, lf⟩, .slice Av lf.length cv⟩)[2]? = some (.int .i64 (at_ : Int)) from rfl))
  rw [hll] at c2
  have f2 : w3.frozen? ⟨g, ys.length * 4 + 2, none⟩ = false := rown_frozen H3.out.own
  have H4 := Lib.hid (H3.out.waits rfl i hi)
  have hfew := H3.out.few
  have HGB := Lib.hid (H3.out.own.lt g rfl).1
  rw [hll] at hfew
  obtain ⟨q, hq⟩ : ∃ q, q = ys.length := ⟨_, rfl⟩
  rw [← hq] at c2 j2 f2 hfew H4
  have hsub : IntKind.i64.wrap (((q + 1 : Nat) : Int) - 1) = (q : Int) := by rw [IntWalk.i64_in _ (by omega)]; omega
  have hq0 : (0 : Int) ≤ (q : Int) := by omega
  have hq1 : (q : Int) < ((q + 1 : Nat) : Int) := by omega
  clear hq hll H3
  go_wp2_with fail
  go_region
  have HL4 := Lib.hid (show Lo B [gm, gt] W (w3.setCell ⟨g, q * 4 + 2, none⟩ (.int .i64 (i : Int))).drew from HL3.out.trans (Lo.of_chg ((Chg.refl [g] w3).setCell (p := ⟨g, q * 4 + 2, none⟩) (by simp) _).drew (by have := HGB.out; simp; omega)))
  have H5 := Lib.hid (H4.out.keep (Chg.refl [] _).drew)
  generalize (w3.setCell ⟨g, q * 4 + 2, none⟩ (.int .i64 (i : Int))).drew = w4 at HL4 H5 ⊢
  clear c2 j2 f2 hsub
  go_wp2_with fail
  go_ret
  exact ⟨rfl, ⟨_, _, H5.out⟩, HL4.out⟩
end
end Go.Proofs.Ytnohfdojcdhfoaa
namespace Go.Proofs.Ytnohfdojcdhfoaa
open Go.RowKit
section
variable {W : World} {gm gt B n : Nat} {m : NSt} {vo : Value}
set_option maxHeartbeats 2000000 in
theorem endIf_none (h : Mt W gm gt B n m vo []) (i : Nat) : Calls Try.prog 114 #[.pointer (some ⟨gm, 0, none⟩), .int .i64 (i : Int)] W (BoolPost false W) := by
  go_enter Try.func114, Try.ntmps114
  go_wp2_with fail
  refine (inner_none h).mono ?_
  rintro e w1 ⟨rfl, hc1⟩
  have HC := Lib.hid (hc1.alloc (.cells #[.bool false, .int .i64 0, .int .i64 0, .slice none 0 0] 169))
  clear hc1 h
  go_wp2_with fail
  go_ret
  exact ⟨rfl, HC.out⟩
set_option maxHeartbeats 2000000 in
theorem endIf_no {ys : List PV} {x : PV} (h : Mt W gm gt B n m vo (ys ++ [x])) (hn : x.p.loop = true) (i : Nat) : Calls Try.prog 114 #[.pointer (some ⟨gm, 0, none⟩), .int .i64 (i : Int)] W (BoolPost false W) := by
  have hin := inner_some h
  obtain ⟨⟨lp, at_, wt, lf⟩, vx⟩ := x
  obtain ⟨Av, cv, e, _⟩ := own_slice (h.left ⟨⟨lp, at_, wt, lf⟩, vx⟩ (by simp))
  simp only at e
  subst e
  simp only at hin hn
  clear h
  subst hn
  go_enter Try.func114, Try.ntmps114
  go_wp2_with fail
  refine hin.mono ?_
  rintro e w1 ⟨rfl, hc1⟩
  have HC := Lib.hid (hc1.alloc (.cells #[.bool true, .int .i64 (at_ : Int), .int .i64 (wt : Int), .slice Av lf.length cv] 169))
  clear hc1 hin
  go_wp2_with fail
  go_ret
  exact ⟨rfl, HC.out⟩
set_option maxHeartbeats 4000000 in
theorem endIf_yes {ys : List PV} {x : PV} (h : Mt W gm gt B n m vo (ys ++ [x])) (hl : x.p.loop = false) (i : Nat) : Calls Try.prog 114 #[.pointer (some ⟨gm, 0, none⟩), .int .i64 (i : Int)] W
    (NextPost8 gm gt B n ⟨m.tO.set x.p.waits (i : Int), m.deep, (ys.map (·.p)).reverse⟩ W) := by
  have hin := inner_some h
  obtain ⟨⟨lp, at_, wt, lf⟩, vx⟩ := x
  obtain ⟨Av, cv, e, _⟩ := own_slice (h.left ⟨⟨lp, at_, wt, lf⟩, vx⟩ (by simp))
  simp only at e hl
  subst e hl
  simp only at hin
  have H := Lib.hid h
  clear h
  go_enter Try.func114, Try.ntmps114
  go_wp2_with fail
  refine hin.mono ?_
  rintro e w1 ⟨rfl, hc1⟩
  clear hin
  go_upto_region 2 with fail
  have hal : Chg [] w1 (w1.alloc (.cells #[.bool false, .int .i64 (at_ : Int), .int .i64 (wt : Int), .slice Av lf.length cv] 169)) := (Chg.refl [] w1).alloc _
  have hN : Whole (w1.alloc (.cells #[.bool false, .int .i64 (at_ : Int), .int .i64 (wt : Int), .slice Av lf.length cv] 169)) w1.heap.size 169 [.bool false, .int .i64 (at_ : Int), .int .i64 (wt : Int), .slice Av lf.length cv] := Whole.new w1 169 [.bool false, .int .i64 (at_ : Int), .int .i64 (wt : Int), .slice Av lf.length cv]
  obtain ⟨g5, hg5⟩ : ∃ g, g = w1.heap.size := ⟨_, rfl⟩
  rw [← hg5] at hN ⊢
  generalize w1.alloc (.cells #[.bool false, .int .i64 (at_ : Int), .int .i64 (wt : Int), .slice Av lf.length cv] 169) = w2 at hal hN ⊢
  have HC2 := Lib.hid (hc1.new hal)
  have H2 := Lib.hid (H.out.keep HC2.out)
  have HN := Lib.hid hN
  clear hal hN hc1 hg5
  have hwt := (H2.out.wf _ (List.mem_append_right _ (List.mem_singleton_self _))).2.1
  simp only at hwt
  obtain ⟨b0, b2⟩ := (show w2.cell? ⟨g5, 0, none⟩ = some (.bool false) ∧ w2.cell? ⟨g5, 2, none⟩ = some (.int .i64 (wt : Int)) from ⟨HN.out.cell 0, HN.out.cell 2⟩)
  have c0 := H2.out.rec_.cell 0
  have t0 : w2.cell? ⟨gt, wt, none⟩ = some (.int .i64 (m.tO[wt]'(by rw [H2.out.len]; exact hwt))) := (H2.out.to_.cell wt).trans (nms_get _ _ (by rw [H2.out.len]; exact hwt))
  have f0 := H2.out.to_.frozen wt
  have hat0 : (0 : Int) ≤ (wt : Int) := by omega
  have hat1 : (wt : Int) < (n : Int) := by omega
  have hbig := H2.out.big
  go_wp2_with fail
  go_region
  have H3 := Lib.hid ((H2.out.poke wt (i : Int)).keep (Chg.refl [] _).drew)
  have HL3 := Lib.hid (show Lo B [gm, gt] W (w2.setCell ⟨gt, wt, none⟩ (.int .i64 (i : Int))).drew from Lo.of_chg ((HC2.out.sub (T' := [gt]) (by simp)).setCell (p := ⟨gt, wt, none⟩) (by simp) (.int .i64 (i : Int))).drew (by simp))
  generalize (w2.setCell ⟨gt, wt, none⟩ (.int .i64 (i : Int))).drew = w3 at H3 HL3 ⊢
  clear b0 b2 c0 t0 f0
  obtain ⟨A, c, rfl, hc1, hc2, _⟩ := rown_slice H3.out.own
  have hll : (ys ++ [(⟨⟨false, at_, wt, lf⟩, .slice Av lf.length cv⟩ : PV)]).length = ys.length + 1 := by simp
  have c2 := H3.out.rec_.cell 2
  have f2 := H3.out.rec_.frozen 2
  rw [hll] at c2 hc1
  obtain ⟨g, rfl, _⟩ := rown_cell H3.out.own rfl ((pvCs_get _ ys.length _ 2 (by simp) (by omega)).trans (show (pvC ⟨⟨false, at_, wt, lf⟩, .slice Av lf.length cv⟩)[2]? = some (.int .i64 (wt : Int)) from rfl))
  have H4 := Lib.hid (H3.out.drop rfl)
  have hfew := H3.out.few
  rw [hll] at hfew
  obtain ⟨q, hq⟩ : ∃ q, q = ys.length := ⟨_, rfl⟩
  rw [← hq] at c2 hfew H4 hc1
  have hsub : IntKind.i64.wrap (((q + 1 : Nat) : Int) - 1) = (q : Int) := by rw [IntWalk.i64_in _ (by omega)]; omega
  have hq0 : (0 : Int) ≤ (q : Int) := by omega
  have hq1 : (q : Int) < ((q + 1 : Nat) : Int) := by omega
  have hq2 : (q : Int) ≤ (c : Int) := by omega
  have hqt : (q : Int).toNat = q := Int.toNat_natCast _
  clear hq hll H3
  go_wp2_with fail
  go_region
  have HL4 := Lib.hid (show Lo B [gm, gt] W (w3.setCell ⟨gm, 2, none⟩ (.slice (some ⟨g, 0, none⟩) q c)).drew from HL3.out.trans (Lo.of_chg ((Chg.refl [gm] w3).setCell (p := ⟨gm, 2, none⟩) (by simp) _).drew (by simp)))
  have H5 := Lib.hid (H4.out.keep (Chg.refl [] _).drew)
  generalize (w3.setCell ⟨gm, 2, none⟩ (.slice (some ⟨g, 0, none⟩) q c)).drew = w4 at HL4 H5 ⊢
  clear c2 f2 hsub
  go_wp2_with fail
  go_ret
  exact ⟨rfl, ⟨_, _, H5.out⟩, HL4.out⟩
end
end Go.Proofs.Ytnohfdojcdhfoaa
namespace Go.Proofs.Ytnohfdojcdhfoaa
open Go.RowKit
theorem setAll_snoc (v : Int) (j : Nat) : ∀ (l : List Nat) (t : List Int), setAll v (l ++ [j]) t = (setAll v l t).set j v
  | [], t => rfl
  | k :: l, t => by rw [List.cons_append, setAll, setAll_snoc v j l, setAll]
section
variable {W : World} {gm gt B n : Nat} {m : NSt} {vo : Value}
set_option maxHeartbeats 2000000 in
theorem endLoop_none (h : Mt W gm gt B n m vo []) (i : Nat) : Calls Try.prog 115 #[.pointer (some ⟨gm, 0, none⟩), .int .i64 (i : Int)] W (BoolPost false W) := by
  go_enter Try.func115, Try.ntmps115
  go_wp2_with fail
  refine (inner_none h).mono ?_
  rintro e w1 ⟨rfl, hc1⟩
  have HC := Lib.hid (hc1.alloc (.cells #[.bool false, .int .i64 0, .int .i64 0, .slice none 0 0] 169))
  clear hc1 h
  go_wp2_with fail
  go_ret
  exact ⟨rfl, HC.out⟩
set_option maxHeartbeats 2000000 in
theorem endLoop_no {ys : List PV} {x : PV} (h : Mt W gm gt B n m vo (ys ++ [x])) (hn : x.p.loop = false) (i : Nat) : Calls Try.prog 115 #[.pointer (some ⟨gm, 0, none⟩), .int .i64 (i : Int)] W (BoolPost false W) := by
  have hin := inner_some h
  obtain ⟨⟨lp, at_, wt, lf⟩, vx⟩ := x
  obtain ⟨Av, cv, e, _⟩ := own_slice (h.left ⟨⟨lp, at_, wt, lf⟩, vx⟩ (by simp))
  simp only at e
  subst e
  simp only at hin hn
  clear h
  subst hn
  go_enter Try.func115, Try.ntmps115
  go_wp2_with fail
  refine hin.mono ?_
  rintro e w1 ⟨rfl, hc1⟩
  have HC := Lib.hid (hc1.alloc (.cells #[.bool false, .int .i64 (at_ : Int), .int .i64 (wt : Int), .slice Av lf.length cv] 169))
  clear hc1 hin
  go_wp2_with fail
  go_ret
  exact ⟨rfl, HC.out⟩
set_option maxHeartbeats 4000000 in
theorem endLoop_yes {ys : List PV} {x : PV} (h : Mt W gm gt B n m vo (ys ++ [x])) (hl : x.p.loop = true) (i : Nat) (hi : i < n) : Calls Try.prog 115 #[.pointer (some ⟨gm, 0, none⟩), .int .i64 (i : Int)] W
    (NextPost8 gm gt B n ⟨setAll ((i : Int) + 1) x.p.left (m.tO.set i (x.p.at_ : Int)), m.deep, (ys.map (·.p)).reverse⟩ W) := by
  have hin := inner_some h
  obtain ⟨⟨lp, at_, wt, lf⟩, vx⟩ := x
  obtain ⟨Av, cv, e, _⟩ := own_slice (h.left ⟨⟨lp, at_, wt, lf⟩, vx⟩ (by simp))
  simp only at e hl
  subst e hl
  simp only at hin
  have H := Lib.hid h
  clear h
  go_enter Try.func115, Try.ntmps115
  go_wp2_with fail
  refine hin.mono ?_
  rintro e w1 ⟨rfl, hc1⟩
  clear hin
  go_upto_region 2 with fail
  have hal : Chg [] w1 (w1.alloc (.cells #[.bool true, .int .i64 (at_ : Int), .int .i64 (wt : Int), .slice Av lf.length cv] 169)) := (Chg.refl [] w1).alloc _
  have hN : Whole (w1.alloc (.cells #[.bool true, .int .i64 (at_ : Int), .int .i64 (wt : Int), .slice Av lf.length cv] 169)) w1.heap.size 169 [.bool true, .int .i64 (at_ : Int), .int .i64 (wt : Int), .slice Av lf.length cv] := Whole.new w1 169 [.bool true, .int .i64 (at_ : Int), .int .i64 (wt : Int), .slice Av lf.length cv]
  obtain ⟨g5, hg5⟩ : ∃ g, g = w1.heap.size := ⟨_, rfl⟩
  rw [← hg5] at hN ⊢
  generalize w1.alloc (.cells #[.bool true, .int .i64 (at_ : Int), .int .i64 (wt : Int), .slice Av lf.length cv] 169) = w2 at hal hN ⊢
  have HC2 := Lib.hid (hc1.new hal)
  have H2 := Lib.hid (H.out.keep HC2.out)
  have HN := Lib.hid hN
  have HG := Lib.hid (show gt < g5 by rw [hg5]; exact (H.out.to_.keep hc1).lt)
  clear hal hN hc1 hg5
  obtain ⟨b0, b1⟩ := (show w2.cell? ⟨g5, 0, none⟩ = some (.bool true) ∧ w2.cell? ⟨g5, 1, none⟩ = some (.int .i64 (at_ : Int)) from ⟨HN.out.cell 0, HN.out.cell 1⟩)
  have c0 := H2.out.rec_.cell 0
  have t0 : w2.cell? ⟨gt, i, none⟩ = some (.int .i64 (m.tO[i]'(by rw [H2.out.len]; exact hi))) := (H2.out.to_.cell i).trans (nms_get _ _ (by rw [H2.out.len]; exact hi))
  have f0 := H2.out.to_.frozen i
  have hat0 : (0 : Int) ≤ (i : Int) := by omega
  have hat1 : (i : Int) < (n : Int) := by omega
  have hbig := H2.out.big
  go_wp2_with fail
  go_region
  have H3 := Lib.hid ((H2.out.poke i (at_ : Int)).keep (Chg.refl [] _).drew)
  have HL3 := Lib.hid (show Lo B [gm, gt] W (w2.setCell ⟨gt, i, none⟩ (.int .i64 (at_ : Int))).drew from Lo.of_chg ((HC2.out.sub (T' := [gt]) (by simp)).setCell (p := ⟨gt, i, none⟩) (by simp) (.int .i64 (at_ : Int))).drew (by simp))
  have HN3 := Lib.hid (show Whole (w2.setCell ⟨gt, i, none⟩ (.int .i64 (at_ : Int))).drew g5 169 [.bool true, .int .i64 (at_ : Int), .int .i64 (wt : Int), .slice Av lf.length cv] from (HN.out.far (by have := HG.out; simp only; omega) _).drew)
  generalize (w2.setCell ⟨gt, i, none⟩ (.int .i64 (at_ : Int))).drew = w3 at H3 HL3 HN3 ⊢
  clear b0 b1 c0 t0 f0
  have b3 := HN3.out.cell 3
  have hsum : IntKind.i64.wrap ((i : Int) + 1) = (i : Int) + 1 := IntWalk.i64_in _ (by omega)
  obtain ⟨T, hT⟩ : ∃ T, T = m.tO.set i (at_ : Int) := ⟨_, rfl⟩
  rw [← hT] at H3
  have HTT := Lib.hid hT
  obtain ⟨N, hN⟩ : ∃ N, N = lf.length := ⟨_, rfl⟩
  have HLF := Lib.hid (H3.out.wf _ (List.mem_append_right _ (List.mem_singleton_self _))).2.2
  have hNb : N ≤ 100000 := by have := HLF.out.1; simp only at this; omega
  rw [← hN] at b3
  have HNN := Lib.hid hN
  clear hT hN
  go_wp2_with fail
  go_loopw [8, 32] (fun _ s wr => ∃ k : Nat, k ≤ N ∧ s = .int .i64 (k : Int) ∧ Hid (Mt wr gm gt B n ⟨setAll ((i : Int) + 1) (lf.take k) T, m.deep, m.op⟩ vo (ys ++ [⟨⟨true, at_, wt, lf⟩, .slice Av lf.length cv⟩])) ∧ Hid (Lo B [gm, gt] W wr)) (fun _ s _ => N - (intOf s).toNat)
  case atStart => exact ⟨0, Nat.zero_le _, rfl, H3, HL3⟩
  case round =>
    obtain ⟨k, hk, rfl, HM, HLr⟩ := hrel
    by_cases hlt : k < N
    · have hltI : (k : Int) < (N : Int) := by omega
      have hkl : k < lf.length := by rw [← HNN.out]; exact hlt
      obtain ⟨Av', cv', e, _, _, hs, hsp⟩ := own_slice (HM.out.left _ (List.mem_append_right _ (List.mem_singleton_self _)))
      simp only at e
      injection e with e1 _ e3
      subst e1 e3
      obtain ⟨⟨bA, oA, sA⟩, rfl, _, hx⟩ := hs (by rw [nts_len]; simp only; omega)
      obtain rfl : sA = none := (hsp _ rfl).1
      have hx1 := hx k (.int .i64 ((lf[k]'hkl : Nat) : Int)) (by simp [nts, hkl])
      rw [add_plain] at hx1
      have hj := HLF.out.2 lf[k] (List.getElem_mem hkl)
      have HTK := Lib.hid (show lf.take (k + 1) = lf.take k ++ [lf[k]] by rw [List.take_succ_eq_append_getElem hkl])
      generalize lf[k] = j at hx1 hj HTK
      have hj0 : (0 : Int) ≤ (j : Int) := by omega
      have hj1 : (j : Int) < (n : Int) := by omega
      have c0 := HM.out.rec_.cell 0
      obtain ⟨T2, hT2⟩ : ∃ T9, T9 = setAll ((i : Int) + 1) (lf.take k) T := ⟨_, rfl⟩
      have HM' := HM
      rw [← hT2] at HM'
      have t0 : wr.cell? ⟨gt, j, none⟩ = some (.int .i64 (T2[j]'(by rw [HM'.out.len]; exact hj))) := (HM'.out.to_.cell j).trans (nms_get _ _ (by rw [HM'.out.len]; exact hj))
      have f0 := HM'.out.to_.frozen j
      have HMz := Lib.hid (show Mt (wr.setCell ⟨gt, j, none⟩ (.int .i64 ((i : Int) + 1))) gm gt B n ⟨setAll ((i : Int) + 1) (lf.take (k + 1)) T, m.deep, m.op⟩ vo (ys ++ [⟨⟨true, at_, wt, lf⟩, .slice (some ⟨bA, oA, none⟩) lf.length cv⟩]) from by
        have h := HM'.out.poke j ((i : Int) + 1)
        rw [HTK.out, setAll_snoc, ← hT2]
        exact h)
      have HLz := Lib.hid (show Lo B [gm, gt] W (wr.setCell ⟨gt, j, none⟩ (.int .i64 ((i : Int) + 1))) from HLr.out.trans (Lo.of_chg ((Chg.refl [gt] wr).setCell (p := ⟨gt, j, none⟩) (by simp) _) (by simp)))
      clear hx hs hsp hT2
      go_wp2_with fail
      go_roundw
      case rel => exact ⟨k + 1, by omega, by go_num, HMz, HLz⟩
      case measure => simp [intOf]; omega
    · have hltI : ¬ (k : Int) < (N : Int) := by omega
      have H3' := HM
      rw [List.take_of_length_le (by rw [← HNN.out]; omega)] at H3'
      obtain ⟨T2, hT2⟩ : ∃ T2, T2 = setAll ((i : Int) + 1) lf T := ⟨_, rfl⟩
      rw [← hT2] at H3'
      have HT2 := Lib.hid hT2
      clear hT2
      obtain ⟨A, c, rfl, hc1, hc2, _⟩ := rown_slice H3'.out.own
      have hll : (ys ++ [(⟨⟨true, at_, wt, lf⟩, .slice Av lf.length cv⟩ : PV)]).length = ys.length + 1 := by simp
      have c2 := H3'.out.rec_.cell 2
      have f2 := H3'.out.rec_.frozen 2
      rw [hll] at c2 hc1
      obtain ⟨g, rfl, _⟩ := rown_cell H3'.out.own rfl ((pvCs_get _ ys.length _ 2 (by simp) (by omega)).trans (show (pvC ⟨⟨true, at_, wt, lf⟩, .slice Av lf.length cv⟩)[2]? = some (.int .i64 (wt : Int)) from rfl))
      have H4 := Lib.hid (H3'.out.drop rfl)
      have hfew := H3'.out.few
      rw [hll] at hfew
      obtain ⟨q, hq⟩ : ∃ q, q = ys.length := ⟨_, rfl⟩
      rw [← hq] at c2 hfew H4 hc1
      have hsub : IntKind.i64.wrap (((q + 1 : Nat) : Int) - 1) = (q : Int) := by rw [IntWalk.i64_in _ (by omega)]; omega
      have hq0 : (0 : Int) ≤ (q : Int) := by omega
      have hq1 : (q : Int) < ((q + 1 : Nat) : Int) := by omega
      have hq2 : (q : Int) ≤ (c : Int) := by omega
      have hqt : (q : Int).toNat = q := Int.toNat_natCast _
      clear hq hll
      go_wp2_with fail
      go_region
      have HL4 := Lib.hid (show Lo B [gm, gt] W (wr.setCell ⟨gm, 2, none⟩ (.slice (some ⟨g, 0, none⟩) q c)).drew from HLr.out.trans (Lo.of_chg ((Chg.refl [gm] wr).setCell (p := ⟨gm, 2, none⟩) (by simp) _).drew (by simp)))
      have H5 := Lib.hid (H4.out.keep (Chg.refl [] _).drew)
      generalize (wr.setCell ⟨gm, 2, none⟩ (.slice (some ⟨g, 0, none⟩) q c)).drew = w4 at HL4 H5 ⊢
      clear c2 f2 hsub
      go_wp2_with fail
      go_ret
      have h := H5.out
      rw [HT2.out, HTT.out] at h
      exact ⟨rfl, ⟨_, _, h⟩, HL4.out⟩
end
end Go.Proofs.Ytnohfdojcdhfoaa
namespace Go.Proofs.Ytnohfdojcdhfoaa
open Go.RowKit
theorem leaveP_rev (i : Nat) (ys : List NPart) (x : NPart) (hx : x.loop = true) : ∀ zs : List NPart, (∀ z ∈ zs, z.loop = false) → leaveP i (zs ++ x :: ys) = some (zs ++ ⟨x.loop, x.at_, x.waits, x.left ++ [i]⟩ :: ys)
  | [], _ => by simp [leaveP, hx]
  | z :: zs, h => by
    have hz := h z (List.mem_cons_self ..)
    rw [List.cons_append, leaveP, if_neg (by simp [hz]), leaveP_rev i ys x hx zs fun y hy => h y (List.mem_cons_of_mem _ hy)]
    rfl
theorem leaveP_no (i : Nat) : ∀ zs : List NPart, (∀ z ∈ zs, z.loop = false) → leaveP i zs = none
  | [], _ => rfl
  | z :: zs, h => by
    have hz := h z (List.mem_cons_self ..)
    rw [leaveP, if_neg (by simp [hz]), leaveP_no i zs fun y hy => h y (List.mem_cons_of_mem _ hy)]
    rfl
/-- append as a step: where the row lies then is told. -/
theorem step_append_where {P : Program} {w : World} {ops : Array Oper} {o : Oper} {a : Act} {K : Act → World → Prop} {Q : Exit → Act → World → Prop} {E : Prop} (hgd : o.guard = none) (s x : Operand) (t : TypeId)
    (ho : o.op = .call { callee := .builtin .append, args := #[s, x], argTypes := #[t, t] })
    (base : Nat) (e : TypeId) (i : TypeInfo) (z : Value) (bytes : Nat) (ht : P.underlying t = some (.slice e)) (hi : P.info? e = some i) (hz : i.zero = some z)
    (hsize : i.size = 1) (hby : i.bytes = bytes) (hzs : z.cells.size = 1)
    (v : Value) (n : Nat) (xs : List Value) (hse : a.eval s = v) (hown : w.ownsRow base e 1 v n xs)
    (A : Option Addr) (m c : Nat) (news : List Value) (hxe : a.eval x = .slice A m c) (hl : news.length = m) (hs : Src w A news) (h1 : ∀ u ∈ news, u.oneCell' = true)
    (h63 : n + m ≤ maxLen) (hbytes : (n + m) * bytes ≤ 140737488355328) (hbase : base ≤ w.heap.size)
    (h : ∀ v' w', w'.ownsRow base e 1 v' (n + m) (xs ++ news) → w.grownBy w' v.ownBlock → (v'.ownBlock = v.ownBlock ∨ v'.ownBlock = some w.heap.size) → K (a.put o.dst v') w') :
    if Region.wanted o (yielded ops a.tmps) = true then Oper.wp P o a w K Q else E := by
  have hw : Region.wanted o (yielded ops a.tmps) = true := by simp [Region.wanted, hgd]
  rw [if_pos hw]
  obtain ⟨v', w', hrun, h2, h3, h4⟩ := run_append_src (P := P) w base t o.type e i z bytes ht hi hz hsize hby hzs v n xs hown A m c news hl hs h1 h63 hbytes hbase
  unfold Oper.wp execOp
  simp only [ho, resolve, invoke, builtin, Sem.run_bind, Sem.run_pure, Result.andThen_ok, List.map_toArray, List.map_cons, List.map_nil, hse, hxe, hrun]
  exact h v' w' h2 h3 h4
section
variable {W : World} {gm gt B n : Nat} {m : NSt} {vo : Value}
/-- A ~ waits in a part. -/
theorem Mt.leave {ys zs : List PV} {x : PV} {g c q i : Nat} {W1 w' : World} {v' : Value} (h : Mt W gm gt B n m vo (ys ++ x :: zs)) (hv : vo = .slice (some ⟨g, 0, none⟩) q c) (hi : i < n) (hfl : x.p.left.length < n) (hc : Chg [] W W1)
    (ho : w'.ownsRow B 3 1 v' (x.p.left.length + 1) (nts x.p.left ++ [.int .i64 (i : Int)])) (hg : W1.grownBy w' x.v.ownBlock) (hb : v'.ownBlock = x.v.ownBlock ∨ v'.ownBlock = some W1.heap.size) :
    Mt (w'.setCell ⟨g, ys.length * 4 + 3, none⟩ v') gm gt B n ⟨m.tO, m.deep, (zs.map (·.p)).reverse ++ ⟨x.p.loop, x.p.at_, x.p.waits, x.p.left ++ [i]⟩ :: (ys.map (·.p)).reverse⟩ vo (ys ++ ⟨⟨x.p.loop, x.p.at_, x.p.waits, x.p.left ++ [i]⟩, v'⟩ :: zs) := by
  have h1 := h.keep hc
  subst hv
  have hxm := h1.left x (by simp)
  have hq : q = (ys ++ x :: zs).length := by
    rcases h.own.2 with ⟨e, _⟩ | ⟨_, _, _, e, _⟩
    · cases e
    · injection e
  subst hq
  have hB := (h.own.lt g rfl).1
  have hlo := h.lo
  have hopen := rown_grown h1.own hxm (by decide) hg
  have hfar : ∀ {k q2 : Nat} {u : Value} {cs : List Value}, w'.ownsRow B 3 k u q2 cs → (w'.setCell ⟨g, ys.length * 4 + 3, none⟩ v').ownsRow B 3 k u q2 cs := fun hu => rown_far hu (own_ne hopen hu (by decide) rfl)
  have hoth : ∀ y ∈ ys ++ zs, (y.v.ownBlock = none ∨ y.v.ownBlock ≠ x.v.ownBlock) := by
    have hp := h.apart
    rw [List.pairwise_append, List.pairwise_cons] at hp
    intro y hy
    rcases List.mem_append.1 hy with hy | hy
    · exact hp.2.2 y hy x (by simp)
    · rcases hp.2.1.1 y hy with h | h
      · cases hyb : y.v.ownBlock with
        | none => exact .inl rfl
        | some b => exact .inr (by rw [h]; simp)
      · exact .inr (Ne.symm h)
  have hnew : ∀ y ∈ ys ++ zs, (y.v.ownBlock = none ∨ y.v.ownBlock ≠ v'.ownBlock) := fun y hy => by
    rcases hb with e | e
    · rw [e]; exact hoth y hy
    · cases hyb : y.v.ownBlock with
      | none => exact .inl rfl
      | some b =>
        refine .inr (fun hh => ?_)
        rw [e] at hh
        injection hh with hh
        have hm : y ∈ ys ++ x :: zs := by
          rcases List.mem_append.1 hy with hy | hy
          · exact List.mem_append_left _ hy
          · exact List.mem_append_right _ (List.mem_cons_of_mem _ hy)
        have := ((h1.left y hm).lt b hyb).2
        omega
  have hleft : ∀ y ∈ ys ++ zs, (w'.setCell ⟨g, ys.length * 4 + 3, none⟩ v').ownsRow B 3 1 y.v y.p.left.length (nts y.p.left) := fun y hy => by
    have hm : y ∈ ys ++ x :: zs := by
      rcases List.mem_append.1 hy with hy | hy
      · exact List.mem_append_left _ hy
      · exact List.mem_append_right _ (List.mem_cons_of_mem _ hy)
    exact hfar ((h1.left y hm).kept hg (hoth y hy))
  refine ⟨(whole_grown h1.rec_ hxm (by decide) hg).far (by simp only; omega) _, ?_, h.len, by simp, ?_, fun y hy => ?_, ?_, h.lo, by have := h.few; simpa using this, h.deep, fun y hy => ?_, h.big, by rw [size_set]; exact Nat.le_trans h1.room hg.size⟩
  · refine Whole.far ?_ (by simp only; omega) _
    unfold Whole
    rw [hg.block gt h1.to_.lt (fun hc => by have := (hxm.lt gt hc.symm).1; omega)]
    exact h1.to_
  · have ho2 := rown_set (j := ys.length * 4 + 3) (u := v') hopen
    have e1 : (ys ++ (⟨⟨x.p.loop, x.p.at_, x.p.waits, x.p.left ++ [i]⟩, v'⟩ : PV) :: zs).length = (ys ++ x :: zs).length := by simp
    have e2 : (pvCs (ys ++ x :: zs)).set (ys.length * 4 + 3) v' = pvCs (ys ++ ⟨⟨x.p.loop, x.p.at_, x.p.waits, x.p.left ++ [i]⟩, v'⟩ :: zs) := by
      rw [pvCs_app, pvCs_app, pvCs, pvCs, List.set_append_right _ _ (by rw [pvCs_len]; omega), pvCs_len]
      rw [show ys.length * 4 + 3 - ys.length * 4 = 3 by omega]
      rfl
    rw [e1, ← e2]
    exact ho2
  · rcases List.mem_append.1 hy with hy | hy
    · exact hleft y (List.mem_append_left _ hy)
    · rcases List.mem_cons.1 hy with rfl | hy
      · have := hfar ho
        simp only [nts_app, List.length_append, List.length_cons, List.length_nil]
        exact this
      · exact hleft y (List.mem_append_right _ hy)
  · have hp := h.apart
    rw [List.pairwise_append, List.pairwise_cons] at hp ⊢
    refine ⟨hp.1, ⟨fun z hz => ?_, hp.2.1.2⟩, fun y hy z hz => ?_⟩
    · rcases hnew z (List.mem_append_right _ hz) with h | h
      · cases hvb : v'.ownBlock with
        | none => exact .inl (by simp)
        | some b => exact .inr (by simp [h])
      · exact .inr (Ne.symm h)
    · rcases List.mem_cons.1 hz with rfl | hz
      · exact hnew y (List.mem_append_left _ hy)
      · exact hp.2.2 y hy z (List.mem_cons_of_mem _ hz)
  · rcases List.mem_append.1 hy with hy | hy
    · exact h.wf y (List.mem_append_left _ hy)
    · rcases List.mem_cons.1 hy with rfl | hy
      · have := h.wf x (by simp)
        refine ⟨this.1, this.2.1, by simp only [List.length_append, List.length_cons, List.length_nil]; omega, fun j hj => ?_⟩
        rcases List.mem_append.1 hj with hj | hj
        · exact this.2.2.2 j hj
        · simp only [List.mem_cons, List.not_mem_nil, or_false] at hj
          rw [hj]; exact hi
      · exact h.wf y (by simp [hy])
set_option maxHeartbeats 2000000 in
theorem leave_no {xs : List PV} (h : Mt W gm gt B n m vo xs) (hn : ∀ x ∈ xs, x.p.loop = false) (i : Nat) : Calls Try.prog 116 #[.pointer (some ⟨gm, 0, none⟩), .int .i64 (i : Int)] W (BoolPost false W) := by
  have c2 := h.rec_.cell 2
  obtain ⟨A, c, rfl, hc1, hc2, _⟩ := rown_slice h.own
  have H := Lib.hid h
  have HN := Lib.hid hn
  have hfew := h.few
  obtain ⟨q, hq⟩ : ∃ q, q = xs.length := ⟨_, rfl⟩
  rw [← hq] at c2 hfew hc1
  have HQ := Lib.hid hq
  clear h hn hq
  have hsub : ∀ k : Nat, k ≤ 17 → IntKind.i64.wrap ((k : Int) - 1) = (k : Int) - 1 := fun k hk => IntWalk.i64_in _ (by omega)
  have hsq := hsub q (by omega)
  have HSUB := Lib.hid hsub
  clear hsub
  go_enter Try.func116, Try.ntmps116
  go_wp2_with fail
  go_loop [5] (fun s => ∃ k : Nat, k ≤ q ∧ s = .int .i64 ((k : Int) - 1)) (fun s => (intOf s + 1).toNat)
  case atStart => exact ⟨q, Nat.le_refl _, rfl⟩
  case round =>
    obtain ⟨k, hk, rfl⟩ := hrel
    by_cases hlt : 0 < k
    · obtain ⟨j, rfl⟩ : ∃ j, k = j + 1 := ⟨k - 1, by omega⟩
      have he : ((j + 1 : Nat) : Int) - 1 = (j : Int) := by omega
      rw [he]
      have hj0 : (0 : Int) ≤ (j : Int) := by omega
      have hj1 : (j : Int) < (q : Int) := by omega
      have hjx : j < xs.length := by rw [← HQ.out]; omega
      have hlp := HN.out xs[j] (List.getElem_mem hjx)
      obtain ⟨g, rfl, j0⟩ := rown_cell H.out.own (by rw [← HQ.out]) ((pvCs_get xs j xs[j] 0 (List.getElem?_eq_getElem hjx) (by omega)).trans (show (pvC xs[j])[0]? = some (.bool xs[j].p.loop) from rfl))
      rw [Nat.add_zero, hlp] at j0
      have hsj := HSUB.out j (by omega)
      clear hlp hsq
      go_wp2_with fail
      go_round
      case rel => exact ⟨j, by omega, rfl⟩
      case measure => simp [intOf]
    · obtain rfl : k = 0 := by omega
      have hz : ¬ (0 : Int) ≤ ((0 : Nat) : Int) - 1 := by omega
      go_wp2_with fail
      go_ret
      exact ⟨rfl, Chg.refl _ _⟩
set_option maxHeartbeats 4000000 in
set_option maxRecDepth 100000 in
theorem leave_yes {ys zs : List PV} {x : PV} (h : Mt W gm gt B n m vo (ys ++ x :: zs)) (hl : x.p.loop = true) (hn : ∀ z ∈ zs, z.p.loop = false) (i : Nat) (hi : i < n) (hfl : x.p.left.length < n) : Calls Try.prog 116 #[.pointer (some ⟨gm, 0, none⟩), .int .i64 (i : Int)] W
    (NextPost8 gm gt B n ⟨m.tO, m.deep, (zs.map (·.p)).reverse ++ ⟨x.p.loop, x.p.at_, x.p.waits, x.p.left ++ [i]⟩ :: (ys.map (·.p)).reverse⟩ W) := by
  have HHL := Lib.hid hl
  clear hl
  have c2 := h.rec_.cell 2
  obtain ⟨A, c, rfl, hc1, hc2, _⟩ := rown_slice h.own
  have H := Lib.hid h
  have HN := Lib.hid hn
  obtain ⟨i0, hi0, hz0, hz1, hz2⟩ := info_parts info_int
  have hfew := h.few
  obtain ⟨q, hq⟩ : ∃ q, q = (ys ++ x :: zs).length := ⟨_, rfl⟩
  obtain ⟨b, hb⟩ : ∃ b, b = ys.length := ⟨_, rfl⟩
  have hbq : b < q := by rw [hb, hq]; simp
  have hxb : (ys ++ x :: zs)[b]? = some x := by rw [hb]; simp
  have hzs : ∀ (j : Nat) (hj : j < (ys ++ x :: zs).length), b < j → ((ys ++ x :: zs)[j]).p.loop = false := fun j hj hbj => by
    have : (ys ++ x :: zs)[j] ∈ zs := by
      rw [List.getElem_append_right (by omega)]
      obtain ⟨d, hd⟩ : ∃ d, j - ys.length = d + 1 := ⟨j - ys.length - 1, by omega⟩
      simp only [hd, List.getElem_cons_succ]
      exact List.getElem_mem _
    exact hn _ this
  rw [← hq] at c2 hfew hc1
  have HQ := Lib.hid hq
  have HBB := Lib.hid hb
  have HXB := Lib.hid hxb
  have HZS := Lib.hid hzs
  clear h hn hq hb hxb hzs
  have hsub : ∀ k : Nat, k ≤ 17 → IntKind.i64.wrap ((k : Int) - 1) = (k : Int) - 1 := fun k hk => IntWalk.i64_in _ (by omega)
  have hsq := hsub q (by omega)
  have HSUB := Lib.hid hsub
  clear hsub
  go_enter Try.func116, Try.ntmps116
  go_wp2_with fail
  go_loop [5] (fun s => ∃ k : Nat, k ≤ q ∧ b < k ∧ s = .int .i64 ((k : Int) - 1)) (fun s => (intOf s + 1).toNat)
  case atStart => exact ⟨q, Nat.le_refl _, hbq, rfl⟩
  case round =>
    obtain ⟨k, hk, hbk, rfl⟩ := hrel
    obtain ⟨j, rfl⟩ : ∃ j, k = j + 1 := ⟨k - 1, by omega⟩
    have he : ((j + 1 : Nat) : Int) - 1 = (j : Int) := by omega
    rw [he]
    have hj0 : (0 : Int) ≤ (j : Int) := by omega
    have hj1 : (j : Int) < (q : Int) := by omega
    by_cases hlt : b < j
    · have hjx : j < (ys ++ x :: zs).length := by rw [← HQ.out]; omega
      have hlp := HZS.out j hjx hlt
      obtain ⟨g, rfl, j0⟩ := rown_cell H.out.own (by rw [← HQ.out]) ((pvCs_get _ j (ys ++ x :: zs)[j] 0 (List.getElem?_eq_getElem hjx) (by omega)).trans (show (pvC (ys ++ x :: zs)[j])[0]? = some (.bool (ys ++ x :: zs)[j].p.loop) from rfl))
      rw [Nat.add_zero, hlp] at j0
      have hsj := HSUB.out j (by omega)
      clear hlp hsq
      go_wp2_with fail
      go_round
      case rel => exact ⟨j, by omega, by omega, rfl⟩
      case measure => simp [intOf]
    · obtain rfl : b = j := by omega
      obtain ⟨g, rfl, j0⟩ := rown_cell H.out.own (by rw [← HQ.out]) ((pvCs_get _ b x 0 HXB.out (by omega)).trans (show (pvC x)[0]? = some (.bool x.p.loop) from rfl))
      obtain ⟨g', e, j3⟩ := rown_cell H.out.own (by rw [← HQ.out]) ((pvCs_get _ b x 3 HXB.out (by omega)).trans (show (pvC x)[3]? = some x.v from rfl))
      injection e with e; injection e with e; subst e
      rw [Nat.add_zero, HHL.out] at j0
      have hxm := H.out.left x (by simp)
      obtain ⟨Av, cv, e, _⟩ := own_slice hxm
      rw [e] at j3 hxm
      have HE := Lib.hid e
      have HXM := Lib.hid hxm
      have hLL := (H.out.wf x (by simp)).2.2.1
      have hbig := H.out.big
      have hBW : B ≤ W.heap.size := Nat.le_trans (H.out.own.lt g rfl).1 (Nat.le_of_lt (H.out.own.lt g rfl).2)
      clear e hxm hsq
      have q3 : (W.alloc (.cells #[.int .i64 (i : Int)] 3)).cell? ⟨g, b * 4 + 3, none⟩ = some (.slice Av x.p.left.length cv) := cell_keep j3 ((Chg.refl [] W).alloc _)
      have q2 : (W.alloc (.cells #[.int .i64 (i : Int)] 3)).cell? ⟨gm, 2, none⟩ = some (.slice (some ⟨g, 0, none⟩) q c) := cell_keep (by simpa using c2) ((Chg.refl [] W).alloc _)
      go_wp2_with fail
      go_region_law (
        (refine step_append_where rfl (.tmp 36) (.tmp 38) 43 rfl B 3 i0 _ 8 Try.underlying43 hi0 hz0 hz1 hz2 rfl (.slice Av x.p.left.length cv) x.p.left.length (nts x.p.left) rfl (own_keep HXM.out (((Chg.refl [] W).alloc _).drew)) (some ⟨W.heap.size, 0, none⟩) 1 1 [.int .i64 (i : Int)] rfl rfl ((Src.of_all (Whole.new W 3 [.int .i64 (i : Int)])).drew) (by simp [Value.oneCell']) (by unfold maxLen; omega) (by omega) (by simp; omega) ?_
         intro v' w' ho hg hwb
         obtain ⟨A', c', rfl, _⟩ := own_slice ho
         have HO := Lib.hid ho
         have HGR := Lib.hid hg
         have HAL := Lib.hid (show Chg [] W (W.alloc (.cells #[.int .i64 (i : Int)] 3)).drew from ((Chg.refl [] W).alloc _).drew)
         have HO2 := Lib.hid (rown_grown (rown_keep H.out.own HAL.out) (own_keep HXM.out HAL.out) (by decide) hg)
         obtain ⟨g', e, k3⟩ := rown_cell HO2.out (by rw [← HQ.out]) ((pvCs_get _ b x 3 HXB.out (by omega)).trans (show (pvC x)[3]? = some x.v from rfl))
         injection e with e; injection e with e; subst e
         have kf : w'.frozen? ⟨g, b * 4 + 3, none⟩ = false := by
           have h := HO2.out
           rw [← HQ.out] at h
           exact rown_frozen h
         have k2 : w'.cell? ⟨gm, 2, none⟩ = some (.slice (some ⟨g, 0, none⟩) q c) := by
           have h := (whole_grown (H.out.rec_.keep HAL.out) (own_keep HXM.out HAL.out) (by decide) hg).cell 2
           rw [← HQ.out] at h
           simpa using h
         have HWB := Lib.hid hwb
         have hsv : (∀ j, w'.heap.size = j → True) := fun _ _ => trivial
         clear ho hg hwb hsv))
      all_goals
        have HM := Lib.hid (H.out.leave rfl hi hfl HAL.out HO.out (by rw [HE.out]; exact HGR.out) (by rw [HE.out]; exact HWB.out))
        rw [← HBB.out] at HM
        have HL := Lib.hid (show Lo B [gm, gt] W (w'.setCell ⟨g, b * 4 + 3, none⟩ (.slice A' (x.p.left.length + 1) c')) from ((Lo.of_chg HAL.out (by simp)).trans (Lo.of_grown (own_keep HXM.out HAL.out) (Nat.le_refl _) HGR.out)).trans (Lo.of_chg ((Chg.refl [g] w').setCell (p := ⟨g, b * 4 + 3, none⟩) (by simp) _) (by have := (H.out.own.lt g rfl).1; simp; omega)))
        generalize w'.setCell ⟨g, b * 4 + 3, none⟩ (.slice A' (x.p.left.length + 1) c') = w9 at HM HL ⊢
        clear k2 k3 kf
        go_wp2_with fail
        go_ret
        exact ⟨rfl, ⟨_, _, HM.out⟩, HL.out⟩
end
end Go.Proofs.Ytnohfdojcdhfoaa
namespace Go.Proofs.Ytnohfdojcdhfoaa
open Go.RowKit
section
variable {W : World} {gm gt B n : Nat} {m : NSt} {vo : Value} {xs : List PV}
/-- A part is opened. -/
theorem Mt.push {W1 w' : World} {v' : Value} {lp : Bool} {i : Nat} (h : Mt W gm gt B n m vo xs) (hc : Chg [] W W1) (hi : i < n) (hn : xs.length < 16)
    (ho : w'.ownsRow B 169 4 v' (xs.length + 1) (pvCs xs ++ [.bool lp, .int .i64 (i : Int), .int .i64 (i : Int), .slice none 0 0])) (hg : W1.grownBy w' vo.ownBlock) :
    Mt (w'.setCell ⟨gm, 2, none⟩ v') gm gt B n ⟨m.tO, m.deep, ⟨lp, i, i, []⟩ :: m.op⟩ v' (xs ++ [⟨⟨lp, i, i, []⟩, .slice none 0 0⟩]) := by
  have h1 := h.keep hc
  have hlo := h.lo
  have hown : ∀ {e k q : Nat} {v : Value} {cs : List Value}, w'.ownsRow B e k v q cs → v.ownBlock ≠ some gm := fun ho hc => by
    have := (ho.lt gm hc).1; omega
  have hw : Whole w' gm 157 [.slice (some ⟨gt, 0, none⟩) n n, .int .i64 (m.deep : Int), vo] := whole_grown h1.rec_ h1.own (by decide) hg
  refine ⟨?_, (whole_grown h1.to_ h1.own (by decide) hg).far (by simp only; omega) _, h.len, by rw [h.op]; simp, ?_, fun y hy => ?_, ?_, h.lo, by simp; omega, h.deep, fun y hy => ?_, h.big, by rw [size_set]; exact Nat.le_trans h1.room hg.size⟩
  · have := hw.set_ 2 v'
    simpa using this
  · have ho2 := rown_far (u := v') (p := ⟨gm, 2, none⟩) ho (hown ho)
    rw [List.length_append, pvCs_app, pvCs_one]
    exact ho2
  · rcases List.mem_append.1 hy with hy | hy
    · have := rown_grown (h1.left y hy) h1.own (by decide) hg
      exact rown_far this (hown this)
    · simp only [List.mem_cons, List.not_mem_nil, or_false] at hy
      subst hy
      exact ⟨rfl, .inl ⟨rfl, rfl⟩⟩
  · rw [List.pairwise_append]
    refine ⟨h.apart, List.pairwise_singleton _ _, fun y hy z hz => ?_⟩
    simp only [List.mem_cons, List.not_mem_nil, or_false] at hz
    subst hz
    cases hy2 : y.v.ownBlock with
    | none => exact .inl rfl
    | some b => exact .inr (by simp [Value.ownBlock])
  · rcases List.mem_append.1 hy with hy | hy
    · exact h.wf y hy
    · simp only [List.mem_cons, List.not_mem_nil, or_false] at hy
      subst hy
      exact ⟨hi, hi, Nat.zero_le _, fun j hj => by cases hj⟩
/-- How deep. -/
theorem Mt.deeper (h : Mt W gm gt B n m vo xs) (d : Nat) (hd : d ≤ 16) : Mt (W.setCell ⟨gm, 1, none⟩ (.int .i64 (d : Int))) gm gt B n ⟨m.tO, d, m.op⟩ vo xs := by
  have hlo := h.lo
  have hown : ∀ {e k q : Nat} {v : Value} {cs : List Value}, W.ownsRow B e k v q cs → v.ownBlock ≠ some gm := fun ho hc => by
    have := (ho.lt gm hc).1; omega
  refine { h with rec_ := ?_, to_ := h.to_.far (by simp only; omega) _, own := rown_far h.own (hown h.own), left := fun y hy => rown_far (h.left y hy) (hown (h.left y hy)), deep := hd, room := by rw [size_set]; exact h.room }
  have := h.rec_.set_ 1 (.int .i64 (d : Int))
  simpa using this
theorem info_part : (Try.prog.info? 169).map (fun i => (i.zero, i.size, i.bytes)) = some (some (.agg #[.bool false, .int .i64 0, .int .i64 0, .slice none 0 0]), 4, 48) := by kernel_rfl
/-- What a token does. -/
def TakePost8 (gm gt B n i : Nat) (s : Int) (m : NSt) (W : World) (e : Ending) (w' : World) : Prop :=
  (∃ m', nTake i s m = some m' ∧ NextPost8 gm gt B n m' W e w') ∨ (nTake i s m = none ∧ e = .returned (.bool false) ∧ Lo B [gm, gt] W w')
set_option maxHeartbeats 4000000 in
set_option maxRecDepth 100000 in
theorem take_if (h : Mt W gm gt B n m vo xs) (i : Nat) (hi : i < n) : Calls Try.prog 103 #[.pointer (some ⟨gm, 0, none⟩), .int .i64 (i : Int), .int .i32 63] W (TakePost8 gm gt B n i 63 m W) := by
  obtain ⟨i0, hi0, hz0, hz1, hz2⟩ := info_parts info_part
  have hBW := h.room
  obtain ⟨A, c, rfl, hc1, hc2, _⟩ := rown_slice h.own
  have c2 := h.rec_.cell 2
  have hfew := h.few
  have hop : m.op.length = xs.length := by rw [h.op]; simp
  have hdp := h.deep
  have H := Lib.hid h
  obtain ⟨q, hq⟩ : ∃ q, q = xs.length := ⟨_, rfl⟩
  rw [← hq] at c2 hfew hc1
  have HQ := Lib.hid hq
  have HOP := Lib.hid hop
  have HDP := Lib.hid hdp
  have hal : Chg [] W (W.alloc (.cells #[.bool false, .int .i64 (i : Int), .int .i64 (i : Int), .slice none 0 0] 169)) := (Chg.refl [] W).alloc _
  have HAL := Lib.hid hal
  have HO1 := Lib.hid (show (W.alloc (.cells #[.bool false, .int .i64 (i : Int), .int .i64 (i : Int), .slice none 0 0] 169)).ownsRow B 169 4 (.slice A q c) q (pvCs xs) from by
    have h := rown_keep H.out.own hal
    rw [← hq] at h
    exact h)
  have q2 : (W.alloc (.cells #[.bool false, .int .i64 (i : Int), .int .i64 (i : Int), .slice none 0 0] 169)).cell? ⟨gm, 2, none⟩ = some (.slice A q c) := cell_keep (by simpa using c2) hal
  clear h hq hop hdp hal
  go_enter Try.func103, Try.ntmps103
  go_wp2_with (at_builtin
               refine wpList_append_own _ rfl (.tmp 15) (.tmp 21) _ rfl B 169 i0 _ 4 48 Try.underlying155 hi0 hz0 hz1 hz2 rfl (by decide) (.slice A q c) q (pvCs xs) rfl HO1.out ⟨W.heap.size, 0, none⟩ 1 1 [.bool false, .int .i64 (i : Int), .int .i64 (i : Int), .slice none 0 0] rfl rfl ?c1 ?c2 ?c3 ?c4 ?c5 ?_
               case c1 => exact cells_page _ _ _
               case c2 => simp [Value.oneCell']
               case c3 => simp only [maxLen]; omega
               case c4 => omega
               case c5 => simp; omega
               intro v' w6 ho6 hg6 _
               obtain ⟨A6, c6, rfl, hc61, _, _⟩ := rown_slice ho6
               have HO6 := Lib.hid ho6
               have HG6 := Lib.hid hg6
               have HW6 := Lib.hid (whole_grown (H.out.rec_.keep HAL.out) HO1.out (by decide) hg6)
               have k2 : w6.cell? ⟨gm, 2, none⟩ = some (.slice A q c) := by
                 have h := HW6.out.cell 2
                 rw [← HQ.out] at h
                 simpa using h
               have f2 := HW6.out.frozen 2
               clear ho6 hg6)
  go_upto_region 5 with fail
  have HW7 := Lib.hid (HW6.out.set_ 2 (.slice A6 (q + 1) c6))
  simp only [List.set_cons_zero, List.set_cons_succ] at HW7
  have HL7 := Lib.hid (show Lo B [gm, gt] W (w6.setCell ⟨gm, 2, none⟩ (.slice A6 (q + 1) c6)) from ((Lo.of_chg HAL.out (by simp)).trans (Lo.of_grown HO1.out (Nat.le_refl _) HG6.out)).trans (Lo.of_chg ((Chg.refl [gm] w6).setCell (p := ⟨gm, 2, none⟩) (by simp) _) (by simp)))
  have HM7 := Lib.hid (fun hq16 : xs.length < 16 => show Mt (w6.setCell ⟨gm, 2, none⟩ (.slice A6 (q + 1) c6)) gm gt B n ⟨m.tO, m.deep, ⟨false, i, i, []⟩ :: m.op⟩ (.slice A6 (q + 1) c6) (xs ++ [⟨⟨false, i, i, []⟩, .slice none 0 0⟩]) from H.out.push HAL.out hi hq16 (by rw [← HQ.out]; exact HO6.out) (by rw [← HQ.out]; exact HG6.out))
  generalize w6.setCell ⟨gm, 2, none⟩ (.slice A6 (q + 1) c6) = w7 at HW7 HL7 HM7 ⊢
  clear k2 f2 c2 q2
  have k1 := HW7.out.cell 1
  have k2 := HW7.out.cell 2
  have f1 := HW7.out.frozen 1
  go_wp2_with fail
  go_region
  have hmx : max (m.deep : Int) ((q : Int) + 1) = ((max m.deep (q + 1) : Nat) : Int) := by omega
  rw [hmx]
  clear hmx
  have HL8 := Lib.hid (show Lo B [gm, gt] W (w7.setCell ⟨gm, 1, none⟩ (.int .i64 ((max m.deep (q + 1) : Nat) : Int))).drew from HL7.out.trans (Lo.of_chg ((Chg.refl [gm] w7).setCell (p := ⟨gm, 1, none⟩) (by simp) _).drew (by simp)))
  have HW8 := Lib.hid (HW7.out.set_ 1 (.int .i64 ((max m.deep (q + 1) : Nat) : Int))).drew
  have HM8 := Lib.hid (fun hq16 : xs.length < 16 => (((HM7.out hq16).deeper (max m.deep (q + 1)) (by have := HDP.out; have := HQ.out; omega)).keep (Chg.refl [] _).drew))
  generalize (w7.setCell ⟨gm, 1, none⟩ (.int .i64 ((max m.deep (q + 1) : Nat) : Int))).drew = w8 at HL8 HW8 HM8 ⊢
  clear k1 k2 f1
  have k2 := HW8.out.cell 2
  by_cases hq16 : q < 16
  · have hle : (q : Int) + 1 ≤ 16 := by omega
    have HPO := Lib.hid (show TakePost8 gm gt B n i 63 m W (.returned (.bool true)) w8 from .inl ⟨_, by unfold nTake; rw [if_pos (by decide), HOP.out, ← HQ.out, if_pos (by omega)]; rfl, rfl, ⟨_, _, HM8.out (by rw [← HQ.out]; exact hq16)⟩, HL8.out⟩)
    go_wp2_with fail
    go_ret
    exact HPO.out
  · have hle : ¬ (q : Int) + 1 ≤ 16 := by omega
    have HPO := Lib.hid (show TakePost8 gm gt B n i 63 m W (.returned (.bool false)) w8 from .inr ⟨by unfold nTake; rw [if_pos (by decide), HOP.out, ← HQ.out, if_neg (by omega)], rfl, HL8.out⟩)
    go_wp2_with fail
    go_ret
    exact HPO.out
set_option maxHeartbeats 4000000 in
set_option maxRecDepth 100000 in
theorem take_loop (h : Mt W gm gt B n m vo xs) (i : Nat) (hi : i < n) : Calls Try.prog 103 #[.pointer (some ⟨gm, 0, none⟩), .int .i64 (i : Int), .int .i32 91] W (TakePost8 gm gt B n i 91 m W) := by
  obtain ⟨i0, hi0, hz0, hz1, hz2⟩ := info_parts info_part
  have hBW := h.room
  obtain ⟨A, c, rfl, hc1, hc2, _⟩ := rown_slice h.own
  have c2 := h.rec_.cell 2
  have hfew := h.few
  have hop : m.op.length = xs.length := by rw [h.op]; simp
  have hdp := h.deep
  have H := Lib.hid h
  obtain ⟨q, hq⟩ : ∃ q, q = xs.length := ⟨_, rfl⟩
  rw [← hq] at c2 hfew hc1
  have HQ := Lib.hid hq
  have HOP := Lib.hid hop
  have HDP := Lib.hid hdp
  have hal : Chg [] W (W.alloc (.cells #[.bool true, .int .i64 (i : Int), .int .i64 (i : Int), .slice none 0 0] 169)) := (Chg.refl [] W).alloc _
  have HAL := Lib.hid hal
  have HO1 := Lib.hid (show (W.alloc (.cells #[.bool true, .int .i64 (i : Int), .int .i64 (i : Int), .slice none 0 0] 169)).ownsRow B 169 4 (.slice A q c) q (pvCs xs) from by
    have h := rown_keep H.out.own hal
    rw [← hq] at h
    exact h)
  have q2 : (W.alloc (.cells #[.bool true, .int .i64 (i : Int), .int .i64 (i : Int), .slice none 0 0] 169)).cell? ⟨gm, 2, none⟩ = some (.slice A q c) := cell_keep (by simpa using c2) hal
  clear h hq hop hdp hal
  go_enter Try.func103, Try.ntmps103
  go_wp2_with (at_builtin
               refine wpList_append_own _ rfl (.tmp 15) (.tmp 21) _ rfl B 169 i0 _ 4 48 Try.underlying155 hi0 hz0 hz1 hz2 rfl (by decide) (.slice A q c) q (pvCs xs) rfl HO1.out ⟨W.heap.size, 0, none⟩ 1 1 [.bool true, .int .i64 (i : Int), .int .i64 (i : Int), .slice none 0 0] rfl rfl ?c1 ?c2 ?c3 ?c4 ?c5 ?_
               case c1 => exact cells_page _ _ _
               case c2 => simp [Value.oneCell']
               case c3 => simp only [maxLen]; omega
               case c4 => omega
               case c5 => simp; omega
               intro v' w6 ho6 hg6 _
               obtain ⟨A6, c6, rfl, hc61, _, _⟩ := rown_slice ho6
               have HO6 := Lib.hid ho6
               have HG6 := Lib.hid hg6
               have HW6 := Lib.hid (whole_grown (H.out.rec_.keep HAL.out) HO1.out (by decide) hg6)
               have k2 : w6.cell? ⟨gm, 2, none⟩ = some (.slice A q c) := by
                 have h := HW6.out.cell 2
                 rw [← HQ.out] at h
                 simpa using h
               have f2 := HW6.out.frozen 2
               clear ho6 hg6)
  go_upto_region 5 with fail
  have HW7 := Lib.hid (HW6.out.set_ 2 (.slice A6 (q + 1) c6))
  simp only [List.set_cons_zero, List.set_cons_succ] at HW7
  have HL7 := Lib.hid (show Lo B [gm, gt] W (w6.setCell ⟨gm, 2, none⟩ (.slice A6 (q + 1) c6)) from ((Lo.of_chg HAL.out (by simp)).trans (Lo.of_grown HO1.out (Nat.le_refl _) HG6.out)).trans (Lo.of_chg ((Chg.refl [gm] w6).setCell (p := ⟨gm, 2, none⟩) (by simp) _) (by simp)))
  have HM7 := Lib.hid (fun hq16 : xs.length < 16 => show Mt (w6.setCell ⟨gm, 2, none⟩ (.slice A6 (q + 1) c6)) gm gt B n ⟨m.tO, m.deep, ⟨true, i, i, []⟩ :: m.op⟩ (.slice A6 (q + 1) c6) (xs ++ [⟨⟨true, i, i, []⟩, .slice none 0 0⟩]) from H.out.push HAL.out hi hq16 (by rw [← HQ.out]; exact HO6.out) (by rw [← HQ.out]; exact HG6.out))
  generalize w6.setCell ⟨gm, 2, none⟩ (.slice A6 (q + 1) c6) = w7 at HW7 HL7 HM7 ⊢
  clear k2 f2 c2 q2
  have k1 := HW7.out.cell 1
  have k2 := HW7.out.cell 2
  have f1 := HW7.out.frozen 1
  go_wp2_with fail
  go_region
  have hmx : max (m.deep : Int) ((q : Int) + 1) = ((max m.deep (q + 1) : Nat) : Int) := by omega
  rw [hmx]
  clear hmx
  have HL8 := Lib.hid (show Lo B [gm, gt] W (w7.setCell ⟨gm, 1, none⟩ (.int .i64 ((max m.deep (q + 1) : Nat) : Int))).drew from HL7.out.trans (Lo.of_chg ((Chg.refl [gm] w7).setCell (p := ⟨gm, 1, none⟩) (by simp) _).drew (by simp)))
  have HW8 := Lib.hid (HW7.out.set_ 1 (.int .i64 ((max m.deep (q + 1) : Nat) : Int))).drew
  have HM8 := Lib.hid (fun hq16 : xs.length < 16 => (((HM7.out hq16).deeper (max m.deep (q + 1)) (by have := HDP.out; have := HQ.out; omega)).keep (Chg.refl [] _).drew))
  generalize (w7.setCell ⟨gm, 1, none⟩ (.int .i64 ((max m.deep (q + 1) : Nat) : Int))).drew = w8 at HL8 HW8 HM8 ⊢
  clear k1 k2 f1
  have k2 := HW8.out.cell 2
  by_cases hq16 : q < 16
  · have hle : (q : Int) + 1 ≤ 16 := by omega
    have HPO := Lib.hid (show TakePost8 gm gt B n i 91 m W (.returned (.bool true)) w8 from .inl ⟨_, by unfold nTake; rw [if_pos (by decide), HOP.out, ← HQ.out, if_pos (by omega)]; rfl, rfl, ⟨_, _, HM8.out (by rw [← HQ.out]; exact hq16)⟩, HL8.out⟩)
    go_wp2_with fail
    go_ret
    exact HPO.out
  · have hle : ¬ (q : Int) + 1 ≤ 16 := by omega
    have HPO := Lib.hid (show TakePost8 gm gt B n i 91 m W (.returned (.bool false)) w8 from .inr ⟨by unfold nTake; rw [if_pos (by decide), HOP.out, ← HQ.out, if_neg (by omega)], rfl, HL8.out⟩)
    go_wp2_with fail
    go_ret
    exact HPO.out
set_option maxHeartbeats 1000000 in
theorem take_halve {i : Nat} {Q : Bool → World → Prop} (h : Calls Try.prog 113 #[.pointer (some ⟨gm, 0, none⟩), .int .i64 (i : Int)] W fun e w' => ∃ b, e = .returned (.bool b) ∧ Hid (Q b w')) :
    Calls Try.prog 103 #[.pointer (some ⟨gm, 0, none⟩), .int .i64 (i : Int), .int .i32 58] W fun e w' => ∃ b, e = .returned (.bool b) ∧ Hid (Q b w') := by
  go_enter Try.func103, Try.ntmps103
  go_wp2_with fail
  refine h.mono ?_
  rintro e w1 ⟨b, rfl, hq⟩
  clear h
  go_wp2_with fail
  go_ret
  exact ⟨_, rfl, hq⟩
set_option maxHeartbeats 1000000 in
theorem take_endIf {i : Nat} {Q : Bool → World → Prop} (h : Calls Try.prog 114 #[.pointer (some ⟨gm, 0, none⟩), .int .i64 (i : Int)] W fun e w' => ∃ b, e = .returned (.bool b) ∧ Hid (Q b w')) :
    Calls Try.prog 103 #[.pointer (some ⟨gm, 0, none⟩), .int .i64 (i : Int), .int .i32 59] W fun e w' => ∃ b, e = .returned (.bool b) ∧ Hid (Q b w') := by
  go_enter Try.func103, Try.ntmps103
  go_wp2_with fail
  refine h.mono ?_
  rintro e w1 ⟨b, rfl, hq⟩
  clear h
  go_wp2_with fail
  go_ret
  exact ⟨_, rfl, hq⟩
set_option maxHeartbeats 1000000 in
theorem take_endLoop {i : Nat} {Q : Bool → World → Prop} (h : Calls Try.prog 115 #[.pointer (some ⟨gm, 0, none⟩), .int .i64 (i : Int)] W fun e w' => ∃ b, e = .returned (.bool b) ∧ Hid (Q b w')) :
    Calls Try.prog 103 #[.pointer (some ⟨gm, 0, none⟩), .int .i64 (i : Int), .int .i32 93] W fun e w' => ∃ b, e = .returned (.bool b) ∧ Hid (Q b w') := by
  go_enter Try.func103, Try.ntmps103
  go_wp2_with fail
  refine h.mono ?_
  rintro e w1 ⟨b, rfl, hq⟩
  clear h
  go_wp2_with fail
  go_ret
  exact ⟨_, rfl, hq⟩
set_option maxHeartbeats 1000000 in
theorem take_leave {i : Nat} {Q : Bool → World → Prop} (h : Calls Try.prog 116 #[.pointer (some ⟨gm, 0, none⟩), .int .i64 (i : Int)] W fun e w' => ∃ b, e = .returned (.bool b) ∧ Hid (Q b w')) :
    Calls Try.prog 103 #[.pointer (some ⟨gm, 0, none⟩), .int .i64 (i : Int), .int .i32 126] W fun e w' => ∃ b, e = .returned (.bool b) ∧ Hid (Q b w') := by
  go_enter Try.func103, Try.ntmps103
  go_wp2_with fail
  refine h.mono ?_
  rintro e w1 ⟨b, rfl, hq⟩
  clear h
  go_wp2_with fail
  go_ret
  exact ⟨_, rfl, hq⟩
set_option maxHeartbeats 1000000 in
theorem take_plain {i : Nat} (s : Int) (h1 : s ≠ 63) (h2 : s ≠ 91) (h3 : s ≠ 58) (h4 : s ≠ 59) (h5 : s ≠ 93) (h6 : s ≠ 126) :
    Calls Try.prog 103 #[.pointer (some ⟨gm, 0, none⟩), .int .i64 (i : Int), .int .i32 s] W fun e w' => e = .returned (.bool true) ∧ W = w' := by
  have k1 : (s == 63) = false := by simpa using h1
  have k2 : (s == 91) = false := by simpa using h2
  have k3 : (s == 58) = false := by simpa using h3
  have k4 : (s == 59) = false := by simpa using h4
  have k5 : (s == 93) = false := by simpa using h5
  have k6 : (s == 126) = false := by simpa using h6
  clear h1 h2 h3 h4 h5 h6
  go_enter Try.func103, Try.ntmps103
  go_wp2_with fail
  go_ret
  exact ⟨rfl, rfl⟩
/-- No part has more ~ than there were tokens. -/
def Few (i : Nat) (m : NSt) : Prop := ∀ p ∈ m.op, p.left.length ≤ i
theorem few_leave {i : Nat} : ∀ {l o : List NPart}, (∀ p ∈ l, p.left.length ≤ i) → leaveP i l = some o → ∀ p ∈ o, p.left.length ≤ i + 1 := fun {l o} h ho => by
  obtain ⟨a, p, r, rfl, _, _, rfl⟩ := leaveP_split ho
  intro q hq
  rcases List.mem_append.1 hq with hq | hq
  · have := h q (List.mem_append_left _ hq); omega
  · rcases List.mem_cons.1 hq with rfl | hq
    · have := h p (by simp); simp; omega
    · have := h q (by simp [hq]); omega
theorem few_take {i : Nat} {s : Int} {m m' : NSt} (h : Few i m) (ht : nTake i s m = some m') : Few (i + 1) m' := by
  have hm : ∀ p ∈ m.op, p.left.length ≤ i + 1 := fun p hp => by have := h p hp; omega
  unfold nTake at ht
  split at ht
  · split at ht
    · injection ht with ht; subst ht
      intro p hp
      rcases List.mem_cons.1 hp with rfl | hp
      · simp
      · exact hm p hp
    · cases ht
  split at ht
  · split at ht
    · rename_i p r hop
      split at ht
      · injection ht with ht; subst ht
        intro q hq
        rcases List.mem_cons.1 hq with rfl | hq
        · exact hm p (by rw [hop]; simp)
        · exact hm q (by rw [hop]; simp [hq])
      · cases ht
    · cases ht
  split at ht
  · split at ht
    · rename_i p r hop
      split at ht
      · injection ht with ht; subst ht
        exact fun q hq => hm q (by rw [hop]; simp only at hq; simp [hq])
      · cases ht
    · cases ht
  split at ht
  · split at ht
    · rename_i p r hop
      split at ht
      · injection ht with ht; subst ht
        exact fun q hq => hm q (by rw [hop]; simp only at hq; simp [hq])
      · cases ht
    · cases ht
  split at ht
  · cases ho : leaveP i m.op with
    | none => rw [ho] at ht; cases ht
    | some o =>
      rw [ho] at ht
      injection ht with ht; subst ht
      exact few_leave h ho
  · injection ht with ht; subst ht
    exact hm
theorem last_split {α : Type} (l : List α) : l = [] ∨ ∃ ys x, l = ys ++ [x] := by
  rcases List.eq_nil_or_concat l with h | ⟨ys, x, h⟩
  · exact .inl h
  · exact .inr ⟨ys, x, by simpa using h⟩
theorem loop_split : ∀ l : List PV, (∀ x ∈ l, x.p.loop = false) ∨ ∃ ys x zs, l = ys ++ x :: zs ∧ x.p.loop = true ∧ ∀ z ∈ zs, z.p.loop = false
  | [] => .inl fun x hx => by cases hx
  | a :: l => by
    rcases loop_split l with h | ⟨ys, x, zs, rfl, h1, h2⟩
    · by_cases hl : a.p.loop = true
      · exact .inr ⟨[], a, l, rfl, hl, h⟩
      · refine .inl fun x hx => ?_
        rcases List.mem_cons.1 hx with rfl | hx
        · simpa using hl
        · exact h x hx
    · exact .inr ⟨a :: ys, x, zs, rfl, h1, h2⟩
theorem take_any (h : Mt W gm gt B n m vo xs) (i : Nat) (hi : i < n) (s : Int) (hf : Few i m) : Calls Try.prog 103 #[.pointer (some ⟨gm, 0, none⟩), .int .i64 (i : Int), .int .i32 s] W (TakePost8 gm gt B n i s m W) := by
  have hlo : ∀ {w' : World}, Chg [] W w' → Lo B [gm, gt] W w' := fun hc => Lo.of_chg hc (by simp)
  by_cases s1 : s = 63
  · subst s1; exact take_if h i hi
  by_cases s2 : s = 91
  · subst s2; exact take_loop h i hi
  have e12 : ¬ (s = 63 ∨ s = 91) := by simp [s1, s2]
  have hop := h.op
  by_cases s3 : s = 58
  · subst s3
    refine (take_halve (Q := fun b w' => TakePost8 gm gt B n i 58 m W (.returned (.bool b)) w') ?_).mono fun e w' ⟨b, he, hq⟩ => by rw [he]; exact hq.out
    rcases last_split xs with rfl | ⟨ys, x, rfl⟩
    · refine (halve_none h i).mono fun e w' ⟨he, hc⟩ => ⟨false, he, Lib.hid (.inr ⟨?_, rfl, hlo hc⟩)⟩
      simp only [List.map_nil, List.reverse_nil] at hop
      unfold nTake; rw [if_neg e12, if_pos rfl, hop]
    · simp only [List.map_append, List.map_cons, List.map_nil, List.reverse_append, List.reverse_cons, List.reverse_nil, List.nil_append, List.cons_append] at hop
      by_cases hc : x.p.loop = false ∧ x.p.waits = x.p.at_
      · refine (halve_yes h hc.1 hc.2 i hi).mono fun e w' hp => ⟨true, hp.1, Lib.hid (.inl ⟨_, ?_, hp.1 ▸ hp⟩)⟩
        unfold nTake; rw [if_neg e12, if_pos rfl, hop]; simp only; rw [if_pos hc]
      · refine (halve_no h (by
          by_cases hl : x.p.loop = true
          · exact .inl hl
          · exact .inr fun e => hc ⟨by simpa using hl, e⟩) i).mono fun e w' ⟨he, hcc⟩ => ⟨false, he, Lib.hid (.inr ⟨?_, rfl, hlo hcc⟩)⟩
        unfold nTake; rw [if_neg e12, if_pos rfl, hop]; simp only; rw [if_neg hc]
  by_cases s4 : s = 59
  · subst s4
    refine (take_endIf (Q := fun b w' => TakePost8 gm gt B n i 59 m W (.returned (.bool b)) w') ?_).mono fun e w' ⟨b, he, hq⟩ => by rw [he]; exact hq.out
    rcases last_split xs with rfl | ⟨ys, x, rfl⟩
    · refine (endIf_none h i).mono fun e w' ⟨he, hc⟩ => ⟨false, he, Lib.hid (.inr ⟨?_, rfl, hlo hc⟩)⟩
      simp only [List.map_nil, List.reverse_nil] at hop
      unfold nTake; rw [if_neg e12, if_neg s3, if_pos rfl, hop]
    · simp only [List.map_append, List.map_cons, List.map_nil, List.reverse_append, List.reverse_cons, List.reverse_nil, List.nil_append, List.cons_append] at hop
      by_cases hc : x.p.loop = false
      · refine (endIf_yes h hc i).mono fun e w' hp => ⟨true, hp.1, Lib.hid (.inl ⟨_, ?_, hp.1 ▸ hp⟩)⟩
        unfold nTake; rw [if_neg e12, if_neg s3, if_pos rfl, hop]; simp only; rw [if_pos hc]
      · refine (endIf_no h (by simpa using hc) i).mono fun e w' ⟨he, hcc⟩ => ⟨false, he, Lib.hid (.inr ⟨?_, rfl, hlo hcc⟩)⟩
        unfold nTake; rw [if_neg e12, if_neg s3, if_pos rfl, hop]; simp only; rw [if_neg hc]
  by_cases s5 : s = 93
  · subst s5
    refine (take_endLoop (Q := fun b w' => TakePost8 gm gt B n i 93 m W (.returned (.bool b)) w') ?_).mono fun e w' ⟨b, he, hq⟩ => by rw [he]; exact hq.out
    rcases last_split xs with rfl | ⟨ys, x, rfl⟩
    · refine (endLoop_none h i).mono fun e w' ⟨he, hc⟩ => ⟨false, he, Lib.hid (.inr ⟨?_, rfl, hlo hc⟩)⟩
      simp only [List.map_nil, List.reverse_nil] at hop
      unfold nTake; rw [if_neg e12, if_neg s3, if_neg s4, if_pos rfl, hop]
    · simp only [List.map_append, List.map_cons, List.map_nil, List.reverse_append, List.reverse_cons, List.reverse_nil, List.nil_append, List.cons_append] at hop
      by_cases hc : x.p.loop = true
      · refine (endLoop_yes h hc i hi).mono fun e w' hp => ⟨true, hp.1, Lib.hid (.inl ⟨_, ?_, hp.1 ▸ hp⟩)⟩
        unfold nTake; rw [if_neg e12, if_neg s3, if_neg s4, if_pos rfl, hop]; simp only; rw [if_pos hc]
      · refine (endLoop_no h (by simpa using hc) i).mono fun e w' ⟨he, hcc⟩ => ⟨false, he, Lib.hid (.inr ⟨?_, rfl, hlo hcc⟩)⟩
        unfold nTake; rw [if_neg e12, if_neg s3, if_neg s4, if_pos rfl, hop]; simp only; rw [if_neg hc]
  by_cases s6 : s = 126
  · subst s6
    refine (take_leave (Q := fun b w' => TakePost8 gm gt B n i 126 m W (.returned (.bool b)) w') ?_).mono fun e w' ⟨b, he, hq⟩ => by rw [he]; exact hq.out
    rcases loop_split xs with hno | ⟨ys, x, zs, rfl, hx, hz⟩
    · refine (leave_no h hno i).mono fun e w' ⟨he, hc⟩ => ⟨false, he, Lib.hid (.inr ⟨?_, rfl, hlo hc⟩)⟩
      unfold nTake; rw [if_neg e12, if_neg s3, if_neg s4, if_neg s5, if_pos rfl, hop, leaveP_no]
      · rfl
      · intro z hz
        simp only [List.mem_reverse, List.mem_map] at hz
        obtain ⟨y, hy, rfl⟩ := hz
        exact hno y hy
    · have hop2 : m.op = (zs.map (·.p)).reverse ++ x.p :: (ys.map (·.p)).reverse := by rw [hop]; simp
      have hfx : x.p.left.length ≤ i := hf x.p (by rw [hop2]; simp)
      refine (leave_yes h hx hz i hi (by omega)).mono fun e w' hp => ⟨true, hp.1, Lib.hid (.inl ⟨_, ?_, hp.1 ▸ hp⟩)⟩
      unfold nTake; rw [if_neg e12, if_neg s3, if_neg s4, if_neg s5, if_pos rfl, hop2, leaveP_rev i _ _ hx]
      · rfl
      · intro z hz2
        simp only [List.mem_reverse, List.mem_map] at hz2
        obtain ⟨y, hy, rfl⟩ := hz2
        exact hz y hy
  · refine (take_plain s s1 s2 s3 s4 s5 s6).mono fun e w' ⟨he, hw⟩ => ?_
    subst hw
    exact .inl ⟨m, by unfold nTake; rw [if_neg e12, if_neg s3, if_neg s4, if_neg s5, if_neg s6], he, ⟨_, _, h⟩, Lo.refl _ _ _⟩
end
end Go.Proofs.Ytnohfdojcdhfoaa
namespace Go.Proofs.Ytnohfdojcdhfoaa
open Go.RowKit
theorem make_ints (W : World) (n : Nat) (hn : n ≤ 100000) : (Instr.makeSlice 43 (.int .i64 (n : Int)) (.int .i64 (n : Int))).run Try.prog W = .ok (.slice (some ⟨W.heap.size, 0, none⟩) n n) (W.alloc (.cells (nms (List.replicate n 0)).toArray 3)) := by
  obtain ⟨i, hi, hz, hs1, hb⟩ := info_parts info_int
  have : nms (List.replicate n 0) = List.replicate n (.int .i64 0) := by simp [nms]
  rw [this]
  exact run_make1 43 3 i (.int .i64 0) rfl Try.underlying43 hi hz hs1 n (by rw [hb]; omega) (by omega) W
/-- What match answers. -/
def MatchPost (n : Nat) (r : Option (List Int × Nat)) (W : World) (e : Ending) (w' : World) : Prop :=
  Chg [] W w' ∧ ((∃ t d g, r = some (t, d) ∧ t.length = n ∧ e = .returned (.tuple #[.slice (some ⟨g, 0, none⟩) n n, .int .i64 (d : Int), .bool true]) ∧ Whole w' g 3 (nms t) ∧ d ≤ 16) ∨
    (r = none ∧ ∃ v d, e = .returned (.tuple #[v, .int .i64 d, .bool false])))
section
variable {W : World} {A : Option Addr} {n c : Nat} {l : List TkV}
set_option maxHeartbeats 4000000 in
set_option maxRecDepth 100000 in
theorem match_any (h : Tks W A n c l) : Calls Try.prog 79 #[.slice A n c] W (MatchPost n (nNest (signs l)) W) := by
  have hmax := h.max
  have hmk := fun W : World => make_ints W n hmax
  have H := Lib.hid h
  have hsl : (signs l).length = n := by unfold signs; rw [List.length_map]; exact h.len
  have HSL := Lib.hid hsl
  clear h hsl
  go_enter Try.func79, Try.ntmps79
  go_upto_region 2 with fail
  have hT := Whole.new W 3 (nms (List.replicate n 0))
  have hc1 : Chg [] W (W.alloc (.cells (nms (List.replicate n 0)).toArray 3)) := (Chg.refl [] W).alloc _
  obtain ⟨gt, hgt⟩ : ∃ g, g = W.heap.size := ⟨_, rfl⟩
  rw [← hgt] at hT
  have hsz : (W.alloc (.cells (nms (List.replicate n 0)).toArray 3)).heap.size = gt + 1 := by rw [hgt]; simp
  have hM := Whole.new (W.alloc (.cells (nms (List.replicate n 0)).toArray 3)) 157 [.slice (some ⟨gt, 0, none⟩) n n, .int .i64 0, .slice none 0 0]
  rw [hsz] at hM
  have hal2 : Chg [] (W.alloc (.cells (nms (List.replicate n 0)).toArray 3)) ((W.alloc (.cells (nms (List.replicate n 0)).toArray 3)).alloc (.cells #[.slice (some ⟨gt, 0, none⟩) n n, .int .i64 0, .slice none 0 0] 157)) := (Chg.refl [] _).alloc _
  have hT2 := hT.keep hal2
  have hc2 := hc1.new hal2
  have hsz2 : ((W.alloc (.cells (nms (List.replicate n 0)).toArray 3)).alloc (.cells #[.slice (some ⟨gt, 0, none⟩) n n, .int .i64 0, .slice none 0 0] 157)).heap.size = gt + 2 := by rw [hgt]; simp
  rw [← hgt]
  generalize (W.alloc (.cells (nms (List.replicate n 0)).toArray 3)).alloc (.cells #[.slice (some ⟨gt, 0, none⟩) n n, .int .i64 0, .slice none 0 0] 157) = w2 at hM hT2 hc2 hsz2 ⊢
  have HM0 := Lib.hid (show Mt w2 (gt + 1) gt (gt + 2) n ⟨List.replicate (signs l).length 0, 0, []⟩ (.slice none 0 0) [] from
    ⟨hM, by rw [HSL.out]; exact hT2, by rw [List.length_replicate]; exact HSL.out, rfl, World.ownsRow_nil _ _ _ _, fun x hx => (by cases hx), List.Pairwise.nil, by omega, by simp, by simp, fun x hx => (by cases hx), hmax, by omega⟩)
  have HC2 := Lib.hid hc2
  have HGT := Lib.hid hgt
  clear hT hc1 hsz hM hal2 hT2 hc2 hsz2 hgt hmk
  go_wp2_with fail
  go_loopw [6, 7, 14] (fun _ _ s wr => ∃ k : Nat, k ≤ n ∧ s = .int .i64 (k : Int) ∧ (∃ m vo xs, Hid (Mt wr (gt + 1) gt (gt + 2) n m vo xs) ∧ Few k m ∧ nRun 0 (signs l) ⟨List.replicate (signs l).length 0, 0, []⟩ = nRun k ((signs l).drop k) m) ∧ Hid (Chg [] W wr)) (fun _ _ s _ => n - (intOf s).toNat)
  case atStart => exact ⟨0, Nat.zero_le _, rfl, ⟨_, _, _, HM0, fun p hp => (by cases hp), rfl⟩, HC2⟩
  case round =>
    obtain ⟨k, hk, rfl, ⟨m, vo, xs, HM, hfew, hrun⟩, HCr⟩ := hrel
    have HF := Lib.hid hfew
    have HRUN := Lib.hid hrun
    clear hfew hrun
    by_cases hlt : k < n
    · have hltI : (k : Int) < (n : Int) := by omega
      have hk0 : (0 : Int) ≤ (k : Int) := by omega
      have hkl : k < l.length := by rw [H.out.len]; exact hlt
      obtain ⟨b, o, rfl, hb, t0, t1, t2⟩ := (H.out.keep HCr.out).cell (List.getElem?_eq_getElem hkl)
      have HS := Lib.hid (show (signs l).drop k = (l[k]).sign :: (signs l).drop (k + 1) from by
        rw [List.drop_eq_getElem_cons (by rw [HSL.out]; exact hlt)]
        congr 1
        simp [signs])
      generalize l[k] = t at t0 t1 t2 HS
      obtain ⟨ts, tn, tm⟩ := t
      simp only at t0 t1 t2 HS
      go_upto_region 5 with fail
      have hal : Chg [] wr (wr.alloc (.cells #[.int .i32 ts, .int .i64 tn, .int .i32 tm] 121)) := (Chg.refl [] wr).alloc _
      have hN : Whole (wr.alloc (.cells #[.int .i32 ts, .int .i64 tn, .int .i32 tm] 121)) wr.heap.size 121 [.int .i32 ts, .int .i64 tn, .int .i32 tm] := Whole.new wr 121 [.int .i32 ts, .int .i64 tn, .int .i32 tm]
      have hbt : gt < wr.heap.size := HM.out.to_.lt
      obtain ⟨g7, hg7⟩ : ∃ g, g = wr.heap.size := ⟨_, rfl⟩
      rw [← hg7] at hN hbt ⊢
      generalize wr.alloc (.cells #[.int .i32 ts, .int .i64 tn, .int .i32 tm] 121) = w3 at hal hN ⊢
      have HM3 := Lib.hid (HM.out.keep hal)
      have HC3 := Lib.hid (HCr.out.new hal)
      have HN3 := Lib.hid hN
      clear hal hN hg7 t0 t1 t2
      have c0 := HM3.out.rec_.cell 0
      have hkt : k < m.tO.length := by rw [HM3.out.len]; exact hlt
      have t0 : w3.cell? ⟨gt, k, none⟩ = some (.int .i64 (m.tO[k]'hkt)) := (HM3.out.to_.cell k).trans (nms_get _ _ hkt)
      have f0 := HM3.out.to_.frozen k
      go_upto_region 6 with fail
      have HM4 := Lib.hid (HM3.out.poke k (-1))
      have HL4 := Lib.hid (show Lo (gt + 2) [gt + 1, gt] w3 (w3.setCell ⟨gt, k, none⟩ (.int .i64 (-1))) from Lo.of_chg ((Chg.refl [gt] w3).setCell (p := ⟨gt, k, none⟩) (by simp) _) (by simp))
      have HC4 := Lib.hid (HL4.out.chg HC3.out (by have := HGT.out; omega) (by have := HGT.out; simp; omega))
      have HN4 := Lib.hid (HN3.out.far (p := ⟨gt, k, none⟩) (by simp only; omega) (.int .i64 (-1)))
      generalize w3.setCell ⟨gt, k, none⟩ (.int .i64 (-1)) = w4 at HM4 HL4 HC4 HN4 ⊢
      clear c0 t0 f0
      have n0 := HN4.out.cell 0
      go_wp2_with fail
      refine (take_any HM4.out k hlt ts HF.out).mono ?_
      rintro e w5 (⟨m', ht, rfl, ⟨vo', xs', hM5⟩, hL5⟩ | ⟨ht, rfl, hL5⟩)
      · have HM5 := Lib.hid hM5
        have HF5 := Lib.hid (few_take (m := ⟨m.tO.set k (-1), m.deep, m.op⟩) HF.out ht)
        have HR5 := Lib.hid (show nRun 0 (signs l) ⟨List.replicate (signs l).length 0, 0, []⟩ = nRun (k + 1) ((signs l).drop (k + 1)) m' from by rw [HRUN.out, HS.out, nRun, ht]; rfl)
        have HC5 := Lib.hid (hL5.chg HC4.out (by have := HGT.out; omega) (by have := HGT.out; simp; omega))
        clear hM5 hL5 ht n0
        go_wp2_with fail
        go_roundw
        case rel => exact ⟨k + 1, by omega, by go_num, ⟨_, _, _, HM5, HF5.out, HR5.out⟩, HC5⟩
        case measure => simp [intOf]; omega
      · have HR5 := Lib.hid (show nNest (signs l) = none from by unfold nNest; rw [HRUN.out, HS.out, nRun, ht]; rfl)
        have HC5 := Lib.hid (hL5.chg HC4.out (by have := HGT.out; omega) (by have := HGT.out; simp; omega))
        have HPO := Lib.hid (show MatchPost n (nNest (signs l)) W (.returned (.tuple #[.slice none 0 0, .int .i64 0, .bool false])) w5 from ⟨HC5.out, .inr ⟨HR5.out, _, _, rfl⟩⟩)
        clear hL5 ht n0
        go_wp2_with fail
        go_ret3
        exact HPO.out
    · have hltI : ¬ (k : Int) < (n : Int) := by omega
      have HR5 := Lib.hid (show nRun 0 (signs l) ⟨List.replicate (signs l).length 0, 0, []⟩ = some m from by rw [HRUN.out, List.drop_eq_nil_of_le (by rw [HSL.out]; omega)]; rfl)
      have c0 := HM.out.rec_.cell 0
      have c1 := HM.out.rec_.cell 1
      have c2 := HM.out.rec_.cell 2
      obtain ⟨Ao, co, rfl, _, _, _⟩ := rown_slice HM.out.own
      have hop : m.op.length = xs.length := by rw [HM.out.op]; simp
      obtain ⟨q, hq⟩ : ∃ q, q = xs.length := ⟨_, rfl⟩
      rw [← hq] at c2 hop
      have HOP := Lib.hid hop
      have hfq := HM.out.few
      rw [← hq] at hfq
      clear hop hq
      have hdec : ((q : Int) == 0) = decide (q = 0) := by rw [Bool.eq_iff_iff]; simp
      go_wp2_with fail
      go_quiet (fail)
      have HPO := Lib.hid (show MatchPost n (nNest (signs l)) W (.returned (.tuple #[.slice (some ⟨gt, 0, none⟩) n n, .int .i64 (m.deep : Int), .bool (decide (q = 0))])) (wr.drewN nq) from by
        refine ⟨HCr.out.drewN _, ?_⟩
        by_cases h0 : q = 0
        · refine .inl ⟨m.tO, m.deep, gt, ?_, HM.out.len, by simp [h0], (HM.out.to_.drewN _), HM.out.deep⟩
          unfold nNest
          have : m.op = [] := List.eq_nil_of_length_eq_zero (by rw [HOP.out]; exact h0)
          rw [HR5.out]; simp [this]
        · refine .inr ⟨?_, _, _, by simp [h0]; exact ⟨rfl, rfl⟩⟩
          unfold nNest
          have : m.op ≠ [] := fun e => h0 (by rw [← HOP.out, e]; rfl)
          rw [HR5.out]; simp [this])
      go_wp2_with fail
      go_ret3
      exact HPO.out
end
end Go.Proofs.Ytnohfdojcdhfoaa
namespace Go.Proofs.Ytnohfdojcdhfoaa
open Go.RowKit
/-- The reference's state in memory. -/
structure Rt (W : World) (gt B n : Nat) (m : RSt) (vo : Value) : Prop where
  to_ : Whole W gt 3 (nms m.tO)
  len : m.tO.length = n
  own : W.ownsRow B 3 1 vo m.op.length (nts m.op.reverse)
  lo : gt < B
  few : m.op.length ≤ 16
  deep : m.deep ≤ 16
  wf : ∀ p ∈ m.op, p < n
  big : n ≤ 100000
  room : B ≤ W.heap.size
section
variable {W W' : World} {gt B n : Nat} {m : RSt} {vo : Value}
theorem Rt.keep (h : Rt W gt B n m vo) (hc : Chg [] W W') : Rt W' gt B n m vo :=
  { h with to_ := h.to_.keep hc, own := own_keep h.own hc, room := Nat.le_trans h.room hc.size }
theorem Rt.poke (h : Rt W gt B n m vo) (j : Nat) (x : Int) : Rt (W.setCell ⟨gt, j, none⟩ (.int .i64 x)) gt B n ⟨m.tO.set j x, m.deep, m.op⟩ vo := by
  refine { h with to_ := ?_, len := by rw [List.length_set]; exact h.len, own := rown_far h.own (fun hc => by have := (h.own.lt gt hc).1; have := h.lo; omega), room := by rw [size_set]; exact h.room }
  have := h.to_.set_ j (.int .i64 x)
  rwa [nms_set] at this
theorem Rt.top {p : Nat} {r : List Nat} (h : Rt W gt B n m vo) (hm : m.op = p :: r) : ∃ g c, vo = .slice (some ⟨g, 0, none⟩) (r.length + 1) c ∧ r.length + 1 ≤ c ∧ W.cell? ⟨g, r.length, none⟩ = some (.int .i64 (p : Int)) ∧ W.frozen? ⟨g, r.length, none⟩ = false ∧ B ≤ g ∧ g < W.heap.size ∧ p < n ∧ r.length < 16 := by
  have ho := h.own
  have hf := h.few
  rw [hm] at ho hf
  simp only [List.length_cons] at ho hf
  obtain ⟨A, c, rfl, h1, _, _⟩ := rown_slice ho
  obtain ⟨g, rfl, hc⟩ := rown_cell ho rfl (j := r.length) (u := .int .i64 (p : Int)) (by simp [nts])
  exact ⟨g, c, rfl, h1, hc, rown_frozen ho, (ho.lt g rfl).1, (ho.lt g rfl).2, h.wf p (by rw [hm]; simp), by omega⟩
theorem Rt.waits {p : Nat} {r : List Nat} {g c : Nat} (h : Rt W gt B n m vo) (hm : m.op = p :: r) (hv : vo = .slice (some ⟨g, 0, none⟩) (r.length + 1) c) (i : Nat) (hi : i < n) :
    Rt (W.setCell ⟨g, r.length, none⟩ (.int .i64 (i : Int))) gt B n ⟨m.tO, m.deep, i :: r⟩ vo := by
  subst hv
  have ho := h.own
  rw [hm] at ho
  simp only [List.length_cons] at ho
  have hB := (ho.lt g rfl).1
  have hlo := h.lo
  refine ⟨h.to_.far (by simp only; omega) _, h.len, ?_, h.lo, by have := h.few; rw [hm] at this; exact this, h.deep, fun q hq => ?_, h.big, by rw [size_set]; exact h.room⟩
  · have := rown_set (j := r.length) (u := .int .i64 (i : Int)) ho
    have e : (nts (p :: r).reverse).set r.length (.int .i64 (i : Int)) = nts (i :: r).reverse := by
      simp only [nts, List.reverse_cons, List.map_append, List.map_cons, List.map_nil]
      rw [List.set_append_right _ _ (by simp)]
      simp
    rw [e] at this
    exact this
  · rcases List.mem_cons.1 hq with rfl | hq
    · exact hi
    · exact h.wf q (by rw [hm]; simp [hq])
theorem Rt.drop {p : Nat} {r : List Nat} {g c : Nat} (h : Rt W gt B n m vo) (hm : m.op = p :: r) (hv : vo = .slice (some ⟨g, 0, none⟩) (r.length + 1) c) : Rt W gt B n ⟨m.tO, m.deep, r⟩ (.slice (some ⟨g, 0, none⟩) r.length c) := by
  subst hv
  have ho := h.own
  rw [hm] at ho
  simp only [List.length_cons] at ho
  have ht := rown_take (q' := r.length) ho (by omega) (by simp)
  refine { h with own := ?_, few := by have := h.few; rw [hm] at this; simp at this ⊢; omega, wf := fun q hq => h.wf q (by rw [hm]; simp [show q ∈ r from hq]) }
  have e : (nts (p :: r).reverse).take (r.length * 1) = nts r.reverse := by
    simp only [nts, List.reverse_cons, List.map_append, Nat.mul_one]
    rw [List.take_left' (by simp)]
  rw [e] at ht
  exact ht
theorem Rt.push {W1 w' : World} {v' : Value} {i : Nat} (h : Rt W gt B n m vo) (hc : Chg [] W W1) (hi : i < n) (hn : m.op.length < 16) (d : Nat) (hd : d ≤ 16)
    (ho : w'.ownsRow B 3 1 v' (m.op.length + 1) (nts m.op.reverse ++ [.int .i64 (i : Int)])) (hg : W1.grownBy w' vo.ownBlock) : Rt w' gt B n ⟨m.tO, d, i :: m.op⟩ v' := by
  have h1 := h.keep hc
  refine ⟨?_, h.len, ?_, h.lo, by simp; omega, hd, fun q hq => ?_, h.big, Nat.le_trans h1.room hg.size⟩
  · unfold Whole
    rw [hg.block gt h1.to_.lt (fun hc => by have := (h1.own.lt gt hc.symm).1; have := h.lo; omega)]
    exact h1.to_
  · simp only [List.length_cons, List.reverse_cons, nts_app]
    exact ho
  · rcases List.mem_cons.1 hq with rfl | hq
    · exact hi
    · exact h.wf q hq
end
section
variable {W : World} {A : Option Addr} {n c gt : Nat} {l : List TkV} {t : List Int}
theorem Tks.sign (h : Tks W A n c l) {k : Nat} {s : Int} (hk : (signs l)[k]? = some s) : ∃ b o, A = some ⟨b, o, none⟩ ∧ b < W.heap.size ∧ W.cell? ⟨b, o + k * 3, none⟩ = some (.int .i32 s) := by
  unfold signs at hk
  rw [List.getElem?_map] at hk
  cases hl : l[k]? with
  | none => rw [hl] at hk; cases hk
  | some t =>
    rw [hl] at hk
    injection hk with hk
    subst hk
    obtain ⟨b, o, e, hb, h0, _, _⟩ := h.cell hl
    exact ⟨b, o, e, hb, h0⟩
set_option maxHeartbeats 2000000 in
theorem leaves_any (h : Tks W A n c l) (ht : Whole W gt 3 (nms t)) (htl : t.length = n) (at_ : Nat) (hat : at_ < n) :
    Calls Try.prog 94 #[.slice A n c, .slice (some ⟨gt, 0, none⟩) n n, .int .i64 (at_ : Int)] W fun e w' => e = .returned (.int .i64 (leavesV (signs l) t at_ (n - at_) at_)) ∧ W = w' := by
  have hmax := h.max
  have hsl : (signs l).length = n := by unfold signs; rw [List.length_map]; exact h.len
  have H := Lib.hid h
  have HT := Lib.hid ht
  have HTL := Lib.hid htl
  have HSL := Lib.hid hsl
  clear h ht htl hsl
  go_enter Try.func94, Try.ntmps94
  go_wp2_with fail
  go_loop [7] (fun s => ∃ j : Nat, at_ ≤ j ∧ j ≤ n ∧ s = .int .i64 (j : Int) ∧ Hid (leavesV (signs l) t at_ (n - at_) at_ = leavesV (signs l) t at_ (n - j) j)) (fun s => n - (intOf s).toNat)
  case atStart => exact ⟨at_, Nat.le_refl _, by omega, rfl, Lib.hid rfl⟩
  case round =>
    obtain ⟨j, h0, h1, rfl, HV⟩ := hrel
    by_cases hlt : j < n
    · have hltI : (j : Int) < (n : Int) := by omega
      have hj0 : (0 : Int) ≤ (j : Int) := by omega
      obtain ⟨s, hs⟩ : ∃ s, (signs l)[j]? = some s := ⟨_, List.getElem?_eq_getElem (by rw [HSL.out]; exact hlt)⟩
      obtain ⟨b, o, rfl, _, t0⟩ := H.out.sign hs
      have hjt : j < t.length := by rw [HTL.out]; exact hlt
      have c1 : W.cell? ⟨gt, j, none⟩ = some (.int .i64 (t[j]'hjt)) := (HT.out.cell j).trans (nms_get _ _ hjt)
      have HS := Lib.hid hs
      have HG := Lib.hid (show t.getD j 0 = t[j]'hjt by rw [List.getD_eq_getElem?_getD, List.getElem?_eq_getElem hjt]; rfl)
      have HN := Lib.hid (show n - j = (n - (j + 1)) + 1 by omega)
      generalize t[j] = x at c1 HG
      clear hs hjt
      by_cases h93 : s = 93
      · subst h93
        by_cases hx : x < (at_ : Int)
        · have HR := Lib.hid (show leavesV (signs l) t at_ (n - at_) at_ = (j : Int) + 1 by rw [HV.out, HN.out, leavesV, if_pos ⟨HS.out, by rw [HG.out]; exact hx⟩])
          go_wp2_with fail
          go_ret
          exact ⟨ret_int' HR.out.symm, rfl⟩
        · have hxd : decide (x < (at_ : Int)) = false := by simpa using hx
          have HR := Lib.hid (show leavesV (signs l) t at_ (n - at_) at_ = leavesV (signs l) t at_ (n - (j + 1)) (j + 1) by rw [HV.out, HN.out, leavesV, if_neg (fun hc => hx (by rw [← HG.out]; exact hc.2))])
          go_wp2_with fail
          go_round
          case rel => exact ⟨j + 1, by omega, by omega, by go_num, HR⟩
          case measure => simp [intOf]; omega
      · have hsd : (s == 93) = false := by simpa using h93
        have HR := Lib.hid (show leavesV (signs l) t at_ (n - at_) at_ = leavesV (signs l) t at_ (n - (j + 1)) (j + 1) by rw [HV.out, HN.out, leavesV, if_neg (fun hc => h93 (by have := hc.1; rw [HS.out] at this; injection this))])
        go_wp2_with fail
        go_round
        case rel => exact ⟨j + 1, by omega, by omega, by go_num, HR⟩
        case measure => simp [intOf]; omega
    · have hltI : ¬ (j : Int) < (n : Int) := by omega
      have HR := Lib.hid (show leavesV (signs l) t at_ (n - at_) at_ = -1 by rw [HV.out, show n - j = 0 by omega]; rfl)
      go_wp2_with fail
      go_ret
      exact ⟨ret_int' HR.out.symm, rfl⟩
end
end Go.Proofs.Ytnohfdojcdhfoaa
namespace Go.Proofs.Ytnohfdojcdhfoaa
open Go.RowKit
/-- What the reference answers. -/
def RefPost (n : Nat) (r : Option (List Int × Nat)) (W : World) (e : Ending) (w' : World) : Prop :=
  Chg [] W w' ∧ ((∃ t d g, r = some (t, d) ∧ t.length = n ∧ e = .returned (.tuple #[.slice (some ⟨g, 0, none⟩) n n, .int .i64 (d : Int), .int .i64 0]) ∧ Whole w' g 3 (nms t)) ∨
    (r = none ∧ e = .returned (.tuple #[.slice none 0 0, .int .i64 (-1), .int .i64 13])))
section
variable {W : World} {A : Option Addr} {n c : Nat} {l : List TkV}
set_option maxHeartbeats 8000000 in
set_option maxRecDepth 100000 in
theorem rnest_any (h : Tks W A n c l) : Calls Try.prog 76 #[.slice A n c] W (RefPost n (rNest (signs l)) W) := by
  obtain ⟨i0, hi0, hz0, hz1, hz2⟩ := info_parts info_int
  have hmax := h.max
  have hmk := fun W : World => make_ints W n hmax
  have H := Lib.hid h
  have hsl : (signs l).length = n := by unfold signs; rw [List.length_map]; exact h.len
  have HSL := Lib.hid hsl
  clear h hsl
  go_enter Try.func76, Try.ntmps76
  go_upto_region 2 with fail
  have hT := Whole.new W 3 (nms (List.replicate n 0))
  have hc1 : Chg [] W (W.alloc (.cells (nms (List.replicate n 0)).toArray 3)) := (Chg.refl [] W).alloc _
  obtain ⟨gt, hgt⟩ : ∃ g, g = W.heap.size := ⟨_, rfl⟩
  have hsz : (W.alloc (.cells (nms (List.replicate n 0)).toArray 3)).heap.size = gt + 1 := by rw [hgt]; simp
  rw [← hgt] at hT ⊢
  generalize W.alloc (.cells (nms (List.replicate n 0)).toArray 3) = w1 at hT hc1 hsz ⊢
  have HM0 := Lib.hid (show Rt w1 gt (gt + 1) n ⟨List.replicate (signs l).length 0, 0, []⟩ (.slice none 0 0) from
    ⟨by rw [HSL.out]; exact hT, by rw [List.length_replicate]; exact HSL.out, World.ownsRow_nil _ _ _ _, by omega, by simp, by simp, fun x hx => (by cases hx), hmax, by omega⟩)
  have HC1 := Lib.hid hc1
  have HGT := Lib.hid hgt
  clear hT hc1 hsz hgt hmk
  go_wp2_with fail
  go_loopw [6, 7, 8, 15] (fun vo d _ s wr => ∃ k : Nat, k ≤ n ∧ s = .int .i64 (k : Int) ∧ (∃ m, d = .int .i64 (m.deep : Int) ∧ Hid (Rt wr gt (gt + 1) n m vo) ∧ Hid (rRun (signs l) 0 (signs l) ⟨List.replicate (signs l).length 0, 0, []⟩ = rRun (signs l) k ((signs l).drop k) m)) ∧ Hid (Chg [] W wr)) (fun _ _ _ s _ => n - (intOf s).toNat)
  case atStart => exact ⟨0, Nat.zero_le _, rfl, ⟨_, rfl, HM0, Lib.hid rfl⟩, HC1⟩
  case round =>
    obtain ⟨k, hk, rfl, ⟨m, rfl, HM, HRUN⟩, HCr⟩ := hrel
    by_cases hlt : k < n
    · have hltI : (k : Int) < (n : Int) := by omega
      have hk0 : (0 : Int) ≤ (k : Int) := by omega
      have hkb : (k : Int) ≤ 100000 := by omega
      have hkt : k < m.tO.length := by rw [HM.out.len]; exact hlt
      have t0 : wr.cell? ⟨gt, k, none⟩ = some (.int .i64 (m.tO[k]'hkt)) := (HM.out.to_.cell k).trans (nms_get _ _ hkt)
      have f0 := HM.out.to_.frozen k
      go_upto_region 8 with fail
      have HM4 := Lib.hid (HM.out.poke k (-1))
      have HC4 := Lib.hid (show Chg [] W (wr.setCell ⟨gt, k, none⟩ (.int .i64 (-1))) from HCr.out.setCell (fun h => absurd h (by have := HGT.out; simp only; omega)) _)
      obtain ⟨mt, md, mo⟩ := m
      simp only at HM4 ⊢
      generalize wr.setCell ⟨gt, k, none⟩ (.int .i64 (-1)) = w4 at HM4 HC4 ⊢
      clear t0 f0 hkt
      have hkl : k < (signs l).length := by rw [HSL.out]; exact hlt
      obtain ⟨b, o, rfl, hb, t0⟩ := (H.out.keep HC4.out).sign (List.getElem?_eq_getElem hkl)
      have HSK := Lib.hid (show (signs l)[k]? = some (signs l)[k] from List.getElem?_eq_getElem hkl)
      have HS := Lib.hid (show (signs l).drop k = (signs l)[k] :: (signs l).drop (k + 1) from List.drop_eq_getElem_cons hkl)
      generalize (signs l)[k]'hkl = s at t0 HS HSK
      have HNX := Lib.hid (show ∀ m', rTake (signs l) k s ⟨mt.set k (-1), md, mo⟩ = some m' → rRun (signs l) 0 (signs l) ⟨List.replicate (signs l).length 0, 0, []⟩ = rRun (signs l) (k + 1) ((signs l).drop (k + 1)) m' from fun m' hm => by rw [HRUN.out, HS.out, rRun, hm]; rfl)
      have HNO := Lib.hid (show rTake (signs l) k s ⟨mt.set k (-1), md, mo⟩ = none → rNest (signs l) = none from fun hm => by unfold rNest; rw [HRUN.out, HS.out, rRun, hm]; rfl)
      have HSG := Lib.hid (show ∀ (W' : World), Chg [] w4 W' → ∀ (j : Nat) (s' : Int), (signs l)[j]? = some s' → W'.cell? ⟨b, o + j * 3, none⟩ = some (.int .i32 s') from fun W' hW j s' hj => by
        obtain ⟨b', o', e, _, h⟩ := ((H.out.keep HC4.out).keep hW).sign hj
        injection e with e
        injection e with e1 e2
        subst e1 e2
        exact h)
      have hb1 := hb
      clear hkl
      have hfew := HM4.out.few
      have hdeep := HM4.out.deep
      simp only at hfew hdeep
      by_cases h63 : s = 63
      · subst h63
        obtain ⟨q, hq⟩ : ∃ q, q = mo.length := ⟨_, rfl⟩
        have HQ := Lib.hid hq
        rw [← hq] at hfew
        obtain ⟨Ao, co, e, _⟩ := own_slice HM4.out.own
        simp only at e
        rw [← hq] at e
        subst e
        have HAL := Lib.hid (show Chg [] w4 (w4.alloc (.cells #[.int .i64 (k : Int)] 3)) from (Chg.refl [] w4).alloc _)
        have HO1 := Lib.hid (show (w4.alloc (.cells #[.int .i64 (k : Int)] 3)).ownsRow (gt + 1) 3 1 (.slice Ao q co) q (nts mo.reverse) from by
          have h := own_keep HM4.out.own HAL.out
          simp only at h
          rw [← hq] at h
          exact h)
        have HRM := Lib.hid HM4.out.room
        clear hq
        have hmx : max (md : Int) ((q : Int) + 1) = ((max md (q + 1) : Nat) : Int) := by omega
        by_cases hq16 : q < 16
        · have hle : ¬ (16 : Int) < (q : Int) + 1 := by omega
          go_wp2_with (at_builtin
                       refine wpList_append_own _ rfl (.tmp 29) (.tmp 31) _ rfl (gt + 1) 3 i0 _ 1 8 Try.underlying43 hi0 hz0 hz1 hz2 rfl (by decide) (.slice Ao q co) q (nts mo.reverse) rfl HO1.out ⟨w4.heap.size, 0, none⟩ 1 1 [.int .i64 (k : Int)] rfl rfl (cells_page _ _ _) (by simp [Value.oneCell']) (by simp only [maxLen]; omega) (by omega) (by have := HRM.out; simp; omega) ?_
                       intro v' w6 ho6 hg6 _
                       obtain ⟨A6, c6, rfl, _⟩ := own_slice ho6
                       have HO6 := Lib.hid ho6
                       have HG6 := Lib.hid hg6
                       clear ho6 hg6)
          have HC6 := Lib.hid (show Chg [] W w6 from (HC4.out.alloc _).own HO1.out (by have := HGT.out; omega) HG6.out)
          have HR6 := Lib.hid (HM4.out.push HAL.out hlt (by simp only; have := HQ.out; omega) (max md (q + 1)) (by omega) (by simp only; rw [← HQ.out]; exact HO6.out) HG6.out)
          have HN6 := Lib.hid (HNX.out ⟨mt.set k (-1), max md (q + 1), k :: mo⟩ (by unfold rTake; rw [if_pos (by decide), if_pos (by simp only; have := HQ.out; omega), ← HQ.out]))
          go_roundw
          case rel => exact ⟨k + 1, by omega, by go_num, ⟨_, by first | rfl | exact congrArg (Value.int .i64) hmx, HR6, HN6⟩, HC6⟩
          case measure => simp [intOf]; omega
        · have hle : (16 : Int) < (q : Int) + 1 := by omega
          go_wp2_with (at_builtin
                       refine wpList_append_own _ rfl (.tmp 29) (.tmp 31) _ rfl (gt + 1) 3 i0 _ 1 8 Try.underlying43 hi0 hz0 hz1 hz2 rfl (by decide) (.slice Ao q co) q (nts mo.reverse) rfl HO1.out ⟨w4.heap.size, 0, none⟩ 1 1 [.int .i64 (k : Int)] rfl rfl (cells_page _ _ _) (by simp [Value.oneCell']) (by simp only [maxLen]; omega) (by omega) (by have := HRM.out; simp; omega) ?_
                       intro v' w6 ho6 hg6 _
                       obtain ⟨A6, c6, rfl, _⟩ := own_slice ho6
                       have HO6 := Lib.hid ho6
                       have HG6 := Lib.hid hg6
                       clear ho6 hg6)
          have HC6 := Lib.hid (show Chg [] W w6 from (HC4.out.alloc _).own HO1.out (by have := HGT.out; omega) HG6.out)
          have HPO := Lib.hid (show RefPost n (rNest (signs l)) W (.returned (.tuple #[.slice none 0 0, .int .i64 (-1), .int .i64 13])) w6 from ⟨HC6.out, .inr ⟨HNO.out (by unfold rTake; rw [if_pos (by decide), if_neg (by simp only; have := HQ.out; omega)]), rfl⟩⟩)
          go_ret3
          exact HPO.out
      by_cases h91 : s = 91
      · subst h91
        obtain ⟨q, hq⟩ : ∃ q, q = mo.length := ⟨_, rfl⟩
        have HQ := Lib.hid hq
        rw [← hq] at hfew
        obtain ⟨Ao, co, e, _⟩ := own_slice HM4.out.own
        simp only at e
        rw [← hq] at e
        subst e
        have HAL := Lib.hid (show Chg [] w4 (w4.alloc (.cells #[.int .i64 (k : Int)] 3)) from (Chg.refl [] w4).alloc _)
        have HO1 := Lib.hid (show (w4.alloc (.cells #[.int .i64 (k : Int)] 3)).ownsRow (gt + 1) 3 1 (.slice Ao q co) q (nts mo.reverse) from by
          have h := own_keep HM4.out.own HAL.out
          simp only at h
          rw [← hq] at h
          exact h)
        have HRM := Lib.hid HM4.out.room
        clear hq
        have hmx : max (md : Int) ((q : Int) + 1) = ((max md (q + 1) : Nat) : Int) := by omega
        by_cases hq16 : q < 16
        · have hle : ¬ (16 : Int) < (q : Int) + 1 := by omega
          go_wp2_with (at_builtin
                       refine wpList_append_own _ rfl (.tmp 29) (.tmp 31) _ rfl (gt + 1) 3 i0 _ 1 8 Try.underlying43 hi0 hz0 hz1 hz2 rfl (by decide) (.slice Ao q co) q (nts mo.reverse) rfl HO1.out ⟨w4.heap.size, 0, none⟩ 1 1 [.int .i64 (k : Int)] rfl rfl (cells_page _ _ _) (by simp [Value.oneCell']) (by simp only [maxLen]; omega) (by omega) (by have := HRM.out; simp; omega) ?_
                       intro v' w6 ho6 hg6 _
                       obtain ⟨A6, c6, rfl, _⟩ := own_slice ho6
                       have HO6 := Lib.hid ho6
                       have HG6 := Lib.hid hg6
                       clear ho6 hg6)
          have HC6 := Lib.hid (show Chg [] W w6 from (HC4.out.alloc _).own HO1.out (by have := HGT.out; omega) HG6.out)
          have HR6 := Lib.hid (HM4.out.push HAL.out hlt (by simp only; have := HQ.out; omega) (max md (q + 1)) (by omega) (by simp only; rw [← HQ.out]; exact HO6.out) HG6.out)
          have HN6 := Lib.hid (HNX.out ⟨mt.set k (-1), max md (q + 1), k :: mo⟩ (by unfold rTake; rw [if_pos (by decide), if_pos (by simp only; have := HQ.out; omega), ← HQ.out]))
          go_roundw
          case rel => exact ⟨k + 1, by omega, by go_num, ⟨_, by first | rfl | exact congrArg (Value.int .i64) hmx, HR6, HN6⟩, HC6⟩
          case measure => simp [intOf]; omega
        · have hle : (16 : Int) < (q : Int) + 1 := by omega
          go_wp2_with (at_builtin
                       refine wpList_append_own _ rfl (.tmp 29) (.tmp 31) _ rfl (gt + 1) 3 i0 _ 1 8 Try.underlying43 hi0 hz0 hz1 hz2 rfl (by decide) (.slice Ao q co) q (nts mo.reverse) rfl HO1.out ⟨w4.heap.size, 0, none⟩ 1 1 [.int .i64 (k : Int)] rfl rfl (cells_page _ _ _) (by simp [Value.oneCell']) (by simp only [maxLen]; omega) (by omega) (by have := HRM.out; simp; omega) ?_
                       intro v' w6 ho6 hg6 _
                       obtain ⟨A6, c6, rfl, _⟩ := own_slice ho6
                       have HO6 := Lib.hid ho6
                       have HG6 := Lib.hid hg6
                       clear ho6 hg6)
          have HC6 := Lib.hid (show Chg [] W w6 from (HC4.out.alloc _).own HO1.out (by have := HGT.out; omega) HG6.out)
          have HPO := Lib.hid (show RefPost n (rNest (signs l)) W (.returned (.tuple #[.slice none 0 0, .int .i64 (-1), .int .i64 13])) w6 from ⟨HC6.out, .inr ⟨HNO.out (by unfold rTake; rw [if_pos (by decide), if_neg (by simp only; have := HQ.out; omega)]), rfl⟩⟩)
          go_ret3
          exact HPO.out
      by_cases h58 : s = 58
      · subst h58
        rcases mo with _ | ⟨p, r⟩
        · obtain ⟨Ao, co, rfl, _⟩ := own_slice HM4.out.own
          simp only [List.length_nil]
          have HPO := Lib.hid (show RefPost n (rNest (signs l)) W (.returned (.tuple #[.slice none 0 0, .int .i64 (-1), .int .i64 13])) w4 from ⟨HC4.out, .inr ⟨HNO.out (by unfold rTake; rw [if_neg (by decide), if_pos rfl]), rfl⟩⟩)
          go_wp2_with fail
          go_ret3
          exact HPO.out
        · obtain ⟨g6, c6, rfl, hc6, k6, f6, hB6, hlt6, hpn, hr16⟩ := HM4.out.top (p := p) (r := r) rfl
          obtain ⟨sp, hsp⟩ : ∃ sp, (signs l)[p]? = some sp := ⟨_, List.getElem?_eq_getElem (by rw [HSL.out]; exact hpn)⟩
          have HSP := Lib.hid hsp
          have t1 := HSG.out w4 (Chg.refl _ _) p sp hsp
          clear hsp
          have hp0 : (0 : Int) ≤ (p : Int) := by omega
          have hp1 : (p : Int) < (n : Int) := by omega
          obtain ⟨q, hq⟩ : ∃ q, q = r.length := ⟨_, rfl⟩
          have HQ := Lib.hid hq
          rw [← hq] at hc6 k6 f6 hr16
          have hsub : IntKind.i64.wrap (((q + 1 : Nat) : Int) - 1) = (q : Int) := by rw [IntWalk.i64_in _ (by omega)]; omega
          have hq0 : (0 : Int) ≤ (q : Int) := by omega
          have hq1 : (q : Int) < ((q + 1 : Nat) : Int) := by omega
          have hq2 : (q : Int) ≤ (c6 : Int) := by omega
          have hqt : (q : Int).toNat = q := Int.toNat_natCast _
          have hne : (((q + 1 : Nat) : Int) == 0) = false := by simp; omega
          have hkw : IntKind.i64.wrap ((k : Int) + 1) = (k : Int) + 1 := IntWalk.i64_in _ (by omega)
          have hrq : r.length = q := hq.symm
          rw [hrq]
          clear hq hrq
          by_cases hsp : sp = 63
          · subst hsp
            have hjt : p < (mt.set k (-1)).length := by rw [HM4.out.len]; omega
            have t2 : w4.cell? ⟨gt, p, none⟩ = some (.int .i64 ((mt.set k (-1))[p]'hjt)) := (HM4.out.to_.cell p).trans (nms_get _ _ hjt)
            have f2 := HM4.out.to_.frozen p
            go_upto_region 19 with fail
            have HM5 := Lib.hid (HM4.out.poke p ((k : Int) + 1))
            have HC5 := Lib.hid (show Chg [] W (w4.setCell ⟨gt, p, none⟩ (.int .i64 ((k : Int) + 1))) from HC4.out.setCell (fun h => absurd h (by have := HGT.out; simp only; omega)) _)
            simp only at HM5
            generalize w4.setCell ⟨gt, p, none⟩ (.int .i64 ((k : Int) + 1)) = w5 at HM5 HC5 ⊢
            clear t2 f2 hjt k6 f6
            obtain ⟨g7, c7, e, hc7, k7, f7, hB7, hlt7, _, _⟩ := HM5.out.top (p := p) (r := r) rfl
            injection e with e _ e3
            injection e with e
            injection e with e
            subst e e3
            rw [← HQ.out] at k7 f7
            have HM6 := Lib.hid (HM5.out.waits (p := p) (r := r) rfl rfl k hlt)
            rw [← HQ.out] at HM6
            simp only at HM6
            have HC6 := Lib.hid (show Chg [] W (w5.setCell ⟨g6, q, none⟩ (.int .i64 (k : Int))) from HC5.out.setCell (fun h => absurd h (by have := HGT.out; simp only; omega)) _)
            have HN6 := Lib.hid (HNX.out ⟨(mt.set k (-1)).set p ((k : Int) + 1), md, k :: r⟩ (by unfold rTake; rw [if_neg (by decide), if_pos rfl]; simp only; rw [if_pos HSP.out]))
            go_wp2_with fail
            go_roundw
            case rel => exact ⟨k + 1, by omega, by go_num, ⟨_, rfl, HM6, HN6⟩, HC6⟩
            case measure => simp [intOf]; omega
          · have hspd : (sp != 63) = true := by simpa using hsp
            have HPO := Lib.hid (show RefPost n (rNest (signs l)) W (.returned (.tuple #[.slice none 0 0, .int .i64 (-1), .int .i64 13])) w4 from ⟨HC4.out, .inr ⟨HNO.out (by unfold rTake; rw [if_neg (by decide), if_pos rfl]; simp only; rw [if_neg (fun hc => hsp (by rw [HSP.out] at hc; injection hc))]), rfl⟩⟩)
            go_wp2_with fail
            go_ret3
            exact HPO.out
      by_cases h59 : s = 59
      · subst h59
        rcases mo with _ | ⟨p, r⟩
        · obtain ⟨Ao, co, rfl, _⟩ := own_slice HM4.out.own
          simp only [List.length_nil]
          have HPO := Lib.hid (show RefPost n (rNest (signs l)) W (.returned (.tuple #[.slice none 0 0, .int .i64 (-1), .int .i64 13])) w4 from ⟨HC4.out, .inr ⟨HNO.out (by unfold rTake; rw [if_neg (by decide), if_neg (by decide), if_pos rfl]), rfl⟩⟩)
          go_wp2_with fail
          go_ret3
          exact HPO.out
        · obtain ⟨g6, c6, rfl, hc6, k6, f6, hB6, hlt6, hpn, hr16⟩ := HM4.out.top (p := p) (r := r) rfl
          obtain ⟨sp, hsp⟩ : ∃ sp, (signs l)[p]? = some sp := ⟨_, List.getElem?_eq_getElem (by rw [HSL.out]; exact hpn)⟩
          have HSP := Lib.hid hsp
          have t1 := HSG.out w4 (Chg.refl _ _) p sp hsp
          clear hsp
          have hp0 : (0 : Int) ≤ (p : Int) := by omega
          have hp1 : (p : Int) < (n : Int) := by omega
          obtain ⟨q, hq⟩ : ∃ q, q = r.length := ⟨_, rfl⟩
          have HQ := Lib.hid hq
          rw [← hq] at hc6 k6 f6 hr16
          have hsub : IntKind.i64.wrap (((q + 1 : Nat) : Int) - 1) = (q : Int) := by rw [IntWalk.i64_in _ (by omega)]; omega
          have hq0 : (0 : Int) ≤ (q : Int) := by omega
          have hq1 : (q : Int) < ((q + 1 : Nat) : Int) := by omega
          have hq2 : (q : Int) ≤ (c6 : Int) := by omega
          have hqt : (q : Int).toNat = q := Int.toNat_natCast _
          have hne : (((q + 1 : Nat) : Int) == 0) = false := by simp; omega
          have hkw : IntKind.i64.wrap ((k : Int) + 1) = (k : Int) + 1 := IntWalk.i64_in _ (by omega)
          have hrq : r.length = q := hq.symm
          rw [hrq]
          clear hq hrq
          by_cases hsp : sp = 91
          · subst hsp
            have HPO := Lib.hid (show RefPost n (rNest (signs l)) W (.returned (.tuple #[.slice none 0 0, .int .i64 (-1), .int .i64 13])) w4 from ⟨HC4.out, .inr ⟨HNO.out (by unfold rTake; rw [if_neg (by decide), if_neg (by decide), if_pos rfl]; simp only; rw [if_pos HSP.out]), rfl⟩⟩)
            go_wp2_with fail
            go_ret3
            exact HPO.out
          · have hspd : (sp == 91) = false := by simpa using hsp
            have hjt : p < (mt.set k (-1)).length := by rw [HM4.out.len]; omega
            have t2 : w4.cell? ⟨gt, p, none⟩ = some (.int .i64 ((mt.set k (-1))[p]'hjt)) := (HM4.out.to_.cell p).trans (nms_get _ _ hjt)
            have f2 := HM4.out.to_.frozen p
            go_upto_region 24 with fail
            have HM5 := Lib.hid (HM4.out.poke p ((k : Int)))
            have HC5 := Lib.hid (show Chg [] W (w4.setCell ⟨gt, p, none⟩ (.int .i64 ((k : Int)))) from HC4.out.setCell (fun h => absurd h (by have := HGT.out; simp only; omega)) _)
            simp only at HM5
            generalize w4.setCell ⟨gt, p, none⟩ (.int .i64 ((k : Int))) = w5 at HM5 HC5 ⊢
            clear t2 f2 hjt k6 f6
            have HM6 := Lib.hid (HM5.out.drop (p := p) (r := r) rfl (by rw [← HQ.out]))
            rw [← HQ.out] at HM6
            simp only at HM6
            have HN6 := Lib.hid (HNX.out ⟨(mt.set k (-1)).set p (k : Int), md, r⟩ (by unfold rTake; rw [if_neg (by decide), if_neg (by decide), if_pos rfl]; simp only; rw [if_neg (fun hc => hsp (by rw [HSP.out] at hc; injection hc))]))
            go_wp2_with fail
            go_roundw
            case rel => exact ⟨k + 1, by omega, by go_num, ⟨_, rfl, HM6, HN6⟩, HC5⟩
            case measure => simp [intOf]; omega
      by_cases h93 : s = 93
      · subst h93
        rcases mo with _ | ⟨p, r⟩
        · obtain ⟨Ao, co, rfl, _⟩ := own_slice HM4.out.own
          simp only [List.length_nil]
          have HPO := Lib.hid (show RefPost n (rNest (signs l)) W (.returned (.tuple #[.slice none 0 0, .int .i64 (-1), .int .i64 13])) w4 from ⟨HC4.out, .inr ⟨HNO.out (by unfold rTake; rw [if_neg (by decide), if_neg (by decide), if_neg (by decide), if_pos rfl]), rfl⟩⟩)
          go_wp2_with fail
          go_ret3
          exact HPO.out
        · obtain ⟨g6, c6, rfl, hc6, k6, f6, hB6, hlt6, hpn, hr16⟩ := HM4.out.top (p := p) (r := r) rfl
          obtain ⟨sp, hsp⟩ : ∃ sp, (signs l)[p]? = some sp := ⟨_, List.getElem?_eq_getElem (by rw [HSL.out]; exact hpn)⟩
          have HSP := Lib.hid hsp
          have t1 := HSG.out w4 (Chg.refl _ _) p sp hsp
          clear hsp
          have hp0 : (0 : Int) ≤ (p : Int) := by omega
          have hp1 : (p : Int) < (n : Int) := by omega
          obtain ⟨q, hq⟩ : ∃ q, q = r.length := ⟨_, rfl⟩
          have HQ := Lib.hid hq
          rw [← hq] at hc6 k6 f6 hr16
          have hsub : IntKind.i64.wrap (((q + 1 : Nat) : Int) - 1) = (q : Int) := by rw [IntWalk.i64_in _ (by omega)]; omega
          have hq0 : (0 : Int) ≤ (q : Int) := by omega
          have hq1 : (q : Int) < ((q + 1 : Nat) : Int) := by omega
          have hq2 : (q : Int) ≤ (c6 : Int) := by omega
          have hqt : (q : Int).toNat = q := Int.toNat_natCast _
          have hne : (((q + 1 : Nat) : Int) == 0) = false := by simp; omega
          have hkw : IntKind.i64.wrap ((k : Int) + 1) = (k : Int) + 1 := IntWalk.i64_in _ (by omega)
          have hrq : r.length = q := hq.symm
          rw [hrq]
          clear hq hrq
          by_cases hsp : sp = 91
          · subst hsp
            have hjt : k < (mt.set k (-1)).length := by rw [HM4.out.len]; omega
            have t2 : w4.cell? ⟨gt, k, none⟩ = some (.int .i64 ((mt.set k (-1))[k]'hjt)) := (HM4.out.to_.cell k).trans (nms_get _ _ hjt)
            have f2 := HM4.out.to_.frozen k
            go_upto_region 29 with fail
            have HM5 := Lib.hid (HM4.out.poke k ((p : Int)))
            have HC5 := Lib.hid (show Chg [] W (w4.setCell ⟨gt, k, none⟩ (.int .i64 ((p : Int)))) from HC4.out.setCell (fun h => absurd h (by have := HGT.out; simp only; omega)) _)
            simp only at HM5
            generalize w4.setCell ⟨gt, k, none⟩ (.int .i64 ((p : Int))) = w5 at HM5 HC5 ⊢
            clear t2 f2 hjt k6 f6
            have HM6 := Lib.hid (HM5.out.drop (p := p) (r := r) rfl (by rw [← HQ.out]))
            rw [← HQ.out] at HM6
            simp only at HM6
            have HN6 := Lib.hid (HNX.out ⟨(mt.set k (-1)).set k (p : Int), md, r⟩ (by unfold rTake; rw [if_neg (by decide), if_neg (by decide), if_neg (by decide), if_pos rfl]; simp only; rw [if_pos HSP.out]))
            go_wp2_with fail
            go_roundw
            case rel => exact ⟨k + 1, by omega, by go_num, ⟨_, rfl, HM6, HN6⟩, HC5⟩
            case measure => simp [intOf]; omega
          · have hspd : (sp != 91) = true := by simpa using hsp
            have HPO := Lib.hid (show RefPost n (rNest (signs l)) W (.returned (.tuple #[.slice none 0 0, .int .i64 (-1), .int .i64 13])) w4 from ⟨HC4.out, .inr ⟨HNO.out (by unfold rTake; rw [if_neg (by decide), if_neg (by decide), if_neg (by decide), if_pos rfl]; simp only; rw [if_neg (fun hc => hsp (by rw [HSP.out] at hc; injection hc))]), rfl⟩⟩)
            go_wp2_with fail
            go_ret3
            exact HPO.out
      have k1 : (s == 63) = false := by simpa using h63
      have k2 : (s == 91) = false := by simpa using h91
      have k3 : (s == 58) = false := by simpa using h58
      have k4 : (s == 59) = false := by simpa using h59
      have k5 : (s == 93) = false := by simpa using h93
      have HN6 := Lib.hid (HNX.out ⟨mt.set k (-1), md, mo⟩ (by unfold rTake; rw [if_neg (by simp [h63, h91]), if_neg h58, if_neg h59, if_neg h93]))
      clear h63 h91 h58 h59 h93
      go_wp2_with fail
      go_roundw
      case rel => exact ⟨k + 1, by omega, by go_num, ⟨_, rfl, HM4, HN6⟩, HC4⟩
      case measure => simp [intOf]; omega
    · have hltI : ¬ (k : Int) < (n : Int) := by omega
      have HR5 := Lib.hid (show rRun (signs l) 0 (signs l) ⟨List.replicate (signs l).length 0, 0, []⟩ = some m from by rw [HRUN.out, List.drop_eq_nil_of_le (by rw [HSL.out]; omega)]; rfl)
      obtain ⟨Ao, co, rfl, _⟩ := own_slice HM.out.own
      obtain ⟨q, hq⟩ : ∃ q, q = m.op.length := ⟨_, rfl⟩
      have HQ := Lib.hid hq
      have hqe : m.op.length = q := hq.symm
      rw [hqe]
      clear hq hqe
      by_cases h0 : 0 < q
      · have h0I : (0 : Int) < (q : Int) := by omega
        have HPO := Lib.hid (show RefPost n (rNest (signs l)) W (.returned (.tuple #[.slice none 0 0, .int .i64 (-1), .int .i64 13])) wr from ⟨HCr.out, .inr ⟨by
          unfold rNest
          rw [HR5.out]
          show (if m.op = [] then _ else none) = none
          rw [if_neg (fun e => by have := HQ.out; rw [e] at this; simp at this; omega)], rfl⟩⟩)
        go_wp2_with fail
        go_ret3
        exact HPO.out
      · have h0I : ¬ (0 : Int) < (q : Int) := by omega
        have HOP := Lib.hid (show m.op = [] from List.eq_nil_of_length_eq_zero (by have := HQ.out; omega))
        have HRN := Lib.hid (show rNest (signs l) = (fillR (signs l) 0 (signs l) m.tO).map fun t => (t, m.deep) from by
          unfold rNest
          rw [HR5.out]
          show (if m.op = [] then _ else none) = _
          rw [if_pos HOP.out])
        have HTO := Lib.hid HM.out.to_
        have HLE := Lib.hid HM.out.len
        obtain ⟨mt, md, mo⟩ := m
        simp only at HTO HLE HRN ⊢
        go_wp2_with fail
        go_loopw [9, 144] (fun _ s wx => ∃ k : Nat, k ≤ n ∧ s = .int .i64 (k : Int) ∧ (∃ t, t.length = n ∧ Hid (Whole wx gt 3 (nms t)) ∧ Hid (fillR (signs l) 0 (signs l) mt = fillR (signs l) k ((signs l).drop k) t)) ∧ Hid (Chg [] W wx)) (fun _ s _ => n - (intOf s).toNat)
        case atStart => exact ⟨0, Nat.zero_le _, rfl, ⟨_, HLE.out, HTO, Lib.hid rfl⟩, HCr⟩
        case round =>
          obtain ⟨k, hk, rfl, ⟨t, htl, HT, HF⟩, HCx⟩ := hrel
          have HTL := Lib.hid htl
          clear htl
          by_cases hlt2 : k < n
          · have hltI : (k : Int) < (n : Int) := by omega
            have hk0 : (0 : Int) ≤ (k : Int) := by omega
            have hkl : k < (signs l).length := by rw [HSL.out]; exact hlt2
            obtain ⟨b, o, rfl, hb, t0⟩ := (H.out.keep HCx.out).sign (List.getElem?_eq_getElem hkl)
            have HS := Lib.hid (show (signs l).drop k = (signs l)[k] :: (signs l).drop (k + 1) from List.drop_eq_getElem_cons hkl)
            generalize (signs l)[k]'hkl = s at t0 HS
            clear hkl
            by_cases hs : s = 126
            · subst hs
              obtain ⟨v, hv⟩ : ∃ v, v = leavesV (signs l) t k (n - k) k := ⟨_, rfl⟩
              have HV := Lib.hid (show v = leavesV (signs l) t k ((signs l).length - k) k from by rw [HSL.out]; exact hv)
              have hkt : k < t.length := by rw [HTL.out]; exact hlt2
              have t2 : wr.cell? ⟨gt, k, none⟩ = some (.int .i64 (t[k]'hkt)) := (HT.out.cell k).trans (nms_get _ _ hkt)
              have f2 := HT.out.frozen k
              have HLV := Lib.hid (leaves_any (H.out.keep HCx.out) HT.out HTL.out k hlt2)
              have hv' := hv.symm
              have HVV := Lib.hid hv'
              clear hv hv'
              go_upto_region 38 with (go_at_call 94; refine HLV.out.mono ?_; rintro e w' ⟨rfl, rfl⟩; rw [HVV.out])
              have HT3 := Lib.hid (HT.out.set_ k (.int .i64 v))
              rw [nms_set] at HT3
              have HC3 := Lib.hid (show Chg [] W (wr.setCell ⟨gt, k, none⟩ (.int .i64 v)) from HCx.out.setCell (fun h => absurd h (by have := HGT.out; simp only; omega)) _)
              generalize wr.setCell ⟨gt, k, none⟩ (.int .i64 v) = w3 at HT3 HC3 ⊢
              have hl3 : (t.set k v).length = n := by rw [List.length_set]; exact HTL.out
              have t3 : w3.cell? ⟨gt, k, none⟩ = some (.int .i64 v) := (HT3.out.cell k).trans (by rw [nms_get _ _ (by rw [hl3]; exact hlt2), List.getElem_set_self])
              have HL3 := Lib.hid hl3
              clear t2 f2 hl3
              by_cases hneg : v < 0
              · have HPO := Lib.hid (show RefPost n (rNest (signs l)) W (.returned (.tuple #[.slice none 0 0, .int .i64 (-1), .int .i64 13])) w3 from ⟨HC3.out, .inr ⟨by rw [HRN.out, HF.out, HS.out, fillR, if_pos rfl, ← HV.out, if_pos hneg]; rfl, rfl⟩⟩)
                go_wp2_with fail
                go_ret3
                exact HPO.out
              · have HF3 := Lib.hid (show fillR (signs l) 0 (signs l) mt = fillR (signs l) (k + 1) ((signs l).drop (k + 1)) (t.set k v) from by rw [HF.out, HS.out, fillR, if_pos rfl, ← HV.out, if_neg hneg])
                go_wp2_with fail
                go_roundw
                case rel => exact ⟨k + 1, by omega, by go_num, ⟨_, HL3.out, HT3, HF3⟩, HC3⟩
                case measure => simp [intOf]; omega
            · have hsd : (s == 126) = false := by simpa using hs
              have HF3 := Lib.hid (show fillR (signs l) 0 (signs l) mt = fillR (signs l) (k + 1) ((signs l).drop (k + 1)) t from by rw [HF.out, HS.out, fillR, if_neg hs])
              go_wp2_with fail
              go_roundw
              case rel => exact ⟨k + 1, by omega, by go_num, ⟨_, HTL.out, HT, HF3⟩, HCx⟩
              case measure => simp [intOf]; omega
          · have hltI : ¬ (k : Int) < (n : Int) := by omega
            have HPO := Lib.hid (show RefPost n (rNest (signs l)) W (.returned (.tuple #[.slice (some ⟨gt, 0, none⟩) n n, .int .i64 (md : Int), .int .i64 0])) wr from ⟨HCx.out, .inl ⟨t, md, gt, by rw [HRN.out, HF.out, List.drop_eq_nil_of_le (by rw [HSL.out]; omega)]; rfl, HTL.out, rfl, HT.out⟩⟩)
            go_wp2_with fail
            go_ret3
            exact HPO.out
end
end Go.Proofs.Ytnohfdojcdhfoaa
namespace Go.Proofs.Ytnohfdojcdhfoaa
open Go.RowKit
/-- No end stands where nothing is open. -/
def DRun : List Int → Nat → Prop
  | [], n => n ≤ 16
  | s :: r, n => n ≤ 16 ∧ (isEnd s → 0 < n) ∧ DRun r (tokLen s n)
theorem rTake_len {ss : List Int} {i : Nat} {s : Int} {m m' : RSt} (h : rTake ss i s m = some m') (hm : m.op.length ≤ 16) : (isEnd s → 0 < m.op.length) ∧ m'.op.length = tokLen s m.op.length ∧ m'.op.length ≤ 16 := by
  unfold rTake at h
  split at h
  · rename_i hs
    split at h
    · injection h with h; subst h
      refine ⟨fun he => by unfold isEnd at he; omega, by simp [tokLen, hs], by simp; omega⟩
    · cases h
  rename_i hs
  split at h
  · rename_i h58
    split at h
    · rename_i p r hop
      split at h
      · injection h with h; subst h
        rw [hop] at hm ⊢
        refine ⟨fun _ => by simp, ?_, by simpa using hm⟩
        subst h58; rfl
      · cases h
    · cases h
  rename_i h58
  split at h
  · rename_i h59
    split at h
    · rename_i p r hop
      split at h
      · cases h
      · injection h with h; subst h
        rw [hop] at hm ⊢
        refine ⟨fun _ => by simp, ?_, by simp at hm ⊢; omega⟩
        subst h59; rfl
    · cases h
  rename_i h59
  split at h
  · rename_i h93
    split at h
    · rename_i p r hop
      split at h
      · injection h with h; subst h
        rw [hop] at hm ⊢
        refine ⟨fun _ => by simp, ?_, by simp at hm ⊢; omega⟩
        subst h93; rfl
      · cases h
    · cases h
  rename_i h93
  injection h with h; subst h
  refine ⟨fun he => by unfold isEnd at he; omega, by unfold tokLen; rw [if_neg hs, if_neg (by omega)], hm⟩
theorem dRun_of {ss : List Int} : ∀ (rest : List Int) (i : Nat) (m m' : RSt), m.op.length ≤ 16 → rRun ss i rest m = some m' → DRun rest m.op.length
  | [], _, _, _, hm, _ => hm
  | s :: r, i, m, m', hm, h => by
    rw [rRun] at h
    cases ht : rTake ss i s ⟨m.tO.set i (-1), m.deep, m.op⟩ with
    | none => rw [ht] at h; cases h
    | some m1 =>
      rw [ht] at h
      obtain ⟨h1, h2, h3⟩ := rTake_len ht hm
      have := dRun_of r (i + 1) m1 m' h3 h
      rw [h2] at this
      exact ⟨hm, h1, this⟩
theorem dRun_nest {ss : List Int} {R : List Int × Nat} (h : rNest ss = some R) : DRun ss 0 := by
  unfold rNest at h
  cases hr : rRun ss 0 ss ⟨List.replicate ss.length 0, 0, []⟩ with
  | none => rw [hr] at h; cases h
  | some r => exact dRun_of ss 0 _ r (by simp) hr
/-- A function's answer, by its number. -/
def rFn (l : List FnV) (k : Int) : Int × List Int :=
  if k < 0 ∨ (l.length : Int) ≤ k then (23, []) else match l[k.toNat]? with | none => (23, []) | some f => rFunc l f.code
def FnPost (R : Int × List Int) (w : World) (e : Ending) (w' : World) : Prop :=
  ∃ v, e = .returned (.tuple #[v, .int .i64 R.1]) ∧ w'.ownsRow w.heap.size 3 1 v R.2.length (nms R.2) ∧ Chg [] w w'
theorem fn_no {w w' : World} {R : Int × List Int} (er : Int) (hR : R = (er, [])) (hc : Chg [] w w') : FnPost R w (.returned (.tuple #[.slice none 0 0, .int .i64 er])) w' := by
  subst hR
  exact ⟨_, rfl, World.ownsRow_nil _ _ _ _, hc⟩
theorem rWalk_next (l : List FnV) (t : TkV) (ts : List TkV) (h : Int) (bs : List BkV) (out : List Int) : rWalk l (t :: ts) h bs out = if (rTok l h bs t.sign t.name).1 = 0 then rWalk l ts (rTok l h bs t.sign t.name).2.1 (rTok l h bs t.sign t.name).2.2 (out ++ [h]) else ((rTok l h bs t.sign t.name).1, []) := by
  rw [rWalk]
theorem rown_besides {w w' : World} {B n k : Nat} {e : TypeId} {v : Value} {xs : List Value} {T : List Nat} (h : w.ownsRow B e k v n xs) (hc : Chg T w w') (hT : ∀ g, v.ownBlock = some g → g ∉ T) : w'.ownsRow B e k v n xs := by
  refine ⟨h.1, h.2.imp id ?_⟩
  rintro ⟨g, cap, cur, rfl, hb, hg, r⟩
  refine ⟨g, cap, cur, rfl, hb, ?_, r⟩
  rw [hc.block g (tf_lt hg) (hT g rfl)]
  exact hg
section
variable {W : World} {gs B : Nat} {h : Int} {vo : Value} {bs : List BkV} {A : Option Addr} {n c : Nat} {l : List FnV} {pages most : Int}
theorem stT_ge (s : St W gs B h vo bs) : ∀ i ∈ stT gs vo, gs ≤ i := fun i hi => by
  unfold stT at hi
  rcases List.mem_cons.1 hi with rfl | hi
  · exact Nat.le_refl _
  · cases hb : vo.ownBlock with
    | none => rw [hb] at hi; simp at hi
    | some g =>
      rw [hb] at hi
      simp at hi
      subst hi
      have := (s.own.lt _ hb).1
      have := s.lo
      omega
theorem token_any (s : St W gs B h vo bs) (hF : Fnr W A n c l) (t : TkV) (hne : isEnd t.sign → 0 < bs.length) (hfew : bs.length < 1000) : Calls Try.prog 77 #[.pointer (some ⟨gs, 0, none⟩), unitV pages most A n c, .agg (tkC t).toArray] W (TkPost gs B vo (rTok l h bs t.sign t.name) W) := by
  by_cases he : isEnd t.sign
  · rcases List.eq_nil_or_concat bs with rfl | ⟨ys, x, rfl⟩
    · exact absurd (hne he) (by simp)
    · rw [List.concat_eq_append] at s ⊢
      exact token_ends s hF t he
  · exact token_other s hF t he hfew
set_option maxHeartbeats 8000000 in
set_option maxRecDepth 100000 in
theorem rfunc_any {w : World} (hF : Fnr w A n c l) (hcode : ∀ f ∈ l, f.code.size ≤ 1000000) (k : Int) : Calls Try.prog 61 #[unitV pages most A n c, .int .i64 k] w (FnPost (rFn l k) w) := by
  unfold unitV
  obtain ⟨i0, hi0, hz0, hz1, hz2⟩ := info_parts info_int
  obtain ⟨R, hR⟩ : ∃ R, R = rFn l k := ⟨_, rfl⟩
  rw [← hR]
  unfold rFn at hR
  rw [hF.len] at hR
  have HR := Lib.hid hR
  have H := Lib.hid hF
  have hmax := hF.max
  clear hF hR
  go_enter Try.func61, Try.ntmps61
  go_upto_region 1 with fail
  have hN := Whole.new w 31 [.int .i64 pages, .int .i64 most, .slice A n c]
  have hal : Chg [] w (w.alloc (.cells #[.int .i64 pages, .int .i64 most, .slice A n c] 31)) := (Chg.refl [] w).alloc _
  have HF1 := Lib.hid (H.out.keep hal)
  have HU1 := Lib.hid hN
  have HC1 := Lib.hid hal
  have HBW := Lib.hid (show w.heap.size ≤ w.heap.size from Nat.le_refl _)
  obtain ⟨gu, hgu⟩ : ∃ g, g = w.heap.size := ⟨_, rfl⟩
  rw [← hgu] at HU1 ⊢
  generalize w.alloc (.cells #[.int .i64 pages, .int .i64 most, .slice A n c] 31) = w1 at HF1 HU1 HC1 ⊢
  clear hN hal hgu
  have u2 := HU1.out.cell 2
  by_cases hk0 : k < 0
  · have qk : decide (k < 0) = true := by simpa using hk0
    have HP := Lib.hid (show FnPost R w (.returned (.tuple #[.slice none 0 0, .int .i64 23])) w1 from fn_no 23 (by rw [HR.out, if_pos (.inl hk0)]) HC1.out)
    clear hk0
    go_wp2_with fail
    go_ret2
    exact HP.out
  have qk : decide (k < 0) = false := by simpa using hk0
  by_cases hkn : (n : Int) ≤ k
  · have qn : decide ((n : Int) ≤ k) = true := by simpa using hkn
    have HP := Lib.hid (show FnPost R w (.returned (.tuple #[.slice none 0 0, .int .i64 23])) w1 from fn_no 23 (by rw [HR.out, if_pos (.inr hkn)]) HC1.out)
    clear hkn hk0
    go_wp2_with fail
    go_ret2
    exact HP.out
  have qn : decide ((n : Int) ≤ k) = false := by simpa using hkn
  obtain ⟨q, rfl⟩ : ∃ q : Nat, k = (q : Int) := ⟨k.toNat, by omega⟩
  have hqn : q < n := by omega
  obtain ⟨f, hfk⟩ : ∃ f, l[q]? = some f := ⟨l[q]'(by rw [HF1.out.len]; exact hqn), by simp⟩
  have HR1 := Lib.hid (show R = rFunc l f.code from by rw [HR.out, if_neg (by omega), show ((q : Int)).toNat = q from rfl, hfk])
  have hcd := hcode f (List.mem_of_getElem? hfk)
  obtain ⟨fb, fo, rfl, hfbl, e0, e1, e2⟩ := HF1.out.cell hfk
  have hqI : (q : Int) < (n : Int) := by omega
  clear hfk hk0 hkn hcode e0 e1 HR
  go_wp2_with fail
  refine (tokens_any f.code (by omega)).mono ?_
  rintro e w2 ⟨hc2, hT⟩
  have HC2 := Lib.hid (HC1.out.new hc2)
  have HF2 := Lib.hid (HF1.out.keep hc2)
  have HU2 := Lib.hid (HU1.out.keep hc2)
  clear u2 e2 hfbl
  rcases hT with ⟨ts, v2, hts, htl, rfl, ho2⟩ | ⟨hts, rfl⟩
  rotate_left
  · have hE : tokE f.code = 3 ∨ tokE f.code = 12 := by unfold tokE; split <;> simp
    have HP := Lib.hid (show FnPost R w (.returned (.tuple #[.slice none 0 0, .int .i64 (tokE f.code)])) w2 from fn_no _ (by rw [HR1.out, rFunc, hts]) HC2.out)
    clear hts hc2
    generalize tokE f.code = te at hE HP ⊢
    have qe : (te != 0) = true := by simp; omega
    clear hE
    go_wp2_with fail
    go_ret2
    exact HP.out
  obtain ⟨TA, tc, rfl, hTk⟩ := Tks.of_own ho2 (by omega)
  have HT2 := Lib.hid hTk
  have HR2 := Lib.hid (show R = match rNest (signs ts) with | none => (13, []) | some _ => rWalk l ts 0 [] [] from by rw [HR1.out, rFunc, hts]; rfl)
  clear hts hc2 ho2 hTk HR1
  obtain ⟨tn, htn⟩ : ∃ tn, tn = ts.length := ⟨_, rfl⟩
  rw [← htn] at HT2 htl ⊢
  have HTN := Lib.hid htn
  clear htn
  go_wp2_with fail
  refine (rnest_any HT2.out).mono ?_
  rintro e w3 ⟨hc3, hT⟩
  have HC3 := Lib.hid (HC2.out.new hc3)
  have HF3 := Lib.hid (HF2.out.keep hc3)
  have HU3 := Lib.hid (HU2.out.keep hc3)
  have HT3 := Lib.hid (HT2.out.keep hc3)
  clear hc3
  rcases hT with ⟨t3, d3, g3, hn3, _, rfl, _⟩ | ⟨hn3, rfl⟩
  rotate_left
  · have HP := Lib.hid (show FnPost R w (.returned (.tuple #[.slice none 0 0, .int .i64 13])) w3 from fn_no 13 (by rw [HR2.out, hn3]) HC3.out)
    clear hn3
    go_wp2_with fail
    go_ret2
    exact HP.out
  have HR3 := Lib.hid (show R = rWalk l ts 0 [] [] from by rw [HR2.out, hn3])
  have HD := Lib.hid (dRun_nest hn3)
  clear hn3
  have hN4 := Whole.new w3 130 [.int .i64 0, .slice none 0 0]
  have hal4 : Chg [] w3 (w3.alloc (.cells #[.int .i64 0, .slice none 0 0] 130)) := (Chg.refl [] w3).alloc _
  have hsz4 : (w3.alloc (.cells #[.int .i64 0, .slice none 0 0] 130)).heap.size = w3.heap.size + 1 := Array.size_push _
  go_upto_region 12 with fail
  have HC4 := Lib.hid (HC3.out.new hal4)
  have HF4 := Lib.hid (HF3.out.keep hal4)
  have HU4 := Lib.hid (HU3.out.keep hal4)
  have HT4 := Lib.hid (HT3.out.keep hal4)
  have HGS := Lib.hid (show w.heap.size ≤ w3.heap.size from HC3.out.size)
  generalize w3.alloc (.cells #[.int .i64 0, .slice none 0 0] 130) = w4 at hN4 hal4 hsz4 HC4 HF4 HU4 HT4 ⊢
  have HC34 := Lib.hid hal4
  obtain ⟨gs, hgs⟩ : ∃ g, g = w3.heap.size := ⟨_, rfl⟩
  rw [← hgs] at hN4 hsz4 HGS ⊢
  have HS4 := Lib.hid (show St w4 gs (gs + 1) 0 (.slice none 0 0) [] from ⟨hN4, World.ownsRow_nil _ _ _ _, by omega, by simp, by omega, fun b hb => by simp at hb, by omega⟩)
  have HG3 := Lib.hid hgs
  clear hN4 hal4 hsz4 hgs HC3 HC2 HF2 HU2 HT2 HC1 HF1 HU1 HF4 HU4 HT4
  have HTL := Lib.hid htl
  go_loopw [12, 51] (fun v i wr => ∃ (j : Nat) (h : Int) (bs : List BkV) (vo : Value) (out : List Int), i = .int .i64 (j : Int) ∧ j ≤ tn ∧ Hid (St wr gs (gs + 1) h vo bs) ∧ Hid (wr.ownsRow (gs + 1) 3 1 v j (nms out)) ∧
    Hid (DRun (signs (ts.drop j)) bs.length) ∧ Hid (R = rWalk l (ts.drop j) h bs out) ∧ Hid (Chg [] w wr) ∧ Hid (Chg [] w3 wr)) (fun _ i _ => tn - (intOf i).toNat)
  case atStart => exact ⟨0, 0, [], _, [], rfl, by omega, HS4, Lib.hid (World.ownsRow_nil _ _ _ _), HD, HR3, HC4, HC34⟩
  case round =>
    obtain ⟨j, h, bs, vo, out, rfl, hj, HS, HO, HDR, HRW, HC, HCW⟩ := hrel
    obtain ⟨AO, co, rfl, _⟩ := own_slice HO.out
    by_cases hjn : j < tn
    · have hjI : (j : Int) < (tn : Int) := by omega
      obtain ⟨t, htj⟩ : ∃ t, ts[j]? = some t := ⟨ts[j]'(by rw [← HTN.out]; exact hjn), by simp⟩
      have HDJ := Lib.hid (show ts.drop j = t :: ts.drop (j + 1) from List.drop_eq_getElem?_toList_append.trans (by rw [htj]; rfl))
      have HTr := Lib.hid (HT3.out.keep HCW.out)
      obtain ⟨b, o, rfl, hbl, t0, t1, t2⟩ := HTr.out.cell htj
      clear htj
      go_upto_region 14 with fail
      have hal5 : Chg [] wr (wr.alloc (.cells #[.int .i32 t.sign, .int .i64 t.n, .int .i32 t.name] 121)) := (Chg.refl [] wr).alloc _
      have HT5 := Lib.hid (Whole.new wr 121 [.int .i32 t.sign, .int .i64 t.n, .int .i32 t.name])
      have HS5 := Lib.hid (HS.out.keep hal5)
      have HO5 := Lib.hid (rown_keep HO.out hal5)
      have HU5 := Lib.hid (HU3.out.keep (HCW.out.new hal5))
      have HC5 := Lib.hid (HC.out.new hal5)
      have HCW5 := Lib.hid (HCW.out.new hal5)
      obtain ⟨gt, hgt⟩ : ∃ g, g = wr.heap.size := ⟨_, rfl⟩
      rw [← hgt] at HT5 ⊢
      generalize wr.alloc (.cells #[.int .i32 t.sign, .int .i64 t.n, .int .i32 t.name] 121) = w5 at hal5 HT5 HS5 HO5 HU5 HC5 HCW5 ⊢
      clear hal5 hgt t0 t1 t2 hbl HTr HC HCW HO HS
      have c0 := HS5.out.rec_.cell 0
      have HAL := Lib.hid (show Chg [] w5 (w5.alloc (.cells #[.int .i64 h] 3)) from (Chg.refl [] w5).alloc _)
      have HO6 := Lib.hid (rown_keep HO5.out HAL.out)
      have HRM := Lib.hid HS5.out.room
      have hjb := HTL.out
      clear htl
      go_wp2_with (at_builtin
                   refine wpList_append_own _ rfl (.tmp 55) (.tmp 60) _ rfl (gs + 1) 3 i0 _ 1 8 Try.underlying43 hi0 hz0 hz1 hz2 rfl (by decide) (.slice AO j co) j (nms out) rfl HO6.out ⟨w5.heap.size, 0, none⟩ 1 1 [.int .i64 h] rfl rfl (cells_page _ _ _) (by simp [Value.oneCell']) (by simp only [maxLen]; omega) (by omega) (by have := HRM.out; simp; omega) ?_
                   intro v' w6 ho6 hg6 _
                   obtain ⟨A6, c6, rfl, _⟩ := own_slice ho6
                   have HO7 := Lib.hid ho6
                   have HG7 := Lib.hid hg6
                   have HU6 := Lib.hid (whole_grown (HU5.out.keep HAL.out) HO6.out (by decide) hg6)
                   have HT6 := Lib.hid (whole_grown (HT5.out.keep HAL.out) HO6.out (by decide) hg6)
                   have HC6 := Lib.hid (show Chg [] w w6 from chg_grown2 (HC5.out.new HAL.out) hg6 (fun g hg => by have := (HO6.out.lt g hg).1; have := HGS.out; omega))
                   have HCW6 := Lib.hid (show Chg [] w3 w6 from chg_grown2 (HCW5.out.new HAL.out) hg6 (fun g hg => by have := (HO6.out.lt g hg).1; have := HG3.out; omega))
                   have u0 := HU6.out.cell 0
                   have u1 := HU6.out.cell 1
                   have u2 := HU6.out.cell 2
                   have t0 := HT6.out.cell 0
                   have t1 := HT6.out.cell 1
                   have t2 := HT6.out.cell 2
                   clear ho6 hg6)
      have HS7 := Lib.hid (show St w6 gs (gs + 1) h vo bs from ⟨whole_grown (HS5.out.keep HAL.out).rec_ HO6.out (by decide) HG7.out, rown_grown (HS5.out.keep HAL.out).own HO6.out (by decide) HG7.out, HS5.out.lo, HS5.out.few, HS5.out.hr, HS5.out.wf, Nat.le_trans (HS5.out.keep HAL.out).room HG7.out.size⟩)
      have HDD := Lib.hid (show DRun (t.sign :: signs (ts.drop (j + 1))) bs.length from by have := HDR.out; rw [HDJ.out] at this; exact this)
      obtain ⟨RT, hRT⟩ : ∃ RT, RT = rTok l h bs t.sign t.name := ⟨_, rfl⟩
      have HTK := Lib.hid (token_any (pages := pages) (most := most) HS7.out (HF3.out.keep HCW6.out) t HDD.out.2.1 (by have := HDD.out.1; omega))
      have HRW2 := Lib.hid (show R = if RT.1 = 0 then rWalk l (ts.drop (j + 1)) RT.2.1 RT.2.2 (out ++ [h]) else (RT.1, []) from by rw [HRW.out, HDJ.out, rWalk_next, hRT])
      have HLN := Lib.hid (show RT.1 = 0 → RT.2.2.length = tokLen t.sign bs.length from fun he => by rw [hRT] at he ⊢; exact rTok_len he)
      rw [← hRT] at HTK
      have HGE := Lib.hid (stT_ge HS7.out)
      clear hRT
      refine HTK.out.mono ?_
      rintro e w7 ⟨rfl, hS8, hc7⟩
      have HC7 := Lib.hid (show Chg [] w w7 from HC6.out.then_ hc7 (fun i hi hlt => by have := HGE.out i hi; have := HGS.out; have := HG3.out; omega))
      have HCW7 := Lib.hid (show Chg [] w3 w7 from HCW6.out.then_ hc7 (fun i hi hlt => by have := HGE.out i hi; have := HG3.out; omega))
      have HO8 := Lib.hid (rown_besides HO7.out hc7 (fun g hg hm => by
        unfold stT at hm
        rcases List.mem_cons.1 hm with rfl | hm
        · have := (HO7.out.lt _ hg).1; omega
        · have := own_ne HO7.out HS7.out.own (by decide) hg
          cases hb : vo.ownBlock with
          | none => rw [hb] at hm; simp at hm
          | some g2 => rw [hb] at hm this; simp at hm; subst hm; exact this rfl))
      clear hc7 u0 u1 u2 t0 t1 t2 c0
      by_cases her : RT.1 = 0
      · obtain ⟨vo8, hS9⟩ := hS8 her
        have HS9 := Lib.hid hS9
        have HR9 := Lib.hid (HRW2.out.trans (if_pos her))
        have HD9 := Lib.hid (show DRun (signs (ts.drop (j + 1))) RT.2.2.length from by rw [HLN.out her]; exact HDD.out.2.2)
        rw [her]
        clear hS8 hS9 her
        go_wp2_with fail
        go_roundw
        case rel => exact ⟨j + 1, RT.2.1, RT.2.2, vo8, out ++ [h], by go_num, by omega, HS9, Lib.hid (by have := HO8.out; simpa [nms] using this), HD9, HR9, HC7, HCW7⟩
        case measure => simp [intOf]; omega
      · have qe : (RT.1 != 0) = true := by simpa using her
        have HP := Lib.hid (show FnPost R w (.returned (.tuple #[.slice none 0 0, .int .i64 RT.1])) w7 from fn_no _ (HRW2.out.trans (if_neg her)) HC7.out)
        clear hS8 her
        go_wp2_with fail
        go_ret2
        exact HP.out
    · have hjI : (tn : Int) ≤ (j : Int) := by omega
      have HRZ := Lib.hid (show R = if h ≠ 1 ∧ 0 ≤ h then (14, []) else (0, out) from by rw [HRW.out, List.drop_eq_nil_of_le (by rw [← HTN.out]; omega), rWalk])
      have c0 := HS.out.rec_.cell 0
      have HOW := Lib.hid (own_more_n HO.out (show w.heap.size ≤ gs + 1 from by have := HGS.out; omega))
      have HJO := Lib.hid (show j = out.length from by have := HO.out.1; simpa [nms] using this.symm)
      by_cases h1 : h = 1
      · have q1 : (h != 1) = false := by simpa using h1
        have HP := Lib.hid (show FnPost R w (.returned (.tuple #[.slice AO j co, .int .i64 0])) wr from by
          rw [HRZ.out, if_neg (by omega)]
          exact ⟨_, rfl, by rw [← HJO.out]; exact HOW.out, HC.out⟩)
        clear h1
        go_wp2_with fail
        go_ret2
        exact HP.out
      · have q1 : (h != 1) = true := by simpa using h1
        by_cases h0 : 0 ≤ h
        · have q0 : decide (0 ≤ h) = true := by simpa using h0
          have HP := Lib.hid (show FnPost R w (.returned (.tuple #[.slice none 0 0, .int .i64 14])) wr from fn_no 14 (by rw [HRZ.out, if_pos ⟨h1, h0⟩]) HC.out)
          clear h1 h0
          go_wp2_with fail
          go_ret2
          exact HP.out
        · have q0 : decide (0 ≤ h) = false := by simpa using h0
          have HP := Lib.hid (show FnPost R w (.returned (.tuple #[.slice AO j co, .int .i64 0])) wr from by
            rw [HRZ.out, if_neg (by omega)]
            exact ⟨_, rfl, by rw [← HJO.out]; exact HOW.out, HC.out⟩)
          clear h1 h0
          go_wp2_with fail
          go_ret2
          exact HP.out
end
end Go.Proofs.Ytnohfdojcdhfoaa
namespace Go.Proofs.Ytnohfdojcdhfoaa
open Go.RowKit
def sNext (s : Int) (st : List Int) : List Int := if s = 63 ∨ s = 91 then st ++ [s] else if s = 58 then st.dropLast ++ [58] else if s = 59 ∨ s = 93 then st.dropLast else st
def TopS (s : Int) (st : List Int) : Prop := (s = 58 → ∃ y, st = y ++ [63]) ∧ (s = 59 → ∃ y t, st = y ++ [t] ∧ t ≠ 91) ∧ (s = 93 → ∃ y, st = y ++ [91]) ∧ (s = 126 → 91 ∈ st) ∧ ((s = 63 ∨ s = 91) → st.length + 1 ≤ 16)
def SOk : List Int → List Int → Prop
  | [], _ => True
  | s :: r, st => TopS s st ∧ SOk r (sNext s st)
def sgn (p : NPart) : Int := if p.loop = true then 91 else if p.waits = p.at_ then 63 else 58
def stk (m : NSt) : List Int := (m.op.map sgn).reverse
theorem stk_cons (p : NPart) (r : List NPart) (t : List Int) (d : Nat) : stk ⟨t, d, p :: r⟩ = stk ⟨t, d, r⟩ ++ [sgn p] := by simp [stk]
theorem leaveP_sgn {i : Nat} : ∀ {l o : List NPart}, leaveP i l = some o → o.map sgn = l.map sgn ∧ (91 ∈ l.map sgn) ∧ ∀ q ∈ o, ∃ p ∈ l, q.at_ = p.at_ ∧ q.waits = p.waits
  | [], o, h => by cases h
  | p :: r, o, h => by
    unfold leaveP at h
    by_cases hl : p.loop = true
    · rw [if_pos hl] at h
      injection h with h
      subst h
      refine ⟨by simp [sgn], by simp [sgn, hl], fun q hq => ?_⟩
      rcases List.mem_cons.1 hq with rfl | hq
      · exact ⟨p, by simp, rfl, rfl⟩
      · exact ⟨q, by simp [hq], rfl, rfl⟩
    · rw [if_neg hl] at h
      cases hr : leaveP i r with
      | none => rw [hr] at h; cases h
      | some o' =>
        rw [hr] at h
        injection h with h
        subst h
        obtain ⟨h1, h2, h3⟩ := leaveP_sgn hr
        refine ⟨by simp [h1], by simp at h2 ⊢; exact .inr h2, fun q hq => ?_⟩
        rcases List.mem_cons.1 hq with rfl | hq
        · exact ⟨_, by simp, rfl, rfl⟩
        · obtain ⟨p', hp, e⟩ := h3 q hq
          exact ⟨p', by simp [hp], e⟩
theorem nTake_top {i : Nat} {s : Int} {m m' : NSt} (h : nTake i s m = some m') (hm : ∀ p ∈ m.op, p.at_ < i) : TopS s (stk m) ∧ stk m' = sNext s (stk m) ∧ ∀ p ∈ m'.op, p.at_ < i + 1 := by
  obtain ⟨t, d, op⟩ := m
  simp only at hm
  have hm1 : ∀ p ∈ op, p.at_ < i + 1 := fun p hp => by have := hm p hp; omega
  unfold nTake at h
  simp only at h
  split at h
  · rename_i hs
    split at h
    · rename_i h16
      injection h with h; subst h
      refine ⟨⟨fun e => by omega, fun e => by omega, fun e => by omega, fun e => by omega, fun _ => by simp [stk]; omega⟩, ?_, fun p hp => ?_⟩
      · rw [stk_cons, sNext, if_pos hs]
        congr 1
        rcases hs with rfl | rfl <;> simp [sgn]
      · rcases List.mem_cons.1 hp with rfl | hp
        · simp
        · exact hm1 p hp
    · cases h
  rename_i hs
  split at h
  · rename_i h58
    subst h58
    split at h
    · rename_i p r
      split at h
      · rename_i hc
        injection h with h; subst h
        have hpa := hm p (by simp)
        have e1 : sgn p = 63 := by unfold sgn; rw [if_neg (by rw [hc.1]; decide), if_pos hc.2]
        refine ⟨⟨fun _ => ⟨_, by rw [stk_cons, e1]⟩, fun e => by omega, fun e => by omega, fun e => by omega, fun e => by omega⟩, ?_, fun q hq => ?_⟩
        · rw [stk_cons, stk_cons, sNext, if_neg (by omega), if_pos rfl, List.dropLast_concat]
          have e2 : sgn ⟨p.loop, p.at_, i, p.left⟩ = 58 := by unfold sgn; simp only; rw [if_neg (by rw [hc.1]; decide), if_neg (by omega)]
          rw [e2]
          rfl
        · rcases List.mem_cons.1 hq with rfl | hq
          · simp only; omega
          · exact hm1 q (by simp [hq])
      · cases h
    · cases h
  rename_i h58
  split at h
  · rename_i h59
    subst h59
    split at h
    · rename_i p r
      split at h
      · rename_i hc
        injection h with h; subst h
        refine ⟨⟨fun e => by omega, fun _ => ⟨_, _, stk_cons _ _ _ _, by unfold sgn; rw [if_neg (by rw [hc]; decide)]; split <;> decide⟩, fun e => by omega, fun e => by omega, fun e => by omega⟩, ?_, fun q hq => hm1 q (by simp [hq])⟩
        rw [stk_cons, sNext, if_neg (by omega), if_neg (by omega), if_pos (.inl rfl), List.dropLast_concat]
        rfl
      · cases h
    · cases h
  rename_i h59
  split at h
  · rename_i h93
    subst h93
    split at h
    · rename_i p r
      split at h
      · rename_i hc
        injection h with h; subst h
        have e1 : sgn p = 91 := by unfold sgn; rw [if_pos hc]
        refine ⟨⟨fun e => by omega, fun e => by omega, fun _ => ⟨_, by rw [stk_cons, e1]⟩, fun e => by omega, fun e => by omega⟩, ?_, fun q hq => hm1 q (by simp [hq])⟩
        rw [stk_cons, sNext, if_neg (by omega), if_neg (by omega), if_pos (.inr rfl), List.dropLast_concat]
        rfl
      · cases h
    · cases h
  rename_i h93
  split at h
  · rename_i h126
    subst h126
    cases hl : leaveP i op with
    | none => rw [hl] at h; cases h
    | some o =>
      rw [hl] at h
      injection h with h; subst h
      obtain ⟨h1, h2, h3⟩ := leaveP_sgn hl
      refine ⟨⟨fun e => by omega, fun e => by omega, fun e => by omega, fun _ => by unfold stk; simpa using h2, fun e => by omega⟩, ?_, fun q hq => ?_⟩
      · rw [sNext, if_neg (by omega), if_neg (by omega), if_neg (by omega)]
        unfold stk
        simp only
        rw [h1]
      · obtain ⟨p, hp, e, _⟩ := h3 q hq
        have := hm p hp
        omega
  · rename_i h126
    injection h with h; subst h
    exact ⟨⟨fun e => absurd e h58, fun e => absurd e h59, fun e => absurd e h93, fun e => absurd e h126, fun e => absurd e hs⟩, by rw [sNext, if_neg hs, if_neg h58, if_neg (by omega)], hm1⟩
theorem sOk_run : ∀ (rest : List Int) (i : Nat) (m m' : NSt), (∀ p ∈ m.op, p.at_ < i) → nRun i rest m = some m' → SOk rest (stk m)
  | [], _, _, _, _, _ => trivial
  | s :: rest, i, m, m', hm, h => by
    unfold nRun at h
    cases ht : nTake i s ⟨m.tO.set i (-1), m.deep, m.op⟩ with
    | none => rw [ht] at h; cases h
    | some m2 =>
      rw [ht] at h
      obtain ⟨h1, h2, h3⟩ := nTake_top ht hm
      refine ⟨h1, ?_⟩
      have := sOk_run rest (i + 1) m2 m' h3 h
      rw [h2] at this
      exact this
theorem sOk_nest {ss : List Int} {R : List Int × Nat} (h : rNest ss = some R) : SOk ss [] := by
  rw [← nest_same] at h
  unfold nNest at h
  cases hr : nRun 0 ss ⟨List.replicate ss.length 0, 0, []⟩ with
  | none => rw [hr] at h; cases h
  | some m => exact sOk_run ss 0 _ m (fun p hp => by simp at hp) hr
theorem split_last {α β : Type} {f : α → β} {l : List α} {y : List β} {b : β} (h : l.map f = y ++ [b]) : ∃ ys x, l = ys ++ [x] ∧ f x = b := by
  rcases List.eq_nil_or_concat l with rfl | ⟨ys, x, rfl⟩
  · simp at h
  · rw [List.concat_eq_append] at h ⊢
    rw [List.map_append] at h
    have := List.append_inj' h (by simp)
    exact ⟨ys, x, rfl, by simpa using this.2⟩
theorem topS_top {s : Int} {bs : List BkV} (h : TopS s (bs.map (·.sign))) : Top s bs := by
  refine ⟨fun e => ?_, fun e => ?_, fun e => ?_, fun e => ?_⟩
  · obtain ⟨y, hy⟩ := h.1 e
    obtain ⟨ys, x, h1, h2⟩ := split_last hy
    exact ⟨ys, x, h1, h2⟩
  · obtain ⟨y, t, hy, ht⟩ := h.2.1 e
    obtain ⟨ys, x, h1, h2⟩ := split_last hy
    exact ⟨ys, x, h1, by rw [h2]; exact ht⟩
  · obtain ⟨y, hy⟩ := h.2.2.1 e
    obtain ⟨ys, x, h1, h2⟩ := split_last hy
    exact ⟨ys, x, h1, h2⟩
  · have := h.2.2.2.1 e
    obtain ⟨x, hx, hs⟩ := List.mem_map.1 this
    exact ⟨x, hx, hs⟩
theorem rLeave_map {β : Type} (f : BkV → β) (hf : ∀ x : BkV, f ⟨x.sign, x.base, x.other, true⟩ = f x) (h : Int) (bs : List BkV) : ∀ k, (rLeave h bs k).2.2.map f = bs.map f
  | 0 => rfl
  | k + 1 => by
    rw [rLeave]
    split
    · rfl
    · rename_i x hx
      split
      · simp only [List.map_set]
        apply List.ext_getElem?
        intro j
        rw [List.getElem?_set]
        split
        · rename_i e
          subst e
          have hl := (List.getElem?_eq_some_iff.1 hx).1
          rw [if_pos (by simpa using hl)]
          simp [hx, hf]
        · rfl
      · exact rLeave_map f hf h bs k
theorem rLeave_signs (h : Int) (bs : List BkV) (k : Nat) : (rLeave h bs k).2.2.map (·.sign) = bs.map (·.sign) := rLeave_map _ (fun _ => rfl) h bs k
theorem rLeave_h (h : Int) (bs : List BkV) : ∀ k, (rLeave h bs k).1 = true → (rLeave h bs k).2.1 = -1
  | 0, e => by cases e
  | k + 1, e => by
    rw [rLeave] at e ⊢
    split
    · rename_i hx
      rw [hx] at e
      cases e
    · rename_i x hx
      rw [hx] at e
      simp only at e
      split
      · rfl
      · rename_i hn
        rw [if_neg hn] at e
        exact rLeave_h h bs k e
theorem eEnd_ok {h : Int} {ys : List BkV} {x : BkV} {s : Int} (he : (eEnd h ys x s).1 = 0) : (rEnds h ys x s).1 = true ∧ (eEnd h ys x s).2 = (rEnds h ys x s).2 := by
  unfold eEnd at he ⊢
  rcases hr : rEnds h ys x s with ⟨b, h', bs'⟩
  rw [hr] at he
  cases b with
  | true => exact ⟨rfl, rfl⟩
  | false => simp at he
theorem rEnds_ys {h : Int} {ys : List BkV} {x : BkV} {s : Int} (hs : s ≠ 58) : (rEnds h ys x s).2.2 = ys := by
  unfold rEnds
  rw [if_neg hs]
  split
  · split <;> rfl
  · split <;> rfl
theorem cTurn_next {h : Int} {bs : List BkV} {s : Int} (he : (cTurn h bs s).1 = 0) : (cTurn h bs s).2.2.map (·.sign) = sNext s (bs.map (·.sign)) := by
  by_cases hs : isEnd s
  · rcases List.eq_nil_or_concat bs with rfl | ⟨ys, x, rfl⟩
    · unfold cTurn at he
      rw [if_pos hs] at he
      simp at he
    · rw [List.concat_eq_append] at he ⊢
      rw [cTurn_end hs] at he ⊢
      obtain ⟨h1, h2⟩ := eEnd_ok he
      rw [h2]
      unfold sNext
      rcases hs with rfl | rfl | rfl
      · unfold rEnds
        rw [if_pos rfl, if_neg (by omega), if_pos rfl]
        simp
      · rw [rEnds_ys (by decide), if_neg (by omega), if_neg (by omega), if_pos (.inl rfl)]
        simp
      · rw [rEnds_ys (by decide), if_neg (by omega), if_neg (by omega), if_pos (.inr rfl)]
        simp
  · unfold cTurn at he ⊢
    rw [if_neg hs] at he ⊢
    unfold isEnd at hs
    unfold sNext
    by_cases h1 : s = 63 ∨ s = 91
    · rw [if_pos h1, if_pos h1]; simp
    · rw [if_neg h1, if_neg h1, if_neg (show ¬ s = 58 by omega), if_neg (show ¬ (s = 59 ∨ s = 93) by omega)]
      rw [if_neg h1] at he
      by_cases h2 : s = 126
      · rw [if_pos h2] at he ⊢
        unfold lLeave at he ⊢
        have hk := rLeave_signs h bs bs.length
        rcases hr : rLeave h bs bs.length with ⟨b, h', bs'⟩
        rw [hr] at hk he
        cases b with
        | true => exact hk
        | false => simp at he
      · rw [if_neg h2]
        by_cases h3 : s = 161
        · rw [if_pos h3]
        · rw [if_neg h3]
def bkey (x : BkV) : Int × Int × Int := (x.sign, x.base, x.other)
theorem Bas.of_key {h h' : Int} {bs bs' : List BkV} (hb : Bas h bs) (hk : bs'.map bkey = bs.map bkey) (ht : 0 ≤ h' → ∀ x ∈ bs, x.base ≤ h') : Bas h' bs' := by
  refine ⟨?_, fun x hx hs => ?_, fun h0 x hx => ?_⟩
  · have h1 : (bs.map bkey).Pairwise fun a b => a.2.1 ≤ b.2.1 := List.pairwise_map.2 hb.sorted
    rw [← hk] at h1
    exact (List.pairwise_map (f := bkey) (R := fun a b => a.2.1 ≤ b.2.1)).1 h1
  · have : bkey x ∈ bs.map bkey := by rw [← hk]; exact List.mem_map_of_mem hx
    obtain ⟨y, hy, e⟩ := List.mem_map.1 this
    simp only [bkey, Prod.mk.injEq] at e
    have := hb.oth y hy (by omega)
    omega
  · have : bkey x ∈ bs.map bkey := by rw [← hk]; exact List.mem_map_of_mem hx
    obtain ⟨y, hy, e⟩ := List.mem_map.1 this
    simp only [bkey, Prod.mk.injEq] at e
    have := ht h0 y hy
    omega
theorem Bas.turn {h : Int} {bs : List BkV} {s : Int} (hb : Bas h bs) (hh : -1 ≤ h) (hpos : (s = 63 ∨ s = 91) → 0 ≤ h) (he : (cTurn h bs s).1 = 0) : Bas (cTurn h bs s).2.1 (cTurn h bs s).2.2 := by
  by_cases hs : isEnd s
  · rcases List.eq_nil_or_concat bs with rfl | ⟨ys, x, rfl⟩
    · unfold cTurn at he
      rw [if_pos hs] at he
      simp at he
    · rw [List.concat_eq_append] at *
      rw [cTurn_end hs] at he ⊢
      obtain ⟨h1, h2⟩ := eEnd_ok he
      rw [h2]
      obtain ⟨hsy, _, hyx⟩ := List.pairwise_append.1 hb.sorted
      have hyx' : ∀ y ∈ ys, y.base ≤ x.base := fun y hy => hyx y hy x (by simp)
      have htx : 0 ≤ h → x.base ≤ h := fun h0 => hb.top h0 x (by simp)
      have hox := hb.oth x (by simp)
      by_cases h58 : s = 58
      · subst h58
        unfold rEnds
        rw [if_pos rfl]
        refine ⟨List.pairwise_append.2 ⟨hsy, by simp, fun y hy z hz => by simp at hz; subst hz; exact hyx' y hy⟩, fun z hz hz58 => ?_, fun _ z hz => ?_⟩
        · rcases List.mem_append.1 hz with hz | hz
          · exact hb.oth z (by simp [hz]) hz58
          · simp at hz; subst hz
            simp only
            rcases Int.lt_or_le h 0 with h3 | h3
            · left; omega
            · exact .inr (htx h3)
        · rcases List.mem_append.1 hz with hz | hz
          · exact hyx' z hz
          · simp at hz; subst hz; simp
      · have hq : (rEnds h ys x s).2.1 < 0 ∨ x.base ≤ (rEnds h ys x s).2.1 := by
          unfold rEnds at h1 ⊢
          rw [if_neg h58] at h1 ⊢
          split
          · rename_i hx58
            rw [if_pos hx58] at h1
            split
            · rename_i hc
              rw [if_pos hc] at h1
              cases h1
            · simp only
              have := hox hx58
              rcases Int.lt_or_le h 0 with h3 | h3
              · omega
              · have := htx h3; omega
          · rename_i hx58
            rw [if_neg hx58] at h1
            split
            · rename_i hc
              rw [if_pos hc] at h1
              cases h1
            · simp only
              split <;> omega
        rw [rEnds_ys h58]
        refine ⟨hsy, fun z hz => hb.oth z (by simp [hz]), fun h0 z hz => ?_⟩
        have := hyx' z hz
        omega
  · unfold cTurn at he ⊢
    rw [if_neg hs] at he ⊢
    by_cases h1 : s = 63 ∨ s = 91
    · rw [if_pos h1]
      have h0 := hpos h1
      refine ⟨List.pairwise_append.2 ⟨hb.sorted, by simp, fun y hy z hz => by simp at hz; subst hz; exact hb.top h0 y hy⟩, fun z hz hz58 => ?_, fun _ z hz => ?_⟩
      · rcases List.mem_append.1 hz with hz | hz
        · exact hb.oth z hz hz58
        · simp at hz; subst hz; simp only at hz58; omega
      · rcases List.mem_append.1 hz with hz | hz
        · exact hb.top h0 z hz
        · simp at hz; subst hz; simp
    · rw [if_neg h1] at he ⊢
      by_cases h2 : s = 126
      · rw [if_pos h2] at he ⊢
        unfold lLeave at he ⊢
        have hk := rLeave_map bkey (fun _ => rfl) h bs bs.length
        have hl := rLeave_h h bs bs.length
        rcases hr : rLeave h bs bs.length with ⟨b, h', bs'⟩
        rw [hr] at hk he hl
        cases b with
        | true =>
          have e : h' = -1 := hl rfl
          exact hb.of_key hk (fun h0 => by simp only at h0; omega)
        | false => simp at he
      · rw [if_neg h2]
        by_cases h3 : s = 161
        · rw [if_pos h3]
          exact ⟨hb.sorted, hb.oth, fun h0 => by simp only at h0; omega⟩
        · rw [if_neg h3]
          exact hb
theorem rTok_ok {l : List FnV} {h : Int} {bs : List BkV} {s name : Int} (hb : Bas h bs) (hb0 : ∀ x ∈ bs, 0 ≤ x.base) (hr : -1 ≤ h ∧ h ≤ 64) (he : (rTok l h bs s name).1 = 0) :
    Bas (rTok l h bs s name).2.1 (rTok l h bs s name).2.2 ∧ (rTok l h bs s name).2.2.map (·.sign) = sNext s (bs.map (·.sign)) := by
  by_cases h0 : h < 0
  · rw [rTok_dead h0] at he ⊢
    by_cases hs : isEnd s
    · rw [if_pos hs] at he ⊢
      exact ⟨hb.turn hr.1 (fun h => by unfold isEnd at hs; omega) he, cTurn_next he⟩
    · rw [if_neg hs] at he; simp at he
  · obtain ⟨T, hT⟩ : ∃ T, T = rTakes l s name := ⟨_, rfl⟩
    obtain ⟨p, q, ok⟩ := T
    cases ok with
    | false => rw [rTok_none (by omega) hT.symm] at he; simp at he
    | true =>
      rw [rTok_alive (by omega) hr.2 (hb.base (by omega)) hT.symm] at he ⊢
      have hin := rTakes_in l s name
      rw [← hT] at hin
      simp only at hin
      by_cases hc : h - baseOf bs < p ∨ 64 < h - p + q
      · rw [if_pos hc] at he; simp at he
      · rw [if_neg hc] at he ⊢
        have hb2 : Bas (h - p + q) bs := by
          refine ⟨hb.sorted, hb.oth, fun _ x hx => ?_⟩
          have h1 : x.base ≤ baseOf bs := by
            rcases List.eq_nil_or_concat bs with rfl | ⟨ys, y, rfl⟩
            · simp at hx
            · rw [List.concat_eq_append] at *
              have e : baseOf (ys ++ [y]) = y.base := by simp [baseOf]
              rw [e]
              rcases List.mem_append.1 hx with hx | hx
              · exact (List.pairwise_append.1 hb.sorted).2.2 x hx y (by simp)
              · simp at hx; subst hx; exact Int.le_refl _
          omega
        have hb5 : 0 ≤ h - p + q := by
          have h1 : 0 ≤ baseOf bs := by
            unfold baseOf
            cases hl : bs.getLast? with
            | none => exact Int.le_refl 0
            | some x => exact hb0 x (List.mem_of_getLast? hl)
          omega
        exact ⟨hb2.turn (by omega) (fun _ => hb5) he, cTurn_next he⟩
end Go.Proofs.Ytnohfdojcdhfoaa
