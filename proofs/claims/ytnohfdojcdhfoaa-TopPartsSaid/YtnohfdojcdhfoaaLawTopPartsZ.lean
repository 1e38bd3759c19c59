/-
  Locals of their own: the law.
-/
import Derived.Test.YtnohfdojcdhfoaaZTopRun1
import Derived.Test.YtnohfdojcdhfoaaZTopRun2
import Derived.Test.YtnohfdojcdhfoaaZTopRun3
import Derived.Test.YtnohfdojcdhfoaaZTopRun4
import Derived.Test.YtnohfdojcdhfoaaZTopRun5
import Derived.Test.YtnohfdojcdhfoaaZTopRun6
import Derived.Test.YtnohfdojcdhfoaaZTopRun7
import Derived.Test.YtnohfdojcdhfoaaZTopRun8
import Derived.Test.YtnohfdojcdhfoaaZTopRun9
import Derived.Test.YtnohfdojcdhfoaaFrameZ
import Derived.Test.YtnohfdojcdhfoaaTopRunZ
import Derived.Test.YtnohfdojcdhfoaaTopAwakeZ
import Derived.Test.YtnohfdojcdhfoaaTopMaskZ
import Derived.Test.YtnohfdojcdhfoaaTopMemZ
import Derived.Test.YtnohfdojcdhfoaaTopPartsPZ
import Derived.Test.YtnohfdojcdhfoaaFlow2Z
import Derived.Test.YtnohfdojcdhfoaaEgFlowZ
import Derived.Deep.QuietTactic
import Derived.BigQuiet
namespace Go.Proofs.Ytnohfdojcdhfoaa
open Go.RowKit
section
variable {w : World}
set_option maxHeartbeats 8000000 in
set_option maxRecDepth 100000 in
theorem topParts_any (a b : Int) : Calls Try.prog 20 #[.int .i64 a, .int .i64 b] w (LawPost w) := by
  obtain ⟨s', hs'⟩ := run_of (prt_f a b)
  obtain ⟨s2, hs2⟩ := run_of (prt_h a b)
  have hy : wrap64 (wrap64 (wrap64 (wrap64 (b + 1) + wrap64 (2 * a)) + a) - b) = wrap64 (wrap64 (wrap64 (b + 1) + wrap64 (a * 2)) + wrap64 (a - b)) := wrap64_congr (by unfold wrap64; omega)
  generalize wrap64 (wrap64 (wrap64 (b + 1) + wrap64 (a * 2)) + wrap64 (a - b)) = yv at hs2 hy
  generalize hx0 : wrap64 (a - b) = xv at hs'
  generalize h1 : wrap64 (b + 1) = c1 at hy
  generalize h2 : wrap64 (2 * a) = c2 at hy
  generalize h3 : wrap64 (c1 + c2) = c3 at hy
  generalize h4 : wrap64 (c3 + a) = c4 at hy
  have HI := Lib.hid (And.intro hx0 (And.intro h1 (And.intro h2 (And.intro h3 (And.intro h4 hy)))))
  clear hx0 h1 h2 h3 h4 hy
  go_enter Try.func20, Try.ntmps20
  go_upto_region 2 with fail
  generalize hw1 : (w.alloc (.cells #[.int .i32 103, .int .i64 2, .string { data := #[97, 49, 43, 65, 98, 50, 42, 66, 97, 98, 43] }, .int .i32 102, .int .i64 2, .string { data := #[97, 98, 206, 187, 103, 44, 97, 98, 45] }, .int .i32 104, .int .i64 2, .string { data := #[98, 97, 206, 187, 103, 97, 98, 206, 187, 102, 43] }] 28)).alloc (.cells #[.int .i64 0, .int .i64 0, .slice (some ⟨w.heap.size, 0, none⟩) 3 3] 31) = w1
  obtain ⟨hU1, hF1, hC1, hS1⟩ := unit_laid w prtU 0 0 3 rfl (by decide) (by decide) #[.int .i32 103, .int .i64 2, .string { data := #[97, 49, 43, 65, 98, 50, 42, 66, 97, 98, 43] }, .int .i32 102, .int .i64 2, .string { data := #[97, 98, 206, 187, 103, 44, 97, 98, 45] }, .int .i32 104, .int .i64 2, .string { data := #[98, 97, 206, 187, 103, 97, 98, 206, 187, 102, 43] }] rfl hw1
  have hsl : w.heap.size < w1.heap.size := by omega
  clear hw1 hS1
  generalize w.heap.size = gf at hU1 hF1 hsl ⊢
  generalize gf + 1 = gu at hU1 ⊢
  have HU := Lib.hid hU1
  have HF := Lib.hid hF1
  have HC := Lib.hid hC1
  have HS := Lib.hid hsl
  clear hU1 hF1 hC1 hsl
  have TOK := efT_ok (B := w1.heap.size) (Tl := []) (P := resP xv 0 (s'.fuel : Int)) (hard := [6]) (soft := [1, 2])
  refine F2.wp_flow (by kernel_rfl) (efT w1.heap.size [] (resP xv 0 (s'.fuel : Int)) [6] [1, 2]) TOK (by kernel_rfl) (by kernel_rfl) ?_
  refine F2.flow1h (r := .agg #[.int .i64 0, .int .i64 0, .slice (some ⟨gf, 0, none⟩) 3 3]) TOK rfl (.out rfl rfl) rfl (fun ev W he hW e1 => by have hu := hW.fe.whole (show Whole w1.drew gu 31 _ from HU.out) (by decide); have c0 := hu.cell 0; have c1 := hu.cell 1; have c2 := hu.cell 2; clear hu; go_simp) ?_
  refine ef_new 0 0 (by decide) (by decide) (Nat.le_refl _) rfl rfl (by kernel_rfl) (.cons (.const _) (.cons (.const _) .nil)) rfl (by intro h; cases h) ?_
  refine ef_row (Nat.le_refl _) rfl rfl (by kernel_rfl) (.cons (.const _) .nil) rfl (by intro h; cases h) ?_
  refine F2.flow_move_out TOK rfl rfl rfl (h := ?_)
  refine F2.flow_move_out TOK rfl rfl rfl (h := ?_)
  refine ef_args 2 [a, b] (Nat.le_refl _) (fun ev W he hf => by have e0 : ev (.tmp 19) = .int .i64 a := hf.1; have e1 : ev (.tmp 20) = .int .i64 b := hf.2.1; clear hf; go_simp; rfl) rfl (by intro h; cases h) ?_
  refine ef_run (fuel := 99) (kf := 1) (m2 := 2) (fun u => ∃ A m c, u = .slice A m c) rfl rfl rfl rfl (by kernel_rfl) (.inn rfl) rfl rfl (.const _) (.const _) (fun ev W hc hf => by obtain ⟨g, e, hW, _⟩ := hf; exact ⟨_, _, e, Src.of_all hW⟩) (HF.out.keep (Chg.refl [] _).drew) (fun ad e => by injection e with e; subst e; exact HS.out) prt_right rfl rfl rfl (by decide) rfl hs' (fun A c => ⟨A, _, c, rfl⟩) rfl (by intro h; cases h) ?_
  refine F2.flow_move TOK rfl (keeps_ran _ _ _ _) (.inr (keeps_ran _ _ _ _)) rfl ?_
  refine ef_x0 rfl rfl (by intro h; cases h) ?_
  refine ef_x1 rfl rfl (by intro h; cases h) ?_
  refine ef_var (Nat.le_refl _) rfl (by intro h; cases h) (fun ev W => by go_simp) ?_
  refine ef_put rfl rfl (fun u h => by obtain ⟨A, m, c, rfl⟩ := h; exact ⟨A, m, c, rfl⟩) (fun u h => by obtain ⟨A, m, c, rfl⟩ := h; rfl) rfl ?_
  refine F2.flow_assign TOK rfl (keeps_isV _) (.inr (keeps_isV _)) rfl ?_
  intro vs W hW hF hN
  obtain ⟨gx1, cs, ex, hbx, hwx, _, A5, m5, c5, rfl⟩ := hN 11 _ _ 6 rfl rfl rfl rfl
  have ee : vs 7 = .int .i64 0 := hF 7 _ rfl rfl
  have hcw : Chg [] w1 W := Chg.new (Chg.refl [] w1).drew (hW.fe.chg (show w1.drew.heap.size ≤ w1.heap.size from Nat.le_refl _))
  have HC2 := Lib.hid (HC.out.new hcw)
  have x0 := hwx.cell 0
  have x1 := hwx.cell 1
  have x2 := hwx.cell 2
  simp only [putAll, Act.put, List.setIfInBounds_toArray, List.set_cons_zero, List.set_cons_succ]
  rw [ex, ee]
  have HX := Lib.hid (show Whole W gx1 34 _ from hwx)
  have HU2 := Lib.hid (HU.out.keep hcw)
  have HF2 := Lib.hid (HF.out.keep hcw)
  have HS2 := Lib.hid (Nat.lt_of_lt_of_le HS.out hcw.size)
  obtain ⟨w2, hw2⟩ : ∃ w2 : World, w2 = W := ⟨_, rfl⟩
  subst hw2
  clear hF hN hW hwx hcw ex ee hbx TOK
  clear x0 x1 x2
  go_upto_region 3 with fail
  have TOK := efT_ok (B := w2.heap.size) (Tl := []) (P := resP yv 0 (s2.fuel : Int)) (hard := [6]) (soft := [1, 2])
  refine F2.wp_flow (by kernel_rfl) (efT w2.heap.size [] (resP yv 0 (s2.fuel : Int)) [6] [1, 2]) TOK (by kernel_rfl) (by kernel_rfl) ?_
  refine F2.flow1h (r := .agg #[.int .i64 0, .int .i64 0, .slice (some ⟨gf, 0, none⟩) 3 3]) TOK rfl (.out rfl rfl) rfl (fun ev W he hW e1 => by have hu := hW.fe.whole (show Whole w2.drew gu 31 _ from HU2.out) (by decide); have c0 := hu.cell 0; have c1 := hu.cell 1; have c2 := hu.cell 2; clear hu; go_simp) ?_
  refine ef_new 0 0 (by decide) (by decide) (Nat.le_refl _) rfl rfl (by kernel_rfl) (.cons (.const _) (.cons (.const _) .nil)) rfl (by intro h; cases h) ?_
  refine ef_row (Nat.le_refl _) rfl rfl (by kernel_rfl) (.cons (.const _) .nil) rfl (by intro h; cases h) ?_
  refine F2.flow_move_out TOK rfl rfl rfl (h := ?_)
  refine F2.flow_move_out TOK rfl rfl rfl (h := ?_)
  refine ef_args 2 [a, b] (Nat.le_refl _) (fun ev W he hf => by have e0 : ev (.tmp 29) = .int .i64 a := hf.1; have e1 : ev (.tmp 30) = .int .i64 b := hf.2.1; clear hf; go_simp; rfl) rfl (by intro h; cases h) ?_
  refine ef_run (fuel := 99) (kf := 2) (m2 := 2) (fun u => ∃ A m c, u = .slice A m c) rfl rfl rfl rfl (by kernel_rfl) (.inn rfl) rfl rfl (.const _) (.const _) (fun ev W hc hf => by obtain ⟨g, e, hW, _⟩ := hf; exact ⟨_, _, e, Src.of_all hW⟩) (HF2.out.keep (Chg.refl [] _).drew) (fun ad e => by injection e with e; subst e; exact HS2.out) prt_right rfl rfl rfl (by decide) rfl hs2 (fun A c => ⟨A, _, c, rfl⟩) rfl (by intro h; cases h) ?_
  refine F2.flow_move TOK rfl (keeps_ran _ _ _ _) (.inr (keeps_ran _ _ _ _)) rfl ?_
  refine ef_x0 rfl rfl (by intro h; cases h) ?_
  refine ef_x1 rfl rfl (by intro h; cases h) ?_
  refine ef_var (Nat.le_refl _) rfl (by intro h; cases h) (fun ev W => by go_simp) ?_
  refine ef_put rfl rfl (fun u h => by obtain ⟨A, m, c, rfl⟩ := h; exact ⟨A, m, c, rfl⟩) (fun u h => by obtain ⟨A, m, c, rfl⟩ := h; rfl) rfl ?_
  refine F2.flow_assign TOK rfl (keeps_isV _) (.inr (keeps_isV _)) rfl ?_
  intro vs W hW hF hN
  obtain ⟨gx2, cs, ex, hbx, hwx, _, A5, m5, c5, rfl⟩ := hN 11 _ _ 8 rfl rfl rfl rfl
  have ee : vs 9 = .int .i64 0 := hF 9 _ rfl rfl
  have hcw : Chg [] w2 W := Chg.new (Chg.refl [] w2).drew (hW.fe.chg (show w2.drew.heap.size ≤ w2.heap.size from Nat.le_refl _))
  have HC3 := Lib.hid (HC2.out.new hcw)
  have y0 := hwx.cell 0
  have hx1 := HX.out.keep hcw
  have x0 := hx1.cell 0
  clear hx1
  simp only [putAll, Act.put, List.setIfInBounds_toArray, List.set_cons_zero, List.set_cons_succ]
  rw [ex, ee]
  clear hF hN hW hwx hcw ex ee hbx TOK
  obtain ⟨j0, j1, j2, j3, j4, j5⟩ := HI.out
  clear HI
  go_wp2_with fail
  refine awake_any.mono ?_
  rintro e w4 ⟨rfl, hc4⟩
  have HP := Lib.hid (show LawPost w (.returned (.bool true)) w4 from ⟨rfl, HC3.out.new hc4⟩)
  clear hc4
  go_wp2_with fail
  go_ret
  exact HP.out
end
end Go.Proofs.Ytnohfdojcdhfoaa
