/-
  Remainders by calls: the law.
-/
import Derived.Test.YtnohfdojcdhfoaaZTopRun1
import Derived.Test.YtnohfdojcdhfoaaZTopRun2
import Derived.Test.YtnohfdojcdhfoaaZTopRun3
import Derived.Test.YtnohfdojcdhfoaaZTopRun4
import Derived.Test.YtnohfdojcdhfoaaZTopRun5
import Derived.Test.YtnohfdojcdhfoaaZTopRun6
import Derived.Test.YtnohfdojcdhfoaaZTopRun7
import Derived.Test.YtnohfdojcdhfoaaZTopRun8
import Derived.Test.YtnohfdojcdhfoaaZTopRun9
import Derived.Test.YtnohfdojcdhfoaaFrameZ
import Derived.Test.YtnohfdojcdhfoaaTopRunZ
import Derived.Test.YtnohfdojcdhfoaaTopAwakeZ
import Derived.Test.YtnohfdojcdhfoaaTopMaskZ
import Derived.Test.YtnohfdojcdhfoaaTopMemZ
import Derived.Test.YtnohfdojcdhfoaaTopEvensPZ
import Derived.Test.YtnohfdojcdhfoaaFlow2Z
import Derived.Test.YtnohfdojcdhfoaaEgFlowZ
import Derived.Deep.QuietTactic
import Derived.BigQuiet
namespace Go.Proofs.Ytnohfdojcdhfoaa
open Go.RowKit
section
variable {w : World}
set_option maxHeartbeats 8000000 in
set_option maxRecDepth 100000 in
theorem topEvens_any (n : Int) : Calls Try.prog 22 #[.int .i64 n] w (LawPost w) := by
  obtain ⟨k, hk, hk1⟩ : ∃ k : Nat, bits .and .i64 n 15 = (k : Int) ∧ k < 16 := ⟨(n % 16).toNat, by rw [tmask_15]; omega, by omega⟩
  obtain ⟨s', hs'⟩ := run_of (evn_all k hk1)
  have hm2 : (k : Int).tmod 2 = (k : Int) % 2 := Int.tmod_eq_emod_of_nonneg (by omega)
  go_enter Try.func22, Try.ntmps22
  go_upto_region 3 with fail
  generalize hw1 : (w.alloc (.cells #[.int .i32 111, .int .i64 1, .string { data := #[97, 63, 97, 32, 49, 45, 63, 97, 32, 50, 45, 206, 187, 111, 58, 49, 59, 58, 48, 59] }] 28)).alloc (.cells #[.int .i64 0, .int .i64 0, .slice (some ⟨w.heap.size, 0, none⟩) 1 1] 31) = w1
  obtain ⟨hU1, hF1, hC1, hS1⟩ := unit_laid w evnU 0 0 1 rfl (by decide) (by decide) #[.int .i32 111, .int .i64 1, .string { data := #[97, 63, 97, 32, 49, 45, 63, 97, 32, 50, 45, 206, 187, 111, 58, 49, 59, 58, 48, 59] }] rfl hw1
  have hsl : w.heap.size < w1.heap.size := by omega
  clear hw1 hS1
  generalize w.heap.size = gf at hU1 hF1 hsl ⊢
  generalize gf + 1 = gu at hU1 ⊢
  have HU := Lib.hid hU1
  have HF := Lib.hid hF1
  have HC := Lib.hid hC1
  have HS := Lib.hid hsl
  clear hU1 hF1 hC1 hsl
  have TOK := efT_ok (B := w1.heap.size) (Tl := []) (P := resP ((k : Int) % 2) 0 (s'.fuel : Int)) (hard := [5]) (soft := [1, 2])
  refine F2.wp_flow (by kernel_rfl) (efT w1.heap.size [] (resP ((k : Int) % 2) 0 (s'.fuel : Int)) [5] [1, 2]) TOK (by kernel_rfl) (by kernel_rfl) ?_
  refine F2.flow1h (r := .agg #[.int .i64 0, .int .i64 0, .slice (some ⟨gf, 0, none⟩) 1 1]) TOK rfl (.out rfl rfl) rfl (fun ev W he hW e1 => by have hu := hW.fe.whole (show Whole w1.drew gu 31 _ from HU.out) (by decide); have c0 := hu.cell 0; have c1 := hu.cell 1; have c2 := hu.cell 2; clear hu; go_simp) ?_
  refine ef_new 0 0 (by decide) (by decide) (Nat.le_refl _) rfl rfl (by kernel_rfl) (.cons (.const _) (.cons (.const _) .nil)) rfl (by intro h; cases h) ?_
  refine ef_row (Nat.le_refl _) rfl rfl (by kernel_rfl) (.cons (.const _) .nil) rfl (by intro h; cases h) ?_
  refine F2.flow_move_out TOK rfl rfl rfl (h := ?_)
  refine ef_args 1 [(k : Int)] (Nat.le_refl _) (fun ev W he hf => by have e0 : ev (.tmp 16) = .int .i64 (k : Int) := hf.1; clear hf; go_simp; rfl) rfl (by intro h; cases h) ?_
  refine ef_run (fuel := 999) (kf := 0) (m2 := 1) (fun u => ∃ A m c, u = .slice A m c) rfl rfl rfl rfl (by kernel_rfl) (.inn rfl) rfl rfl (.const _) (.const _) (fun ev W hc hf => by obtain ⟨g, e, hW, _⟩ := hf; exact ⟨_, _, e, Src.of_all hW⟩) (HF.out.keep (Chg.refl [] _).drew) (fun ad e => by injection e with e; subst e; exact HS.out) evn_right rfl rfl rfl (by decide) rfl hs' (fun A c => ⟨A, _, c, rfl⟩) rfl (by intro h; cases h) ?_
  refine F2.flow_move TOK rfl (keeps_ran _ _ _ _) (.inr (keeps_ran _ _ _ _)) rfl ?_
  refine ef_x0 rfl rfl (by intro h; cases h) ?_
  refine ef_x1 rfl rfl (by intro h; cases h) ?_
  refine ef_var (Nat.le_refl _) rfl (by intro h; cases h) (fun ev W => by go_simp) ?_
  refine ef_put rfl rfl (fun u h => by obtain ⟨A, m, c, rfl⟩ := h; exact ⟨A, m, c, rfl⟩) (fun u h => by obtain ⟨A, m, c, rfl⟩ := h; rfl) rfl ?_
  refine F2.flow_assign TOK rfl (keeps_isV _) (.inr (keeps_isV _)) rfl ?_
  intro vs W hW hF hN
  obtain ⟨gx, cs, ex, hbx, hwx, _, A5, m5, c5, rfl⟩ := hN 10 _ _ 5 rfl rfl rfl rfl
  have ee : vs 6 = .int .i64 0 := hF 6 _ rfl rfl
  have hcw : Chg [] w1 W := Chg.new (Chg.refl [] w1).drew (hW.fe.chg (show w1.drew.heap.size ≤ w1.heap.size from Nat.le_refl _))
  have HC2 := Lib.hid (HC.out.new hcw)
  have x0 := hwx.cell 0
  have x1 := hwx.cell 1
  have x2 := hwx.cell 2
  simp only [putAll, Act.put, List.setIfInBounds_toArray, List.set_cons_zero, List.set_cons_succ]
  rw [ex, ee]
  clear hF hN hW hwx hcw ex ee hbx TOK
  go_wp2_with fail
  refine awake_any.mono ?_
  rintro e w3 ⟨rfl, hc3⟩
  have HP := Lib.hid (show LawPost w (.returned (.bool true)) w3 from ⟨rfl, HC2.out.new hc3⟩)
  clear hc3
  go_wp2_with fail
  go_ret
  exact HP.out
end
end Go.Proofs.Ytnohfdojcdhfoaa
