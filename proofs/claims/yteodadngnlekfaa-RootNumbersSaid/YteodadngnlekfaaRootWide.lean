/-
  engramref3.Root of numbers that need all 32 bits.
-/
import Derived.Test.YteodadngnlekfaaRootRef
namespace Go.Proofs.Yteodadngnlekfaa
open Go.RowKit
section
variable {w : World}
set_option maxHeartbeats 4000000 in
set_option maxRecDepth 100000 in
theorem rroot_wide (a b c : Nat) (ha : a < 4294967296) (hb : b < 4294967296) (hc : c < 4294967296) :
    Calls Try.prog 23 #[rootV a b c] w (BytesPost w (rootL a b c)) := by
  obtain ⟨i0, hi, hz, hs1, hb1⟩ := info_parts info_byte
  have ea : IntKind.u32.wrap (a : Int) = (a : Int) := by rw [IntKind.wrap_u32]; omega
  have eb : IntKind.u32.wrap (b : Int) = (b : Int) := by rw [IntKind.wrap_u32]; omega
  unfold rootV
  go_enter Try.func23, Try.ntmps23
  go_wp2_with fail
  have hR := Whole.new w 46 [.int .i64 (a : Int), .int .i64 (b : Int), .int .u32 (c : Int)]
  have hc1 : Chg [] w (w.alloc (.cells #[.int .i64 (a : Int), .int .i64 (b : Int), .int .u32 (c : Int)] 46)) := (Chg.refl [] w).alloc _
  generalize w.alloc (.cells #[.int .i64 (a : Int), .int .i64 (b : Int), .int .u32 (c : Int)] 46) = w1 at hc1 hR ⊢
  have hld : ∀ W, Rm w1.drew.heap.size w1.drew W → W.cell? ⟨w.heap.size, 0, none⟩ = some (.int .i64 (a : Int)) ∧ W.cell? ⟨w.heap.size, 1, none⟩ = some (.int .i64 (b : Int)) ∧ W.cell? ⟨w.heap.size, 2, none⟩ = some (.int .u32 (c : Int)) := fun W hW => by
    have h := hR.drew.keep (hW.chg (Nat.le_refl _))
    exact ⟨h.cell 0, h.cell 1, h.cell 2⟩
  have T := markT_ok w1.drew.heap.size
  refine wp_flow (by kernel_rfl) (markT w1.drew.heap.size) T (by kernel_rfl) ?_
  refine flow_build_mark (Nat.le_refl _) (fun ev W he => by have hcst := he.const; go_simp; rfl) rfl ?_
  refine flow_convert_mark rfl rfl ?_
  refine flow1 (r := .pointer (some ⟨w.heap.size, 0, none⟩)) T rfl (.out rfl rfl) rfl (fun ev W he e1 => by go_simp) ?_
  refine flow1h (r := .int .i64 (a : Int)) T rfl (.inn rfl) rfl (fun ev W he hW e1 => by obtain ⟨c0, c1, c2⟩ := hld W hW; go_simp) ?_
  refine flow1 (r := .int .u32 (a : Int)) T rfl (.inn rfl) rfl (fun ev W he e1 => by go_simp) ?_
  refine flow_put (by decide) (by decide) (markF_bs _) (fun W A n c hB hn => rput_b hB a (by omega) hn) rfl rfl (by kernel_rfl) rfl ?_
  refine flow1 (r := .pointer (some ⟨w.heap.size, 1, none⟩)) T rfl (.out rfl rfl) rfl (fun ev W he e1 => by go_simp) ?_
  refine flow1h (r := .int .i64 (b : Int)) T rfl (.inn rfl) rfl (fun ev W he hW e1 => by obtain ⟨c0, c1, c2⟩ := hld W hW; go_simp) ?_
  refine flow1 (r := .int .u32 (b : Int)) T rfl (.inn rfl) rfl (fun ev W he e1 => by go_simp) ?_
  refine flow_put (by simp [markL, be4_len]) (by simp [markL, be4_len]) (ownL_bs _) (fun W A n c hB hn => rput_b hB b (by omega) hn) rfl rfl (by kernel_rfl) rfl ?_
  refine flow1 (r := .pointer (some ⟨w.heap.size, 2, none⟩)) T rfl (.out rfl rfl) rfl (fun ev W he e1 => by go_simp) ?_
  refine flow1h (r := .int .u32 (c : Int)) T rfl (.inn rfl) rfl (fun ev W he hW e1 => by obtain ⟨c0, c1, c2⟩ := hld W hW; go_simp) ?_
  refine flow_put (by simp [markL, be4_len]) (by simp [markL, be4_len]) (ownL_bs _) (fun W A n c2 hB hn => rput_b hB c hc hn) rfl rfl (by kernel_rfl) rfl ?_
  refine flow_assign T rfl (keeps_ownL _ _) (.inr (keeps_ownL _ _)) rfl ?_
  intro vs W hW hF
  obtain ⟨_, ho⟩ : ownL (headR a b c) (vs 3) W := hF 3 _ rfl rfl
  have hcW : Chg [] w W := hc1.drew.new (Rm.chg hW (Nat.le_refl _))
  generalize hv3 : vs 3 = v3 at ho
  simp only [putAll, Act.put, List.setIfInBounds_toArray, List.set_cons_zero, List.set_cons_succ, hv3]
  obtain ⟨A3, c3, rfl, hB3, _⟩ := Bs.of_own ho
  rw [headR_len] at hB3 ⊢
  have HB16 := Lib.hid hB3
  have HC := Lib.hid hcW
  clear hW hF hv3 ho hB3 hcW hld hR
  go_wp2_with fail
  refine (rsumk_b HB16.out).mono ?_
  rintro e w' ⟨rfl, rfl⟩
  go_wp2_with fail
  refine (rput_b HB16.out (sumK (headR a b c)) (sumK_lt _) (by omega)).mono ?_
  rintro e w5 ⟨v5, rfl, ho5, hc5⟩
  have hl5 : (headR a b c ++ be4 (sumK (headR a b c))).length = 20 := rfl
  rw [hl5] at ho5
  have hsz := HC.out.size
  have HRL := Lib.hid (show rootL a b c = (headR a b c ++ be4 (sumK (headR a b c))) ++ zeros 44 from rfl)
  generalize headR a b c ++ be4 (sumK (headR a b c)) = Z at ho5 HRL
  obtain ⟨g, r, rfl, hbg, _, _⟩ := own_whole ho5 (by omega)
  obtain ⟨g', cap', w6, hr, ho6, hg6, hor⟩ := run_append_zeros (P := Try.prog) w5 W.heap.size 22 3 22 5 i0 _ 1 .i64 Try.underlying22 tn_int hi hz hs1 hb1 rfl rfl g 20 (20 + r.length) (bts Z) ho5 44 (by unfold maxLen; omega) (by omega) hc5.size
  have hc6 : Chg [] W w6 := hc5.own ho5 (Nat.le_refl _) hg6
  have HR := Lib.hid hr
  have HO := Lib.hid ho6
  have HC6 := Lib.hid (HC.out.new hc6)
  clear hr ho6 hg6 hor hc6 ho5 hc5 hl5
  go_wp2_with (at_builtin; refine Lib.wpList_append_run w5 rfl (.tmp 21) (.tmp 24) 22 3 rfl _ _ rfl rfl _ _ HR.out ?_)
  go_ret
  refine ⟨_, rfl, ?_, HC6.out⟩
  have e1 : (rootL a b c).length = 20 + 44 := rootL_len a b c
  have e2 : bts (rootL a b c) = bts Z ++ List.replicate 44 (.int .u8 0) := by rw [HRL.out, bts_app, bts_zeros]
  rw [e1, e2]
  exact own_more HO.out hsz
end
end Go.Proofs.Yteodadngnlekfaa
