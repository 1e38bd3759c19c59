/-
  The walks of SpaceTells, SpaceMost.
-/
import Derived.Test.YtamdpmbonoolcabLawSpace
import Derived.Test.YtamdpmbonoolcabInto
import Derived.BigRegion
import Derived.Deep.RegionHeld3
import Derived.Deep.DrawnRows
namespace Go.Proofs.Ytamdpmbonoolcab
open Go.RowKit
section
variable {w : World}
set_option maxHeartbeats 2000000 in
set_option maxRecDepth 100000 in
theorem spaceTells_any (L P E u n : Int) (hL0 : -9223372036854775808 ≤ L) (hL : L ≤ 9223372036854775807) (hP0 : -9223372036854775808 ≤ P) (hP : P ≤ 9223372036854775807) (hu0 : -9223372036854775808 ≤ u) (hu : u ≤ 9223372036854775807) (hn0 : -9223372036854775808 ≤ n) (hn : n ≤ 9223372036854775807) :
    Calls Try.prog 13 #[rootV L P E, .int .i64 u, .int .i64 n] w (LawPost w) := by
  have HW := Whole.new w 55 [.int .i64 L, .int .i64 P, .int .u32 E]
  have hc0 : Chg [] w (w.alloc (.cells #[.int .i64 L, .int .i64 P, .int .u32 E] 55)) := (Chg.refl [] w).alloc _
  unfold rootV
  go_enter Try.func13, Try.ntmps13
  go_wp2_with fail
  have hn1 : (w.alloc (.cells #[.int .i64 L, .int .i64 P, .int .u32 E] 55)).heap.size = w.heap.size + 1 := by simp
  have c1 := HW.cell 1
  have c0 := HW.cell 0
  go_region_held3 (fun w' => w'.cell? ⟨w.heap.size, 0, none⟩ = some (.int .i64 L) ∧ w'.cell? ⟨w.heap.size, 1, none⟩ = some (.int .i64 P)) (go_keep) (first
    | (go_at_call 15; have _t := R1; refine (within_any P 1 64 (by omega) (by omega) (by omega) hP0 hP).mono ?_; rintro e w' ⟨r2, R2, rfl, rfl⟩)
    | (go_at_call 15; refine (within_any L 1 64 (by omega) (by omega) (by omega) hL0 hL).mono ?_; rintro e w' ⟨r1, R1, rfl, rfl⟩))
  all_goals
    go_wp2_with fail
    have hA := HW.keep (((Chg.refl [] _).alloc (.cells #[.int .i64 r1, .int .i64 r2, .int .u32 0] 55)).drew)
    have hB := (Whole.new (w.alloc (.cells #[.int .i64 L, .int .i64 P, .int .u32 E] 55)) 55 [.int .i64 r1, .int .i64 r2, .int .u32 0]).drew
    rw [hn1] at hB
    have hc1 := (hc0.alloc (.cells #[.int .i64 r1, .int .i64 r2, .int .u32 0] 55)).drew
    generalize ((w.alloc (.cells #[.int .i64 L, .int .i64 P, .int .u32 E] 55)).alloc (.cells #[.int .i64 r1, .int .i64 r2, .int .u32 0] 55)).drew = w1 at hA hB hc1 ⊢
    refine wp_flow (by kernel_rfl) plainT plainT_ok (by kernel_rfl) ?_
    refine flow1h (r := rootV L P E) plainT_ok rfl (.out rfl rfl) rfl (fun ev W he hW e1 => by obtain ⟨c0, c1, c2⟩ := root_load (hA.drew.keep hW); go_simp; rfl) ?_
    refine flow_move_out plainT_ok rfl rfl rfl ?_
    refine flow_move_out plainT_ok rfl rfl rfl ?_
    refine flow_callv (.bool true) (by kernel_rfl) rfl (.cons (.inn rfl) (.cons (.inn rfl) (.cons (.inn rfl) .nil))) (fun W hW => (spsame_any L P E u n hL hu hn).mono ?_) ?_
    · rintro e w' ⟨rfl, hc⟩; exact ⟨rfl, hc⟩
    refine flow_move plainT_ok rfl (keeps_isV _) (.inr (keeps_isV _)) rfl ?_
    refine flow1h (r := rootV r1 r2 0) plainT_ok rfl (.out rfl rfl) rfl (fun ev W he hW e1 => by obtain ⟨c0, c1, c2⟩ := root_load (hB.drew.keep hW); go_simp; rfl) ?_
    refine flow_move_out plainT_ok rfl rfl rfl ?_
    refine flow_move_out plainT_ok rfl rfl rfl ?_
    refine flow_callv (.bool true) (by kernel_rfl) rfl (.cons (.inn rfl) (.cons (.inn rfl) (.cons (.inn rfl) .nil))) (fun W hW => (spsame_any r1 r2 0 u n (by have := R1.2.1; omega) hu hn).mono ?_) ?_
    · rintro e w' ⟨rfl, hc⟩; exact ⟨rfl, hc⟩
    refine flow_and plainT_ok rfl rfl rfl ?_
    refine flow_move plainT_ok rfl (keeps_isV _) (.inr (keeps_isV _)) rfl ?_
    refine flow1h (r := rootV r1 r2 0) plainT_ok rfl (.out rfl rfl) rfl (fun ev W he hW e1 => by obtain ⟨c0, c1, c2⟩ := root_load (hB.drew.keep hW); go_simp; rfl) ?_
    refine flow_move_out plainT_ok rfl rfl rfl ?_
    have R3 := into_within u 0 4200 (by omega)
    generalize hr3 : withinI u 0 4200 = r3 at R3
    refine flow_callv (.int .i64 r3) (by kernel_rfl) rfl (.cons (.inn rfl) (.cons (.const _) (.cons (.const _) .nil))) (fun W hW => (within_is u 0 4200 (by omega) (by omega) (by omega) hu0 hu).mono ?_) ?_
    · rintro e w' ⟨rfl, rfl⟩; rw [hr3]; exact ⟨rfl, Chg.refl _ _⟩
    refine flow_move_out plainT_ok rfl rfl rfl ?_
    have R4 := into_within n (-1) 66 (by omega)
    generalize hr4 : withinI n (-1) 66 = r4 at R4
    refine flow_callv (.int .i64 r4) (by kernel_rfl) rfl (.cons (.inn rfl) (.cons (.const _) (.cons (.const _) .nil))) (fun W hW => (within_is n (-1) 66 (by omega) (by omega) (by omega) hn0 hn).mono ?_) ?_
    · rintro e w' ⟨rfl, rfl⟩; rw [hr4]; exact ⟨rfl, Chg.refl _ _⟩
    refine flow_callv (.bool true) (by kernel_rfl) rfl (.cons (.inn rfl) (.cons (.inn rfl) (.cons (.inn rfl) .nil))) (fun W hW => (spsame_any r1 r2 0 r3 r4 (by have := R1.2.1; omega) (by have := R3.2.1; omega) (by have := R4.2.1; omega)).mono ?_) ?_
    · rintro e w' ⟨rfl, hc⟩; exact ⟨rfl, hc⟩
    refine flow_and plainT_ok rfl rfl rfl ?_
    refine flow_move plainT_ok rfl (keeps_isV _) (.inr (keeps_isV _)) rfl ?_
    refine flow_callv (.bool true) (by kernel_rfl) rfl .nil (fun W hW => (spknown_any).mono ?_) ?_
    · rintro e w' ⟨rfl, hc⟩; exact ⟨rfl, hc⟩
    refine flow_and plainT_ok rfl rfl rfl ?_
    refine flow_assign plainT_ok rfl (keeps_isV _) (.inr (keeps_isV _)) rfl ?_
    intro vs W hW hF
    have e6 : vs 6 = .bool true := hF 6 _ rfl rfl
    simp only [putAll, Act.put, List.setIfInBounds_toArray, List.set_cons_zero, List.set_cons_succ, e6]
    go_wp2_with fail
    go_ret
    exact ⟨rfl, hc1.drew.new hW⟩
end
end Go.Proofs.Ytamdpmbonoolcab
