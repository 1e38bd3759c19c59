/-
  The laws of layer 6: same, known.
-/
import Derived.Test.YtamdpmbonoolcabSpace
namespace Go.Proofs.Ytamdpmbonoolcab
open Go.RowKit
section
variable {w : World}
set_option maxHeartbeats 2000000 in
set_option maxRecDepth 100000 in
theorem spsame_any (L P E u n : Int) (hL : L ≤ 9223372036854775807) (hu : u ≤ 9223372036854775807) (hn : n ≤ 9223372036854775807) :
    Calls Try.prog 42 #[rootV L P E, .int .i64 u, .int .i64 n] w (LawPost w) := by
  have HW := Whole.new w 55 [.int .i64 L, .int .i64 P, .int .u32 E]
  have hc0 : Chg [] w (w.alloc (.cells #[.int .i64 L, .int .i64 P, .int .u32 E] 55)) := (Chg.refl [] w).alloc _
  unfold rootV
  go_enter Try.func42, Try.ntmps42
  go_wp2_with fail
  generalize w.alloc (.cells #[.int .i64 L, .int .i64 P, .int .u32 E] 55) = w1 at HW hc0 ⊢
  refine wp_flow (by kernel_rfl) plainT plainT_ok (by kernel_rfl) ?_
  refine flow1h (r := rootV L P E) plainT_ok rfl (.out rfl rfl) rfl (fun ev W he hW e1 => by obtain ⟨c0, c1, c2⟩ := root_load (HW.drew.keep hW); go_simp; rfl) ?_
  refine flow_callv (.int .i64 (sizeI L)) (by kernel_rfl) rfl (.cons (.inn rfl) .nil) (fun W hW => (size_any L P E hL).mono ?_) ?_
  · rintro e w' ⟨rfl, hc⟩; exact ⟨rfl, hc⟩
  refine flow1h (r := rootV L P E) plainT_ok rfl (.out rfl rfl) rfl (fun ev W he hW e1 => by obtain ⟨c0, c1, c2⟩ := root_load (HW.drew.keep hW); go_simp; rfl) ?_
  refine flow_callv (.int .i64 (sizeI L)) (by kernel_rfl) rfl (.cons (.inn rfl) .nil) (fun W hW => (rsize_any L P E hL).mono ?_) ?_
  · rintro e w' ⟨rfl, hc⟩; exact ⟨rfl, hc⟩
  refine flow_eql plainT_ok (.inn rfl) (.inn rfl) (fun ev W he e1 e2 => by go_simp) rfl ?_
  refine flow_move plainT_ok rfl (keeps_isV _) (.inr (keeps_isV _)) rfl ?_
  refine flow1h (r := rootV L P E) plainT_ok rfl (.out rfl rfl) rfl (fun ev W he hW e1 => by obtain ⟨c0, c1, c2⟩ := root_load (HW.drew.keep hW); go_simp; rfl) ?_
  refine flow_move_out plainT_ok rfl rfl rfl ?_
  refine flow_callv (.int .i64 (leftI L u)) (by kernel_rfl) rfl (.cons (.inn rfl) (.cons (.inn rfl) .nil)) (fun W hW => (left_any L P E u hL hu).mono ?_) ?_
  · rintro e w' ⟨rfl, hc⟩; exact ⟨rfl, hc⟩
  refine flow1h (r := rootV L P E) plainT_ok rfl (.out rfl rfl) rfl (fun ev W he hW e1 => by obtain ⟨c0, c1, c2⟩ := root_load (HW.drew.keep hW); go_simp; rfl) ?_
  refine flow_move_out plainT_ok rfl rfl rfl ?_
  refine flow_callv (.int .i64 (leftI L u)) (by kernel_rfl) rfl (.cons (.inn rfl) (.cons (.inn rfl) .nil)) (fun W hW => (rleft_any L P E u hL hu).mono ?_) ?_
  · rintro e w' ⟨rfl, hc⟩; exact ⟨rfl, hc⟩
  refine flow_eql plainT_ok (.inn rfl) (.inn rfl) (fun ev W he e1 e2 => by go_simp) rfl ?_
  refine flow_and plainT_ok rfl rfl rfl ?_
  refine flow_move plainT_ok rfl (keeps_isV _) (.inr (keeps_isV _)) rfl ?_
  refine flow1h (r := rootV L P E) plainT_ok rfl (.out rfl rfl) rfl (fun ev W he hW e1 => by obtain ⟨c0, c1, c2⟩ := root_load (HW.drew.keep hW); go_simp; rfl) ?_
  refine flow_move_out plainT_ok rfl rfl rfl ?_
  refine flow_move_out plainT_ok rfl rfl rfl ?_
  refine flow_callv (.bool (fitsB L u n)) (by kernel_rfl) rfl (.cons (.inn rfl) (.cons (.inn rfl) (.cons (.inn rfl) .nil))) (fun W hW => (fits_any L P E u n hL hu hn).mono ?_) ?_
  · rintro e w' ⟨rfl, hc⟩; exact ⟨rfl, hc⟩
  refine flow1h (r := rootV L P E) plainT_ok rfl (.out rfl rfl) rfl (fun ev W he hW e1 => by obtain ⟨c0, c1, c2⟩ := root_load (HW.drew.keep hW); go_simp; rfl) ?_
  refine flow_move_out plainT_ok rfl rfl rfl ?_
  refine flow_move_out plainT_ok rfl rfl rfl ?_
  refine flow_callv (.bool (fitsB L u n)) (by kernel_rfl) rfl (.cons (.inn rfl) (.cons (.inn rfl) (.cons (.inn rfl) .nil))) (fun W hW => (rfits_any L P E u n hL hu hn).mono ?_) ?_
  · rintro e w' ⟨rfl, hc⟩; exact ⟨rfl, hc⟩
  refine flow_eql plainT_ok (.inn rfl) (.inn rfl) (fun ev W he e1 e2 => by go_simp) rfl ?_
  refine flow_and plainT_ok rfl rfl rfl ?_
  refine flow_move plainT_ok rfl (keeps_isV _) (.inr (keeps_isV _)) rfl ?_
  refine flow1h (r := rootV L P E) plainT_ok rfl (.out rfl rfl) rfl (fun ev W he hW e1 => by obtain ⟨c0, c1, c2⟩ := root_load (HW.drew.keep hW); go_simp; rfl) ?_
  refine flow_callv (.int .i64 (mostI L P)) (by kernel_rfl) rfl (.cons (.inn rfl) .nil) (fun W hW => (most_any L P E hL).mono ?_) ?_
  · rintro e w' ⟨rfl, hc⟩; exact ⟨rfl, hc⟩
  refine flow1h (r := rootV L P E) plainT_ok rfl (.out rfl rfl) rfl (fun ev W he hW e1 => by obtain ⟨c0, c1, c2⟩ := root_load (HW.drew.keep hW); go_simp; rfl) ?_
  refine flow_callv (.int .i64 (mostI L P)) (by kernel_rfl) rfl (.cons (.inn rfl) .nil) (fun W hW => (rmost_any L P E hL).mono ?_) ?_
  · rintro e w' ⟨rfl, hc⟩; exact ⟨rfl, hc⟩
  refine flow_eql plainT_ok (.inn rfl) (.inn rfl) (fun ev W he e1 e2 => by go_simp) rfl ?_
  refine flow_and plainT_ok rfl rfl rfl ?_
  refine flow_assign plainT_ok rfl (keeps_isV _) (.inr (keeps_isV _)) rfl ?_
  intro vs W hW hF
  have e6 : vs 6 = .bool true := hF 6 _ rfl rfl
  simp only [putAll, Act.put, List.setIfInBounds_toArray, List.set_cons_zero, List.set_cons_succ, e6]
  go_wp2_with fail
  go_ret
  exact ⟨rfl, hc0.drew.new hW⟩

set_option maxHeartbeats 1000000 in
theorem spknown_any : Calls Try.prog 43 #[] w (LawPost w) := by
  have m1 : mostI 1 5 = 0 := by decide
  have m2 : sizeI 1 = 64 := by decide
  have m3 : fitsB 1 0 0 = true := by decide
  have m4 : fitsB 1 0 1 = false := by decide
  have m5 : leftI 1 99 = 0 := by decide
  have m6 : leftI 1 (-5) = 64 := by decide
  have m7 : mostI 0 0 = -1 := by decide
  go_enter Try.func43, Try.ntmps43
  go_wp2_with fail
  have H0 := Whole.new w 55 [.int .i64 1, .int .i64 5, .int .u32 0]
  have hc0 : Chg [] w (w.alloc (.cells #[.int .i64 1, .int .i64 5, .int .u32 0] 55)) := (Chg.refl [] w).alloc _
  refine (most_any 1 5 0 (by omega)).mono ?_
  rintro e w1 ⟨rfl, hc1⟩
  have H1 := H0.keep hc1
  obtain ⟨c0, c1, c2⟩ := root_load H1
  rw [m1]
  go_wp2_with fail
  refine (size_any 1 5 0 (by omega)).mono ?_
  rintro e w2 ⟨rfl, hc2⟩
  have H2 := H1.keep hc2
  obtain ⟨c0, c1, c2⟩ := root_load H2
  rw [m2]
  go_wp2_with fail
  refine (fits_any 1 5 0 0 0 (by omega) (by omega) (by omega)).mono ?_
  rintro e w3 ⟨rfl, hc3⟩
  have H3 := H2.keep hc3
  obtain ⟨c0, c1, c2⟩ := root_load H3
  rw [m3]
  go_wp2_with fail
  refine (fits_any 1 5 0 0 1 (by omega) (by omega) (by omega)).mono ?_
  rintro e w4 ⟨rfl, hc4⟩
  have H4 := H3.keep hc4
  obtain ⟨c0, c1, c2⟩ := root_load H4
  rw [m4]
  go_wp2_with fail
  refine (left_any 1 5 0 99 (by omega) (by omega)).mono ?_
  rintro e w5 ⟨rfl, hc5⟩
  have H5 := H4.keep hc5
  obtain ⟨c0, c1, c2⟩ := root_load H5
  rw [m5]
  go_wp2_with fail
  refine (left_any 1 5 0 (-5) (by omega) (by omega)).mono ?_
  rintro e w6 ⟨rfl, hc6⟩
  have H6 := H5.keep hc6
  obtain ⟨c0, c1, c2⟩ := root_load H6
  rw [m6]
  go_wp2_with fail
  refine (most_any 0 0 0 (by omega)).mono ?_
  rintro e w7 ⟨rfl, hc7⟩
  rw [m7]
  go_wp2_with fail
  go_ret
  exact ⟨rfl, ((((((hc0.new hc1).new hc2).new hc3).new hc4).new hc5).new hc6).new hc7⟩
end
end Go.Proofs.Ytamdpmbonoolcab
