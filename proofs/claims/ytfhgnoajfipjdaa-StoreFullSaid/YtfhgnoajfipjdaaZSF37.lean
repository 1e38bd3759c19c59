/-
  SF: SpaceR.
-/
import Derived.Test.YtfhgnoajfipjdaaZSF5
namespace Go.Proofs.Ytfhgnoajfipjdaa
open Go.RowKit
section
variable {w : World}
set_option maxHeartbeats 400000 in
set_option maxRecDepth 100000 in
theorem rsize_any (L P E : Int) (hL : L ≤ 9223372036854775807) : Calls Try.prog 165 #[rootV L P E] w fun e w' => e = .returned (.int .i64 (sizeI L)) ∧ Chg [] w w' := by
  unfold rootV
  by_cases h0 : L < 1
  · go_enter Try.func165, Try.ntmps165
    go_wp2_with fail
    go_ret
    exact ⟨ret_int' (by unfold sizeI; rw [if_pos (.inl h0)]), (Chg.refl _ _).alloc _⟩
  · have hd : decide (L < 1) = false := by simpa using h0
    by_cases h1 : 64 < L
    · go_enter Try.func165, Try.ntmps165
      go_wp2_with fail
      go_ret
      exact ⟨ret_int' (by unfold sizeI; rw [if_pos (.inr h1)]), (Chg.refl _ _).alloc _⟩
    · have h2 : 1 ≤ L := by omega
      have h3 : L ≤ 64 := by omega
      go_enter Try.func165, Try.ntmps165
      go_wp2_with fail
      go_ret
      exact ⟨ret_int' (by unfold sizeI; rw [if_neg (by omega)]), (Chg.refl _ _).alloc _⟩
set_option maxHeartbeats 400000 in
set_option maxRecDepth 100000 in
theorem rleft_any (L P E u : Int) (hL : L ≤ 9223372036854775807) (hu : u ≤ 9223372036854775807) : Calls Try.prog 130 #[rootV L P E, .int .i64 u] w fun e w' => e = .returned (.int .i64 (leftI L u)) ∧ Chg [] w w' := by
  have hs := sizeI_bd L
  obtain ⟨b1, b2⟩ := hs
  have b3 : 0 ≤ max u 0 := by omega
  have b4 : max u 0 ≤ 9223372036854775807 := by omega
  unfold rootV
  go_enter Try.func130, Try.ntmps130
  go_wp2_with (go_at_call 165; refine (rsize_any L P E hL).mono ?_; rintro e w1 ⟨rfl, hc1⟩)
  go_ret
  exact ⟨ret_int' (by unfold leftI; rfl), ((Chg.refl _ _).alloc _).new hc1⟩
set_option maxHeartbeats 1000000 in
set_option maxRecDepth 100000 in
theorem rfits_any (L P E u n : Int) (hL : L ≤ 9223372036854775807) (hu : u ≤ 9223372036854775807) (hn : n ≤ 9223372036854775807) :
    Calls Try.prog 90 #[rootV L P E, .int .i64 u, .int .i64 n] w fun e w' => e = .returned (.bool (fitsB L u n)) ∧ Chg [] w w' := by
  have HF : Hid (fitsB L u n = (decide (0 < needI n) && decide (needI n ≤ leftI L u))) := rfl
  have HW := Whole.new w 89 [.int .i64 L, .int .i64 P, .int .u32 E]
  have hc0 : Chg [] w (w.alloc (.cells #[.int .i64 L, .int .i64 P, .int .u32 E] 89)) := (Chg.refl [] w).alloc _
  unfold rootV
  by_cases h0 : 0 < needI n
  · go_enter Try.func90, Try.ntmps90
    go_wp2_with fail
    generalize w.alloc (.cells #[.int .i64 L, .int .i64 P, .int .u32 E] 89) = w1 at HW hc0 ⊢
    refine wp_flow (by kernel_rfl) plainT plainT_ok (by kernel_rfl) ?_
    refine flow_move_out plainT_ok rfl rfl rfl ?_
    refine flow_callv (.int .i64 (needI n)) (by kernel_rfl) rfl (.cons (.inn rfl) .nil) (fun W hW => (srneed_any n hn).mono ?_) ?_
    · rintro e w' ⟨rfl, rfl⟩; exact ⟨rfl, Chg.refl _ _⟩
    refine flow2 (r := .bool true) plainT_ok rfl (.inn rfl) (.const _) rfl (fun ev W he e1 e2 => by go_simp) ?_
    refine flow_move plainT_ok rfl (keeps_isV _) (.inr (keeps_isV _)) rfl ?_
    refine flow_move_out plainT_ok rfl rfl rfl ?_
    refine flow_callv (.int .i64 (needI n)) (by kernel_rfl) rfl (.cons (.inn rfl) .nil) (fun W hW => (srneed_any n hn).mono ?_) ?_
    · rintro e w' ⟨rfl, rfl⟩; exact ⟨rfl, Chg.refl _ _⟩
    refine flow1h (r := rootV L P E) plainT_ok rfl (.out rfl rfl) rfl (fun ev W he hW e1 => by obtain ⟨c0, c1, c2⟩ := root_load (HW.drew.keep hW); go_simp; rfl) ?_
    refine flow_move_out plainT_ok rfl rfl rfl ?_
    refine flow_callv (.int .i64 (leftI L u)) (by kernel_rfl) rfl (.cons (.inn rfl) (.cons (.inn rfl) .nil)) (fun W hW => (rleft_any L P E u hL hu).mono ?_) ?_
    · rintro e w' ⟨rfl, hc⟩; exact ⟨rfl, hc⟩
    refine flow2 (r := .bool (decide (needI n ≤ leftI L u))) plainT_ok rfl (.inn rfl) (.inn rfl) rfl (fun ev W he e1 e2 => by go_simp) ?_
    refine flow_and plainT_ok rfl rfl rfl ?_
    refine flow_assign plainT_ok rfl (keeps_isV _) (.inr (keeps_isV _)) rfl ?_
    intro vs W hW hF
    have e6 : vs 6 = .bool (decide (needI n ≤ leftI L u)) := hF 6 _ rfl rfl
    simp only [putAll, Act.put, List.setIfInBounds_toArray, List.set_cons_zero, List.set_cons_succ, e6]
    go_wp2_with fail
    go_ret
    exact ⟨ret_bool (by rw [HF.out]; simp [h0]), hc0.drew.new hW⟩
  · have hd : decide (0 < needI n) = false := by simpa using h0
    go_enter Try.func90, Try.ntmps90
    go_wp2_with fail
    generalize w.alloc (.cells #[.int .i64 L, .int .i64 P, .int .u32 E] 89) = w1 at HW hc0 ⊢
    refine wp_flow (by kernel_rfl) plainT plainT_ok (by kernel_rfl) ?_
    refine flow_move_out plainT_ok rfl rfl rfl ?_
    refine flow_callv (.int .i64 (needI n)) (by kernel_rfl) rfl (.cons (.inn rfl) .nil) (fun W hW => (srneed_any n hn).mono ?_) ?_
    · rintro e w' ⟨rfl, rfl⟩; exact ⟨rfl, Chg.refl _ _⟩
    refine flow2 (r := .bool false) plainT_ok rfl (.inn rfl) (.const _) rfl (fun ev W he e1 e2 => by go_simp) ?_
    refine flow_move plainT_ok rfl (keeps_isV _) (.inr (keeps_isV _)) rfl ?_
    refine flow_skip rfl ?_
    refine flow_skip rfl ?_
    refine flow_skip rfl ?_
    refine flow_skip rfl ?_
    refine flow_skip rfl ?_
    refine flow_skip rfl ?_
    refine flow_and_false plainT_ok rfl rfl rfl ?_
    refine flow_assign plainT_ok rfl (keeps_isV _) (.inr (keeps_isV _)) rfl ?_
    intro vs W hW hF
    have e6 : vs 6 = .bool false := hF 6 _ rfl rfl
    simp only [putAll, Act.put, List.setIfInBounds_toArray, List.set_cons_zero, List.set_cons_succ, e6]
    go_wp2_with fail
    go_ret
    exact ⟨ret_bool (by rw [HF.out, hd]; rfl), hc0.drew.new hW⟩

set_option maxHeartbeats 1000000 in
set_option maxRecDepth 100000 in
theorem rmost_any (L P E : Int) (hL : L ≤ 9223372036854775807) : Calls Try.prog 43 #[rootV L P E] w fun e w' => e = .returned (.int .i64 (mostI L P)) ∧ Chg [] w w' := by
  have HW := Whole.new w 89 [.int .i64 L, .int .i64 P, .int .u32 E]
  have hc0 : Chg [] w (w.alloc (.cells #[.int .i64 L, .int .i64 P, .int .u32 E] 89)) := (Chg.refl [] w).alloc _
  have hb := most_bd L P
  unfold rootV
  go_enter Try.func43, Try.ntmps43
  go_wp2_with fail
  generalize w.alloc (.cells #[.int .i64 L, .int .i64 P, .int .u32 E] 89) = w1 at HW hc0 ⊢
  go_loopw [3, 4] (fun n i wr => ∃ k : Nat, k ≤ 65 ∧ (k : Int) ≤ max (P + 1) 0 ∧ i = .int .i64 (k : Int) ∧ n = .int .i64 (min (mostI L P) ((k : Int) - 1)) ∧ Chg [] w1 wr) (fun _ i _ => 65 - (intOf i).toNat)
  case atStart => exact ⟨0, by omega, by omega, rfl, by congr 1; omega, Chg.refl _ _⟩
  case round =>
    obtain ⟨k, hk, hkP, rfl, rfl, hc⟩ := hrel
    obtain ⟨c0, c1, c2⟩ := root_load (HW.keep hc)
    by_cases hlt : (k : Int) ≤ P
    · by_cases h64 : k ≤ 64
      · have h64' : (k : Int) ≤ 64 := by omega
        have hi := most_iff L P k (by omega) hlt h64'
        have hd1 : decide ((k : Int) ≤ P) = true := by simpa using hlt
        by_cases hf : fitsB L 0 k = true
        · have hle := hi.1 hf
          have e1 : min (mostI L P) ((k : Int) + 1 - 1) = k := by omega
          have HE := Lib.hid e1
          clear e1 hi
          go_wp2_with (go_at_call 90; refine (rfits_any L P E 0 k hL (by omega) (by omega)).mono ?_; rintro e w2 ⟨rfl, hc2⟩)
          go_roundw
          case rel => exact ⟨k + 1, by omega, by omega, by go_num, by congr 1; have := HE.out; omega, hc.new hc2⟩
          case measure => simp [intOf]; omega
        · have hle : ¬ (k : Int) ≤ mostI L P := fun h => hf (hi.2 h)
          have e1 : min (mostI L P) ((k : Int) + 1 - 1) = min (mostI L P) ((k : Int) - 1) := by omega
          have HE := Lib.hid e1
          have hf' : fitsB L 0 k = false := by simpa using hf
          clear e1 hi hf
          go_wp2_with (go_at_call 90; refine (rfits_any L P E 0 k hL (by omega) (by omega)).mono ?_; rintro e w2 ⟨rfl, hc2⟩)
          go_roundw
          case rel => exact ⟨k + 1, by omega, by omega, by go_num, by congr 1; have := HE.out; omega, hc.new hc2⟩
          case measure => simp [intOf]; omega
      · have hd1 : decide ((k : Int) ≤ P) = true := by simpa using hlt
        have e1 : min (mostI L P) ((k : Int) - 1) = mostI L P := by omega
        have HE := Lib.hid e1
        have hn : ¬ (k : Int) ≤ 64 := by omega
        clear e1
        go_wp2_with fail
        go_ret
        exact ⟨ret_int' HE.out, hc0.new hc⟩
    · have hd1 : decide ((k : Int) ≤ P) = false := by simpa using hlt
      have e1 : min (mostI L P) ((k : Int) - 1) = mostI L P := by omega
      have HE := Lib.hid e1
      clear e1
      go_wp2_with fail
      go_ret
      exact ⟨ret_int' HE.out, hc0.new hc⟩
end
end Go.Proofs.Ytfhgnoajfipjdaa
