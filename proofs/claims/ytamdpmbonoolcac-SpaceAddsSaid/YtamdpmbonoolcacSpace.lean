/-
  Package space, delta.Need, and the reference's room: contracts.
-/
import Derived.Test.YtamdpmbonoolcacChecked
import Derived.Test.YtamdpmbonoolcacLaw
namespace Go.Proofs.Ytamdpmbonoolcac
open Go.RowKit

/-- A root by value. -/
def rootV (L P E : Int) : Value := .agg #[.int .i64 L, .int .i64 P, .int .u32 E]
def needI (n : Int) : Int := if n < 0 ∨ 64 < n then 0 else 18 + n * 66
def sizeI (L : Int) : Int := if L < 1 ∨ 64 < L then 0 else L * 64
def leftI (L u : Int) : Int := max (sizeI L - max u 0) 0
def fitsB (L u n : Int) : Bool := decide (0 < needI n) && decide (needI n ≤ leftI L u)
def mostI (L P : Int) : Int := if P < 0 ∨ L < 1 ∨ 64 < L then -1 else min (min P 64) ((64 * L - 18) / 66)
theorem needI_bd (n : Int) : 0 ≤ needI n ∧ needI n ≤ 4242 := by unfold needI; split <;> omega
theorem sizeI_bd (L : Int) : 0 ≤ sizeI L ∧ sizeI L ≤ 4096 := by unfold sizeI; split <;> omega
theorem leftI_bd (L u : Int) : 0 ≤ leftI L u ∧ leftI L u ≤ 4096 := by unfold leftI; have := sizeI_bd L; omega
theorem fits_most (L n : Int) (h0 : 0 ≤ n) : fitsB L 0 n = true ↔ (1 ≤ L ∧ L ≤ 64 ∧ n ≤ 64 ∧ n ≤ (64 * L - 18) / 66) := by
  unfold fitsB leftI sizeI needI
  simp only [Bool.and_eq_true, decide_eq_true_eq]
  split <;> split <;> omega
theorem ret_int' {k : IntKind} {a b : Int} (h : a = b) : Ending.returned (.int k a) = .returned (.int k b) := by rw [h]
theorem ret_bool {a b : Bool} (h : a = b) : Ending.returned (.bool a) = .returned (.bool b) := by rw [h]

section
variable {w : World}
set_option maxHeartbeats 400000 in
theorem need_any (n : Int) (hn : n ≤ 9223372036854775807) : Calls Try.prog 10 #[.int .i64 n] w fun e w' => e = .returned (.int .i64 (needI n)) ∧ w = w' := by
  by_cases h0 : n < 0
  · go_enter Try.func10, Try.ntmps10
    go_wp2_with fail
    go_ret
    exact ⟨ret_int' (by unfold needI; rw [if_pos (.inl h0)]), rfl⟩
  · have hd : decide (n < 0) = false := by simpa using h0
    by_cases h1 : 64 < n
    · go_enter Try.func10, Try.ntmps10
      go_wp2_with fail
      go_ret
      exact ⟨ret_int' (by unfold needI; rw [if_pos (.inr h1)]), rfl⟩
    · have h2 : 0 ≤ n := by omega
      have h3 : n ≤ 64 := by omega
      go_enter Try.func10, Try.ntmps10
      go_wp2_with fail
      go_ret
      exact ⟨ret_int' (by unfold needI; rw [if_neg (by omega)]), rfl⟩
set_option maxHeartbeats 400000 in
theorem rneed_any (n : Int) (hn : n ≤ 9223372036854775807) : Calls Try.prog 6 #[.int .i64 n] w fun e w' => e = .returned (.int .i64 (needI n)) ∧ w = w' := by
  by_cases h0 : n < 0
  · go_enter Try.func6, Try.ntmps6
    go_wp2_with fail
    go_ret
    exact ⟨ret_int' (by unfold needI; rw [if_pos (.inl h0)]), rfl⟩
  · have hd : decide (n < 0) = false := by simpa using h0
    by_cases h1 : 64 < n
    · go_enter Try.func6, Try.ntmps6
      go_wp2_with fail
      go_ret
      exact ⟨ret_int' (by unfold needI; rw [if_pos (.inr h1)]), rfl⟩
    · have h2 : 0 ≤ n := by omega
      have h3 : n ≤ 64 := by omega
      go_enter Try.func6, Try.ntmps6
      go_wp2_with fail
      go_ret
      exact ⟨ret_int' (by unfold needI; rw [if_neg (by omega)]), rfl⟩
set_option maxHeartbeats 400000 in
theorem size_any (L P E : Int) (hL : L ≤ 9223372036854775807) : Calls Try.prog 7 #[rootV L P E] w fun e w' => e = .returned (.int .i64 (sizeI L)) ∧ Chg [] w w' := by
  unfold rootV
  by_cases h0 : L < 1
  · go_enter Try.func7, Try.ntmps7
    go_wp2_with fail
    go_ret
    exact ⟨ret_int' (by unfold sizeI; rw [if_pos (.inl h0)]), (Chg.refl _ _).alloc _⟩
  · have hd : decide (L < 1) = false := by simpa using h0
    by_cases h1 : 64 < L
    · go_enter Try.func7, Try.ntmps7
      go_wp2_with fail
      go_ret
      exact ⟨ret_int' (by unfold sizeI; rw [if_pos (.inr h1)]), (Chg.refl _ _).alloc _⟩
    · have h2 : 1 ≤ L := by omega
      have h3 : L ≤ 64 := by omega
      go_enter Try.func7, Try.ntmps7
      go_wp2_with fail
      go_ret
      exact ⟨ret_int' (by unfold sizeI; rw [if_neg (by omega)]), (Chg.refl _ _).alloc _⟩
set_option maxHeartbeats 400000 in
theorem left_any (L P E u : Int) (hL : L ≤ 9223372036854775807) (hu : u ≤ 9223372036854775807) : Calls Try.prog 8 #[rootV L P E, .int .i64 u] w fun e w' => e = .returned (.int .i64 (leftI L u)) ∧ Chg [] w w' := by
  have hs := sizeI_bd L
  obtain ⟨b1, b2⟩ := hs
  have b3 : 0 ≤ max u 0 := by omega
  have b4 : max u 0 ≤ 9223372036854775807 := by omega
  unfold rootV
  go_enter Try.func8, Try.ntmps8
  go_wp2_with (go_at_call 7; refine (size_any L P E hL).mono ?_; rintro e w1 ⟨rfl, hc1⟩)
  go_ret
  exact ⟨ret_int' (by unfold leftI; rfl), ((Chg.refl _ _).alloc _).new hc1⟩
set_option maxHeartbeats 400000 in
theorem fits_any (L P E u n : Int) (hL : L ≤ 9223372036854775807) (hu : u ≤ 9223372036854775807) (hn : n ≤ 9223372036854775807) :
    Calls Try.prog 5 #[rootV L P E, .int .i64 u, .int .i64 n] w fun e w' => e = .returned (.bool (fitsB L u n)) ∧ Chg [] w w' := by
  have HF : Hid (fitsB L u n = (decide (0 < needI n) && decide (needI n ≤ leftI L u))) := rfl
  unfold rootV
  by_cases h0 : 0 < needI n
  · go_enter Try.func5, Try.ntmps5
    go_wp2_with (first
      | (go_at_call 10; refine (need_any n hn).mono ?_; rintro e w1 ⟨rfl, rfl⟩)
      | (go_at_call 8; refine (left_any L P E u hL hu).mono ?_; rintro e w1 ⟨rfl, hc1⟩))
    go_ret
    exact ⟨ret_bool (by rw [HF.out]; simp [h0]), ((Chg.refl _ _).alloc _).new hc1⟩
  · have hd : decide (0 < needI n) = false := by simpa using h0
    go_enter Try.func5, Try.ntmps5
    go_wp2_with (first
      | (go_at_call 10; refine (need_any n hn).mono ?_; rintro e w1 ⟨rfl, rfl⟩))
    go_ret
    exact ⟨ret_bool (by rw [HF.out, hd]; rfl), (Chg.refl _ _).alloc _⟩

theorem root_load {W : World} {g : Nat} {L P E : Int} (h : Whole W g 26 [.int .i64 L, .int .i64 P, .int .u32 E]) :
    W.cell? ⟨g, 0, none⟩ = some (.int .i64 L) ∧ W.cell? ⟨g, 1, none⟩ = some (.int .i64 P) ∧ W.cell? ⟨g, 2, none⟩ = some (.int .u32 E) := ⟨h.cell 0, h.cell 1, h.cell 2⟩

theorem most_iff (L P k : Int) (h0 : 0 ≤ k) (h1 : k ≤ P) (h2 : k ≤ 64) : fitsB L 0 k = true ↔ k ≤ mostI L P := by
  rw [fits_most L k h0]
  unfold mostI
  split <;> omega
theorem most_bd (L P : Int) : -1 ≤ mostI L P ∧ mostI L P ≤ max P (-1) ∧ mostI L P ≤ 64 := by
  unfold mostI
  split <;> omega

set_option maxHeartbeats 1000000 in
theorem most_any (L P E : Int) (hL : L ≤ 9223372036854775807) : Calls Try.prog 11 #[rootV L P E] w fun e w' => e = .returned (.int .i64 (mostI L P)) ∧ Chg [] w w' := by
  have HW := Whole.new w 26 [.int .i64 L, .int .i64 P, .int .u32 E]
  have hc0 : Chg [] w (w.alloc (.cells #[.int .i64 L, .int .i64 P, .int .u32 E] 26)) := (Chg.refl [] w).alloc _
  have hb := most_bd L P
  unfold rootV
  by_cases hP : P < 0
  · have hm : mostI L P = -1 := by omega
    have hd : decide (0 ≤ min P 64) = false := by simp; omega
    go_enter Try.func11, Try.ntmps11
    go_wp2_with fail
    go_loopw [3] (fun i wr => i = .int .i64 (min P 64) ∧ Chg [] w wr) (fun _ _ => 0)
    case atStart => exact ⟨rfl, hc0⟩
    case round =>
      obtain ⟨rfl, hc⟩ := hrel
      go_wp2_with fail
      go_ret
      exact ⟨ret_int' hm.symm, hc⟩
  · obtain ⟨Z, hZ⟩ : ∃ Z, Z = min P 64 := ⟨_, rfl⟩
    have hZ0 : 0 ≤ Z := by omega
    have hZ1 : Z ≤ P := by omega
    have hZ2 : Z ≤ 64 := by omega
    have hZ3 : mostI L P ≤ Z := by omega
    go_enter Try.func11, Try.ntmps11
    go_wp2_with fail
    rw [← hZ]
    generalize w.alloc (.cells #[.int .i64 L, .int .i64 P, .int .u32 E] 26) = w1 at HW hc0 ⊢
    clear hZ
    go_loopw [3] (fun i wr => ∃ z : Int, -1 ≤ z ∧ z ≤ Z ∧ i = .int .i64 z ∧ mostI L P ≤ z ∧ Chg [] w1 wr) (fun i _ => (intOf i + 1).toNat)
    case atStart => exact ⟨Z, by omega, by omega, rfl, hZ3, Chg.refl _ _⟩
    case round =>
      obtain ⟨z, hz0, hz1, rfl, hm, hc⟩ := hrel
      by_cases hlt : 0 ≤ z
      · obtain ⟨c0, c1, c2⟩ := root_load (HW.keep hc)
        have hi := most_iff L P z hlt (by omega) (by omega)
        by_cases hf : fitsB L 0 z = true
        · have hmz : mostI L P = z := by have := hi.1 hf; omega
          have HM := Lib.hid hmz
          clear hmz hi
          go_wp2_with (go_at_call 5; refine (fits_any L P E 0 z hL (by omega) (by omega)).mono ?_; rintro e w2 ⟨rfl, hc2⟩)
          go_ret
          exact ⟨ret_int' HM.out.symm, (hc0.new hc).new hc2⟩
        · have hmz : mostI L P ≤ z - 1 := by
            have : ¬ z ≤ mostI L P := fun hc => hf (hi.2 hc)
            omega
          have hf' : fitsB L 0 z = false := by simpa using hf
          clear hi hf
          go_wp2_with (go_at_call 5; refine (fits_any L P E 0 z hL (by omega) (by omega)).mono ?_; rintro e w2 ⟨rfl, hc2⟩)
          go_roundw
          case rel => exact ⟨z - 1, by omega, by omega, rfl, hmz, hc.new hc2⟩
          case measure => simp [intOf]; omega
      · have hm1 : mostI L P = -1 := by omega
        go_wp2_with fail
        go_ret
        exact ⟨rfl, hc0.new hc⟩

end
end Go.Proofs.Ytamdpmbonoolcac
