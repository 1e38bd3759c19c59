/-
  Package space, delta.Need, and the reference's room: contracts.
-/
import Derived.Test.YtlhkmbcjgdjegaaShare
import Derived.Test.YtlhkmbcjgdjegaaChecked
import Derived.Test.YtlhkmbcjgdjegaaLaw
namespace Go.Proofs.Ytlhkmbcjgdjegaa
open Go.RowKit

def sizeI (L : Int) : Int := if L < 1 ∨ 64 < L then 0 else L * 64
def leftI (L u : Int) : Int := max (sizeI L - max u 0) 0
def fitsB (L u n : Int) : Bool := decide (0 < needI n) && decide (needI n ≤ leftI L u)
def mostI (L P : Int) : Int := if P < 0 ∨ L < 1 ∨ 64 < L then -1 else min (min P 64) ((64 * L - 18) / 66)
theorem needI_bd (n : Int) : 0 ≤ needI n ∧ needI n ≤ 4242 := by unfold needI; split <;> omega
theorem sizeI_bd (L : Int) : 0 ≤ sizeI L ∧ sizeI L ≤ 4096 := by unfold sizeI; split <;> omega
theorem leftI_bd (L u : Int) : 0 ≤ leftI L u ∧ leftI L u ≤ 4096 := by unfold leftI; have := sizeI_bd L; omega
theorem fits_most (L n : Int) (h0 : 0 ≤ n) : fitsB L 0 n = true ↔ (1 ≤ L ∧ L ≤ 64 ∧ n ≤ 64 ∧ n ≤ (64 * L - 18) / 66) := by
  unfold fitsB leftI sizeI needI
  simp only [Bool.and_eq_true, decide_eq_true_eq]
  split <;> split <;> omega
section
variable {w : World}
set_option maxHeartbeats 400000 in
theorem size_any (L P E : Int) (hL : L ≤ 9223372036854775807) : Calls Try.prog 81 #[rootV L P E] w fun e w' => e = .returned (.int .i64 (sizeI L)) ∧ Chg [] w w' := by
  unfold rootV
  by_cases h0 : L < 1
  · go_enter Try.func81, Try.ntmps81
    go_wp2_with fail
    go_ret
    exact ⟨ret_int' (by unfold sizeI; rw [if_pos (.inl h0)]), (Chg.refl _ _).alloc _⟩
  · have hd : decide (L < 1) = false := by simpa using h0
    by_cases h1 : 64 < L
    · go_enter Try.func81, Try.ntmps81
      go_wp2_with fail
      go_ret
      exact ⟨ret_int' (by unfold sizeI; rw [if_pos (.inr h1)]), (Chg.refl _ _).alloc _⟩
    · have h2 : 1 ≤ L := by omega
      have h3 : L ≤ 64 := by omega
      go_enter Try.func81, Try.ntmps81
      go_wp2_with fail
      go_ret
      exact ⟨ret_int' (by unfold sizeI; rw [if_neg (by omega)]), (Chg.refl _ _).alloc _⟩
theorem root_load {W : World} {g : Nat} {L P E : Int} (h : Whole W g 26 [.int .i64 L, .int .i64 P, .int .u32 E]) :
    W.cell? ⟨g, 0, none⟩ = some (.int .i64 L) ∧ W.cell? ⟨g, 1, none⟩ = some (.int .i64 P) ∧ W.cell? ⟨g, 2, none⟩ = some (.int .u32 E) := ⟨h.cell 0, h.cell 1, h.cell 2⟩

theorem most_iff (L P k : Int) (h0 : 0 ≤ k) (h1 : k ≤ P) (h2 : k ≤ 64) : fitsB L 0 k = true ↔ k ≤ mostI L P := by
  rw [fits_most L k h0]
  unfold mostI
  split <;> omega
theorem most_bd (L P : Int) : -1 ≤ mostI L P ∧ mostI L P ≤ max P (-1) ∧ mostI L P ≤ 64 := by
  unfold mostI
  split <;> omega

end
end Go.Proofs.Ytlhkmbcjgdjegaa
