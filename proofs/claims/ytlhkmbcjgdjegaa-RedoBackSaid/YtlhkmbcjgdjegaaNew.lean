/-
  disk.New.
-/
import Derived.Test.YtlhkmbcjgdjegaaOf
namespace Go.Proofs.Ytlhkmbcjgdjegaa
open Go.RowKit

section
variable {w : World}
set_option maxHeartbeats 400000 in
theorem new_no (n : Int) (h : n < 1 ∨ 160 < n) :
    Calls Try.prog 19 #[.int .i64 n] w fun e w' => e = .returned (.pointer none) ∧ w = w' := by
  by_cases h1 : n < 1
  · have hd : decide (n < 1) = true := by simp; omega
    go_enter Try.func19, Try.ntmps19
    go_wp2_with fail
    go_ret
    exact ⟨rfl, rfl⟩
  · have hd : decide (n < 1) = false := by simp; omega
    have hd2 : decide (160 < n) = true := by simp; omega
    go_enter Try.func19, Try.ntmps19
    go_wp2_with fail
    go_ret
    exact ⟨rfl, rfl⟩

set_option maxHeartbeats 400000 in
theorem new_yes (k : Nat) (h1 : 1 ≤ k) (h2 : k ≤ 160) :
    Calls Try.prog 19 #[.int .i64 (k : Int)] w fun e w' => ∃ p bL bS bW, e = .returned (.pointer (some ⟨p, 0, none⟩)) ∧ Dsk w' p bL bS bW (zeros (k * 64)) (zeros (k * 64)) (falses k) ∧
      w.heap.size ≤ p ∧ w.heap.size ≤ bL ∧ w.heap.size ≤ bS ∧ w.heap.size ≤ bW ∧ Chg [] w w' := by
  have hd1 : decide ((k : Int) < 1) = false := by simp; omega
  have hd2 : decide (160 < (k : Int)) = false := by simp; omega
  have hmk : ∀ W : World, (Instr.makeSlice 22 (.int .i64 ((k : Int) * 64)) (.int .i64 ((k : Int) * 64))).run Try.prog W = .ok (.slice (some ⟨W.heap.size, 0, none⟩) (k * 64) (k * 64)) (W.alloc (.cells (bts (zeros (k * 64))).toArray 5)) :=
    fun W => by
      have := make_u8 (k * 64) (by omega) W
      simpa using this
  go_enter Try.func19, Try.ntmps19
  go_wp2_with (go_at_call 36; refine (of_yes (l := zeros (k * 64)) (by simp [zeros]) (Src.of_all (Whole.new w _ _)) (by omega) (by omega) (by omega)).mono ?_; rintro e w1 ⟨p, bL, bS, bW, rfl, HD, b0, b1, b2, b3, HC⟩)
  go_ret
  rw [show k * 64 / 64 = k by omega] at HD
  have hs : (w.alloc (.cells (bts (zeros (k * 64))).toArray 5)).heap.size = w.heap.size + 1 := by simp
  exact ⟨p, bL, bS, bW, rfl, HD, by omega, by omega, by omega, by omega, ((Chg.refl [] w).alloc _).new HC⟩
end
end Go.Proofs.Ytlhkmbcjgdjegaa
