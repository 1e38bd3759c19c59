/-
  The walk of WordTells.
-/
import Derived.Test.YtigbnmckdjlihaaLawWord
namespace Go.Proofs.Ytigbnmckdjlihaa
open Go.RowKit
/-- The signs. -/
def sgL : List Int := [43, 45, 42, 47, 37, 38, 124, 94, 60, 61, 171, 187, 33]
def sgV : List Value := sgL.map (Value.int .i32)
section
variable {w : World}
set_option maxHeartbeats 400000 in
theorem signs_any : Calls Try.prog 15 #[] w fun e w' => e = .returned (.slice (some ⟨w.heap.size, 0, none⟩) 13 13) ∧ Whole w' w.heap.size 21 sgV ∧ Chg [] w w' := by
  go_enter Try.func15, Try.ntmps15
  go_wp2_with fail
  go_ret
  exact ⟨rfl, Whole.new w _ sgV, (Chg.refl [] w).alloc _⟩
theorem sgV_get (j : Nat) (h : j < 13) : ∃ s : Int, sgV[j]? = some (.int .i32 s) := by
  match j, h with
  | 0, _ | 1, _ | 2, _ | 3, _ | 4, _ | 5, _ | 6, _ | 7, _ | 8, _ | 9, _ | 10, _ | 11, _ | 12, _ => exact ⟨_, rfl⟩
set_option maxHeartbeats 2000000 in
theorem wordTells_any (n a b r : Int) (ha : In64 a) : Calls Try.prog 4 #[.int .i64 n, .int .i64 a, .int .i64 b, .int .i32 r] w (LawPost w) := by
  have HA := Lib.hid ha
  clear ha
  obtain ⟨m, hm⟩ : ∃ m, n.tmod 13 = m := ⟨_, rfl⟩
  have m1 : -13 < m := hm ▸ Int.lt_tmod_of_pos n (by omega)
  have m2 : m < 13 := hm ▸ Int.tmod_lt_of_pos n (by omega)
  obtain ⟨j, hj⟩ := Int.eq_ofNat_of_zero_le (show 0 ≤ (m + 13) % 13 by omega)
  have j1 : j < 13 := by omega
  obtain ⟨s, hs⟩ := sgV_get j j1
  have HS := Lib.hid hs
  clear hs
  go_enter Try.func4, Try.ntmps4
  go_wp2_with fail
  refine signs_any.mono ?_
  rintro e w1 ⟨rfl, hW, hc1⟩
  have hl : w1.cell? ⟨w.heap.size, j, none⟩ = some (.int .i32 s) := by rw [hW.cell]; exact HS.out
  have HW := Lib.hid hW
  clear hW
  go_wp2_with (first
      | (go_at_call 16; ((with_reducible refine (wsame_any _ _ _ HA.out).mono ?_); rintro e w' ⟨rfl, rfl⟩))
      | (go_at_call 17; ((with_reducible refine wknown_any.mono ?_); rintro e w' ⟨rfl, rfl⟩)))
  go_ret
  exact ⟨rfl, hc1⟩
end
end Go.Proofs.Ytigbnmckdjlihaa
