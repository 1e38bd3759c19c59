/-
  The walk of WordNumbers.
-/
import Derived.Test.YtigbnmckdjlihaaLawWordT
namespace Go.Proofs.Ytigbnmckdjlihaa
open Go.RowKit
/-- The bounds. -/
def bdL : List Int := [0, 1, -1, 2, -3, 7, 63, 64, 65, 255, 256, 2147483648, -4294967296, 4611686018427387907, 9223372036854775807, -9223372036854775808]
def bdV : List Value := bdL.map (Value.int .i64)
theorem bdV_get (j : Nat) (h : j < 16) : ∃ s : Int, bdV[j]? = some (.int .i64 s) ∧ In64 s := by
  match j, h with
  | 0, _ | 1, _ | 2, _ | 3, _ | 4, _ | 5, _ | 6, _ | 7, _ | 8, _ | 9, _ | 10, _ | 11, _ | 12, _ | 13, _ | 14, _ | 15, _ => exact ⟨_, rfl, by unfold In64; omega⟩
  | n + 16, h => exact absurd h (by omega)
theorem in9 : In64 9 := by unfold In64; omega
section
variable {w : World}
set_option maxHeartbeats 4000000 in
set_option maxRecDepth 100000 in
theorem wordNumbers_any : Calls Try.prog 3 #[] w (LawPost w) := by
  have hW0 := Whole.new w 2 bdV
  have hC0 : Chg [] w (w.alloc (.cells bdV.toArray 2)) := (Chg.refl [] w).alloc _
  go_enter Try.func3, Try.ntmps3
  go_wp2_with fail
  simp only [show w.alloc (.cells #[Value.int .i64 0, Value.int .i64 1, Value.int .i64 (-1), Value.int .i64 2, Value.int .i64 (-3), Value.int .i64 7, Value.int .i64 63, Value.int .i64 64, Value.int .i64 65, Value.int .i64 255, Value.int .i64 256, Value.int .i64 2147483648, Value.int .i64 (-4294967296), Value.int .i64 4611686018427387907, Value.int .i64 9223372036854775807, Value.int .i64 (-9223372036854775808)] 2) = w.alloc (.cells bdV.toArray 2) from rfl]
  generalize w.alloc (.cells bdV.toArray 2) = w1 at hW0 hC0 ⊢
  have hz1 : w.heap.size < w1.heap.size := hW0.lt
  have HC := Lib.hid hC0
  have HW := Lib.hid hW0
  clear hC0 hW0
  go_loopw [12] (fun i W => Chg [] w1 W ∧ ∃ k : Nat, k ≤ 16 ∧ i = .int .i64 (k : Int)) (fun i _ => 16 - (intOf i).toNat)
  case atStart => exact ⟨Chg.refl _ _, 0, by omega, rfl⟩
  case round =>
    obtain ⟨hc1, k, hk, rfl⟩ := hrel
    by_cases hlt : k < 16
    · obtain ⟨a, ha, ha64⟩ := bdV_get k hlt
      have HA := Lib.hid ha64
      have hl : wr.cell? ⟨w.heap.size, k, none⟩ = some (.int .i64 a) := by rw [(HW.out.keep hc1).cell]; exact ha
      have HC1 := Lib.hid hc1
      clear ha ha64 hc1
      go_wp2_with fail
      go_loopw [18] (fun i W => Chg [] w1 W ∧ ∃ k : Nat, k ≤ 16 ∧ i = .int .i64 (k : Int)) (fun i _ => 16 - (intOf i).toNat)
      case atStart => exact ⟨HC1.out, 0, by omega, rfl⟩
      case round =>
        obtain ⟨hc2, j, hj, rfl⟩ := hrel
        clear hl HC1
        by_cases hlt2 : j < 16
        · obtain ⟨b, hb, hb64⟩ := bdV_get j hlt2
          have HB := Lib.hid hb64
          have hl : wr.cell? ⟨w.heap.size, j, none⟩ = some (.int .i64 b) := by rw [(HW.out.keep hc2).cell]; exact hb
          have HC2 := Lib.hid hc2
          clear hb hb64 hc2
          go_wp2_with fail
          refine signs_any.mono ?_
          rintro e w2 ⟨rfl, hW2, hc3⟩
          have HW2 := Lib.hid hW2
          have HC3 := Lib.hid (HC2.out.trans hc3)
          clear hl HC2 hW2 hc3
          generalize wr.heap.size = g2 at HW2 ⊢
          go_wp2_with fail
          go_loop [24] (fun i => ∃ m : Nat, m ≤ 13 ∧ i = .int .i64 (m : Int)) (fun i => 13 - (intOf i).toNat)
          case atStart => exact ⟨0, by omega, rfl⟩
          case round =>
            obtain ⟨m, hm, rfl⟩ := hrel
            by_cases hlt3 : m < 13
            · obtain ⟨s, hs⟩ := sgV_get m hlt3
              have hl : w2.cell? ⟨g2, m, none⟩ = some (.int .i32 s) := by rw [HW2.out.cell]; exact hs
              clear hs
              go_wp2_with (go_at_call 16; ((with_reducible refine (wsame_any _ _ _ HA.out).mono ?_); rintro e w' ⟨rfl, rfl⟩))
              go_round
              case rel => exact ⟨m + 1, by omega, by go_num⟩
              case measure => simp [intOf]; omega
            · go_wp2_with fail
              go_roundw
              case rel => exact ⟨_, _, _, _, ⟨HC3.out, j + 1, by omega, rfl⟩, rfl, rfl, rfl, by go_num⟩
              case measure => simp [intOf]; omega
        · go_wp2_with fail
          go_roundw
          case rel => exact ⟨hc2, k + 1, by omega, by go_num⟩
          case measure => simp [intOf]; omega
    · have HC1 := Lib.hid hc1
      clear hc1
      go_wp2_with fail
      go_loop [8] (fun i => ∃ r : Int, -3 ≤ r ∧ r ≤ 700 ∧ i = .int .i32 r) (fun i => (700 - intOf i).toNat)
      case atStart => exact ⟨-3, by omega, by omega, rfl⟩
      case round =>
        obtain ⟨r, hr0, hr1, rfl⟩ := hrel
        by_cases hlt4 : r < 700
        · go_wp2_with (go_at_call 16; ((with_reducible refine (wsame_any _ _ _ in9).mono ?_); rintro e w' ⟨rfl, rfl⟩))
          go_round
          case rel => exact ⟨r + 1, by omega, by omega, by go_num⟩
          case measure => simp [intOf]; omega
        · go_wp2_with (go_at_call 17; ((with_reducible refine wknown_any.mono ?_); rintro e w' ⟨rfl, rfl⟩))
          go_ret
          exact ⟨rfl, HC.out.trans HC1.out⟩
end
end Go.Proofs.Ytigbnmckdjlihaa
