/-
  The walk of SpaceNumbers.
-/
import Derived.Test.YtamdpmbonoolcabLawSpace
namespace Go.Proofs.Ytamdpmbonoolcab
open Go.RowKit
section
variable {w : World}
set_option maxHeartbeats 2000000 in
set_option maxRecDepth 100000 in
theorem spaceNumbers_any : Calls Try.prog 12 #[] w (LawPost w) := by
  go_enter Try.func12, Try.ntmps12
  go_wp2_with fail
  go_loopw [1, 2, 3, 5] (fun i _ _ _ wr => ∃ z : Int, -1 ≤ z ∧ z ≤ 67 ∧ i = .int .i64 z ∧ Chg [] w wr) (fun i _ _ _ _ => (67 - intOf i).toNat)
  case atStart => exact ⟨-1, by omega, by omega, rfl, Chg.refl _ _⟩
  case round =>
    obtain ⟨z, hz0, hz1, rfl, hcr⟩ := hrel
    obtain ⟨wo, rfl⟩ : ∃ wo : World, wo = wr := ⟨_, rfl⟩
    by_cases hlt : z < 67
    · have hd : decide (z < 67) = true := by simpa using hlt
      go_wp2_with fail
      go_loopw [2, 3, 5] (fun i _ _ wr => ∃ n : Int, -1 ≤ n ∧ n ≤ 100 ∧ i = .int .i64 n ∧ Chg [] wo wr) (fun i _ _ _ => (100 - intOf i).toNat)
      case atStart => exact ⟨-1, by omega, by omega, rfl, Chg.refl _ _⟩
      case round =>
        obtain ⟨n, hn0, hn1, rfl, hcn⟩ := hrel
        obtain ⟨wi, rfl⟩ : ∃ wi : World, wi = wr := ⟨_, rfl⟩
        by_cases hln : n < 67
        · have hd2 : decide (n < 67) = true := by simpa using hln
          have HR := Whole.new wi 55 [.int .i64 z, .int .i64 n, .int .u32 0]
          go_wp2_with fail
          have HL := Whole.new (wi.alloc (.cells #[.int .i64 z, .int .i64 n, .int .u32 0] 55)) 3 (nms [-9223372036854775808, -1, 0, 18, 64, z * 30, z * 64, z * 64 + 1, 9223372036854775807])
          have hz1 : (wi.alloc (.cells #[.int .i64 z, .int .i64 n, .int .u32 0] 55)).heap.size = wi.heap.size + 1 := by simp
          have hw3 : Chg [] wi ((wi.alloc (.cells #[.int .i64 z, .int .i64 n, .int .u32 0] 55)).alloc (.cells (nms [-9223372036854775808, -1, 0, 18, 64, z * 30, z * 64, z * 64 + 1, 9223372036854775807]).toArray 3)) := ((Chg.refl [] wi).alloc _).alloc _
          have HR3 := HR.keep ((Chg.refl [] _).alloc (.cells (nms [-9223372036854775808, -1, 0, 18, 64, z * 30, z * 64, z * 64 + 1, 9223372036854775807]).toArray 3))
          rw [hz1] at HL
          have hLe : (nms [-9223372036854775808, -1, 0, 18, 64, z * 30, z * 64, z * 64 + 1, 9223372036854775807]).toArray = #[.int .i64 (-9223372036854775808), .int .i64 (-1), .int .i64 0, .int .i64 18, .int .i64 64, .int .i64 (z * 30), .int .i64 (z * 64), .int .i64 (z * 64 + 1), .int .i64 9223372036854775807] := rfl
          have hall : ∀ q ∈ [-9223372036854775808, -1, 0, 18, 64, z * 30, z * 64, z * 64 + 1, 9223372036854775807], q ≤ (9223372036854775807 : Int) := by
            intro q hq
            simp only [List.mem_cons, List.not_mem_nil, or_false] at hq
            omega
          have hlen : [-9223372036854775808, -1, 0, 18, 64, z * 30, z * 64, z * 64 + 1, (9223372036854775807 : Int)].length = 9 := rfl
          rw [hLe] at hw3 HR3 HL
          generalize [-9223372036854775808, -1, 0, 18, 64, z * 30, z * 64, z * 64 + 1, (9223372036854775807 : Int)] = LL at HL hall hlen
          generalize (wi.alloc (.cells #[.int .i64 z, .int .i64 n, .int .u32 0] 55)).alloc (.cells #[.int .i64 (-9223372036854775808), .int .i64 (-1), .int .i64 0, .int .i64 18, .int .i64 64, .int .i64 (z * 30), .int .i64 (z * 64), .int .i64 (z * 64 + 1), .int .i64 9223372036854775807] 3) = w3 at HL hw3 HR3 ⊢
          have HLEN := Lib.hid hlen
          have HALL := Lib.hid hall
          clear hLe HR hlen hall
          go_loopw [5, 26] (fun _ i wr => ∃ j : Nat, j ≤ 9 ∧ i = .int .i64 (j : Int) ∧ Chg [] w3 wr) (fun _ i _ => 9 - (intOf i).toNat)
          case atStart => exact ⟨0, by omega, rfl, Chg.refl _ _⟩
          case round =>
            obtain ⟨j, hj, rfl, hcj⟩ := hrel
            by_cases hlj : j < 9
            · obtain ⟨q, hq⟩ : ∃ q, LL[j]? = some q := ⟨_, List.getElem?_eq_getElem (by rw [HLEN.out]; exact hlj)⟩
              have hq1 := HALL.out q (List.mem_of_getElem? hq)
              have cq : wr.cell? ⟨wi.heap.size + 1, j, none⟩ = some (.int .i64 q) := by rw [(HL.keep hcj).cell]; simp [nms, hq]
              have HRr := HR3.keep hcj
              obtain ⟨c0, c1, c2⟩ := root_load HRr
              clear hq
              go_wp2_with fail
              refine (spsame_any z n 0 q n (by omega) (by omega) (by omega)).mono ?_
              rintro e w4 ⟨rfl, hc4⟩
              obtain ⟨d0, d1, d2⟩ := root_load (HRr.keep hc4)
              go_wp2_with fail
              refine (spsame_any z n 0 q z (by omega) (by omega) (by omega)).mono ?_
              rintro e w5 ⟨rfl, hc5⟩
              go_wp2_with fail
              go_roundw
              case rel => exact ⟨j + 1, by omega, by go_num, (hcj.new hc4).new hc5⟩
              case measure => simp [intOf]; omega
            · go_wp2_with fail
              go_roundw
              case rel => exact ⟨n + 3, by omega, by omega, rfl, (hcn.new hw3).new hcj⟩
              case measure => simp [intOf]; omega
        · go_wp2_with fail
          go_roundw
          case rel => exact ⟨z + 1, by omega, by omega, rfl, hcr.new hcn⟩
          case measure => simp [intOf]; omega
    · go_wp2_with fail
      refine (spsame_any 4611686018427387904 4611686018427387904 0 0 4611686018427387904 (by omega) (by omega) (by omega)).mono ?_
      rintro e w1 ⟨rfl, hc1⟩
      go_wp2_with fail
      refine spknown_any.mono ?_
      rintro e w2 ⟨rfl, hc2⟩
      go_wp2_with fail
      go_ret
      exact ⟨rfl, (hcr.new hc1).new hc2⟩
end
end Go.Proofs.Ytamdpmbonoolcab
