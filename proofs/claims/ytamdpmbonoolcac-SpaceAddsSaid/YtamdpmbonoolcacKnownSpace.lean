/-
  The law's 'known' of layer 6.
-/
import Derived.Test.YtamdpmbonoolcacSpace
namespace Go.Proofs.Ytamdpmbonoolcac
open Go.RowKit
section
variable {w : World}
set_option maxHeartbeats 1000000 in
theorem spknown_any : Calls Try.prog 9 #[] w (LawPost w) := by
  have m1 : mostI 1 5 = 0 := by decide
  have m2 : sizeI 1 = 64 := by decide
  have m3 : fitsB 1 0 0 = true := by decide
  have m4 : fitsB 1 0 1 = false := by decide
  have m5 : leftI 1 99 = 0 := by decide
  have m6 : leftI 1 (-5) = 64 := by decide
  have m7 : mostI 0 0 = -1 := by decide
  go_enter Try.func9, Try.ntmps9
  go_wp2_with fail
  have H0 := Whole.new w 26 [.int .i64 1, .int .i64 5, .int .u32 0]
  have hc0 : Chg [] w (w.alloc (.cells #[.int .i64 1, .int .i64 5, .int .u32 0] 26)) := (Chg.refl [] w).alloc _
  refine (most_any 1 5 0 (by omega)).mono ?_
  rintro e w1 ⟨rfl, hc1⟩
  have H1 := H0.keep hc1
  obtain ⟨c0, c1, c2⟩ := root_load H1
  rw [m1]
  go_wp2_with fail
  refine (size_any 1 5 0 (by omega)).mono ?_
  rintro e w2 ⟨rfl, hc2⟩
  have H2 := H1.keep hc2
  obtain ⟨c0, c1, c2⟩ := root_load H2
  rw [m2]
  go_wp2_with fail
  refine (fits_any 1 5 0 0 0 (by omega) (by omega) (by omega)).mono ?_
  rintro e w3 ⟨rfl, hc3⟩
  have H3 := H2.keep hc3
  obtain ⟨c0, c1, c2⟩ := root_load H3
  rw [m3]
  go_wp2_with fail
  refine (fits_any 1 5 0 0 1 (by omega) (by omega) (by omega)).mono ?_
  rintro e w4 ⟨rfl, hc4⟩
  have H4 := H3.keep hc4
  obtain ⟨c0, c1, c2⟩ := root_load H4
  rw [m4]
  go_wp2_with fail
  refine (left_any 1 5 0 99 (by omega) (by omega)).mono ?_
  rintro e w5 ⟨rfl, hc5⟩
  have H5 := H4.keep hc5
  obtain ⟨c0, c1, c2⟩ := root_load H5
  rw [m5]
  go_wp2_with fail
  refine (left_any 1 5 0 (-5) (by omega) (by omega)).mono ?_
  rintro e w6 ⟨rfl, hc6⟩
  have H6 := H5.keep hc6
  obtain ⟨c0, c1, c2⟩ := root_load H6
  rw [m6]
  go_wp2_with fail
  refine (most_any 0 0 0 (by omega)).mono ?_
  rintro e w7 ⟨rfl, hc7⟩
  rw [m7]
  go_wp2_with fail
  go_ret
  exact ⟨rfl, ((((((hc0.new hc1).new hc2).new hc3).new hc4).new hc5).new hc6).new hc7⟩
end
end Go.Proofs.Ytamdpmbonoolcac
