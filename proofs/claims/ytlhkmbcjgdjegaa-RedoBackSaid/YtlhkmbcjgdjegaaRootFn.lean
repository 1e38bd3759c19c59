/-
  Layer 5: Right, Home, Bytes, and the reference's.
-/
import Derived.Test.YtlhkmbcjgdjegaaShare
import Derived.Test.YtlhkmbcjgdjegaaRootPure
import Derived.Test.YtlhkmbcjgdjegaaBEq
import Derived.Test.YtlhkmbcjgdjegaaAppZeros
import Derived.Deep.QuietTactic
import Derived.BigQuiet
import Derived.IntWalk
namespace Go.Proofs.Ytlhkmbcjgdjegaa
open Go.RowKit
theorem root_cells {W : World} {g : Nat} {x y z : Value} (h : Whole W g 26 [x, y, z]) : W.cell? ⟨g, 0, none⟩ = some x ∧ W.cell? ⟨g, 1, none⟩ = some y ∧ W.cell? ⟨g, 2, none⟩ = some z ∧ W.frozen? ⟨g, 0, none⟩ = false ∧ W.frozen? ⟨g, 1, none⟩ = false ∧ W.frozen? ⟨g, 2, none⟩ = false :=
  ⟨h.cell 0, h.cell 1, h.cell 2, h.frozen 0, h.frozen 1, h.frozen 2⟩
def homeI (L P page : Int) : Int := if page < 0 ∨ P ≤ page then -1 else wrap64 (wrap64 (2 + L) + page)
section
variable {w : World}
set_option maxHeartbeats 1000000 in
theorem rright_any (L P E s : Int) : Calls Try.prog 99 #[rootV L P E, .int .i64 s] w (BoolPost (rightR L P E s) w) := by
  unfold rootV
  by_cases h1 : L < 1
  · have HF := Lib.hid (show rightR L P E s = false from rightR_false.2 (by omega))
    have hd : decide (L < 1) = true := by simpa using h1
    go_enter Try.func99, Try.ntmps99
    go_wp2_with fail
    go_ret
    exact ⟨by rw [HF.out]; rfl, (Chg.refl _ _).alloc _⟩
  have hd1 : decide (L < 1) = false := by simpa using h1
  by_cases h2 : 64 < L
  · have HF := Lib.hid (show rightR L P E s = false from rightR_false.2 (by omega))
    go_enter Try.func99, Try.ntmps99
    go_wp2_with fail
    go_ret
    exact ⟨by rw [HF.out]; rfl, (Chg.refl _ _).alloc _⟩
  have hd2 : decide (64 < L) = false := by simpa using h2
  by_cases h3 : P < 1
  · have HF := Lib.hid (show rightR L P E s = false from rightR_false.2 (by omega))
    go_enter Try.func99, Try.ntmps99
    go_wp2_with fail
    go_ret
    exact ⟨by rw [HF.out]; rfl, (Chg.refl _ _).alloc _⟩
  have hd3 : decide (P < 1) = false := by simpa using h3
  by_cases h4 : 64 < P
  · have HF := Lib.hid (show rightR L P E s = false from rightR_false.2 (by omega))
    go_enter Try.func99, Try.ntmps99
    go_wp2_with fail
    go_ret
    exact ⟨by rw [HF.out]; rfl, (Chg.refl _ _).alloc _⟩
  have hd4 : decide (64 < P) = false := by simpa using h4
  have b1 : 1 ≤ L := by omega
  have b2 : L ≤ 64 := by omega
  have b3 : 1 ≤ P := by omega
  have b4 : P ≤ 64 := by omega
  by_cases h5 : 2 + L + P ≤ s
  · have hd5 : decide (2 + L + P ≤ s) = true := by simpa using h5
    have HF := Lib.hid (show rightR L P E s = decide (1 ≤ E) from by unfold rightR; congr 1; apply propext; omega)
    go_enter Try.func99, Try.ntmps99
    go_wp2_with fail
    go_ret
    exact ⟨by rw [HF.out]; rfl, (Chg.refl _ _).alloc _⟩
  · have hd5 : decide (2 + L + P ≤ s) = false := by simpa using h5
    have HF := Lib.hid (show rightR L P E s = false from rightR_false.2 (by omega))
    go_enter Try.func99, Try.ntmps99
    go_wp2_with fail
    go_ret
    exact ⟨by rw [HF.out]; rfl, (Chg.refl _ _).alloc _⟩
set_option maxHeartbeats 1000000 in
theorem rrright_any (L P E s : Int) : Calls Try.prog 49 #[rootV L P E, .int .i64 s] w (BoolPost (rightR L P E s) w) := by
  unfold rootV
  by_cases h1 : 1 ≤ L
  rotate_left
  · have HF := Lib.hid (show rightR L P E s = false from rightR_false.2 (by omega))
    have hd : decide (1 ≤ L) = false := by simpa using h1
    go_enter Try.func49, Try.ntmps49
    go_wp2_with fail
    go_ret
    exact ⟨by rw [HF.out]; rfl, (Chg.refl _ _).alloc _⟩
  by_cases h2 : L ≤ 64
  rotate_left
  · have HF := Lib.hid (show rightR L P E s = false from rightR_false.2 (by omega))
    have hd : decide (L ≤ 64) = false := by simpa using h2
    go_enter Try.func49, Try.ntmps49
    go_wp2_with fail
    go_ret
    exact ⟨by rw [HF.out]; rfl, (Chg.refl _ _).alloc _⟩
  by_cases h3 : 1 ≤ P
  rotate_left
  · have HF := Lib.hid (show rightR L P E s = false from rightR_false.2 (by omega))
    have hd : decide (1 ≤ P) = false := by simpa using h3
    go_enter Try.func49, Try.ntmps49
    go_wp2_with fail
    go_ret
    exact ⟨by rw [HF.out]; rfl, (Chg.refl _ _).alloc _⟩
  by_cases h4 : P ≤ 64
  rotate_left
  · have HF := Lib.hid (show rightR L P E s = false from rightR_false.2 (by omega))
    have hd : decide (P ≤ 64) = false := by simpa using h4
    go_enter Try.func49, Try.ntmps49
    go_wp2_with fail
    go_ret
    exact ⟨by rw [HF.out]; rfl, (Chg.refl _ _).alloc _⟩
  by_cases h5 : 2 + L + P ≤ s
  · have hd5 : decide (2 + L + P ≤ s) = true := by simpa using h5
    have HF := Lib.hid (show rightR L P E s = decide (1 ≤ E) from by unfold rightR; congr 1; apply propext; omega)
    go_enter Try.func49, Try.ntmps49
    go_wp2_with fail
    go_ret
    exact ⟨by rw [HF.out]; rfl, (Chg.refl _ _).alloc _⟩
  · have hd5 : decide (2 + L + P ≤ s) = false := by simpa using h5
    have HF := Lib.hid (show rightR L P E s = false from rightR_false.2 (by omega))
    go_enter Try.func49, Try.ntmps49
    go_wp2_with fail
    go_ret
    exact ⟨by rw [HF.out]; rfl, (Chg.refl _ _).alloc _⟩
set_option maxHeartbeats 1000000 in
theorem home_any (L P E page : Int) : Calls Try.prog 59 #[rootV L P E, .int .i64 page] w fun e w' => e = .returned (.int .i64 (homeI L P page)) ∧ Chg [] w w' := by
  unfold rootV
  by_cases h1 : page < 0
  · have HF := Lib.hid (show homeI L P page = -1 by unfold homeI; rw [if_pos (.inl h1)])
    go_enter Try.func59, Try.ntmps59
    go_wp2_with fail
    go_ret
    exact ⟨ret_int' HF.out.symm, (Chg.refl _ _).alloc _⟩
  have hd1 : decide (page < 0) = false := by simpa using h1
  by_cases h2 : P ≤ page
  · have HF := Lib.hid (show homeI L P page = -1 by unfold homeI; rw [if_pos (.inr h2)])
    go_enter Try.func59, Try.ntmps59
    go_wp2_with fail
    go_ret
    exact ⟨ret_int' HF.out.symm, (Chg.refl _ _).alloc _⟩
  · have hd2 : decide (P ≤ page) = false := by simpa using h2
    have HF := Lib.hid (show homeI L P page = wrap64 (wrap64 (2 + L) + page) by unfold homeI; rw [if_neg (by omega)])
    go_enter Try.func59, Try.ntmps59
    go_wp2_with fail
    go_ret
    exact ⟨ret_int' HF.out.symm, (Chg.refl _ _).alloc _⟩
set_option maxHeartbeats 1000000 in
theorem rhome_any (L P E page : Int) : Calls Try.prog 51 #[rootV L P E, .int .i64 page] w fun e w' => e = .returned (.int .i64 (homeI L P page)) ∧ Chg [] w w' := by
  unfold rootV
  by_cases h1 : page < 0
  · have HF := Lib.hid (show homeI L P page = -1 by unfold homeI; rw [if_pos (.inl h1)])
    go_enter Try.func51, Try.ntmps51
    go_wp2_with fail
    go_ret
    exact ⟨ret_int' HF.out.symm, (Chg.refl _ _).alloc _⟩
  have hd1 : decide (page < 0) = false := by simpa using h1
  by_cases h2 : P ≤ page
  · have HF := Lib.hid (show homeI L P page = -1 by unfold homeI; rw [if_pos (.inr h2)])
    go_enter Try.func51, Try.ntmps51
    go_wp2_with fail
    go_ret
    exact ⟨ret_int' HF.out.symm, (Chg.refl _ _).alloc _⟩
  · have hd2 : decide (P ≤ page) = false := by simpa using h2
    have HF := Lib.hid (show homeI L P page = wrap64 (wrap64 (2 + L) + page) by unfold homeI; rw [if_neg (by omega)])
    go_enter Try.func51, Try.ntmps51
    go_wp2_with fail
    go_ret
    exact ⟨ret_int' HF.out.symm, (Chg.refl _ _).alloc _⟩
end
end Go.Proofs.Ytlhkmbcjgdjegaa
