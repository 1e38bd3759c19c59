/-
  Layer 5: Right, Home, Bytes, and the reference's.
-/
import Derived.Test.YteodadngnlekfaaRootPure
import Derived.Test.YteodadngnlekfaaBEq
import Derived.Test.YteodadngnlekfaaAppZeros
import Derived.Deep.QuietTactic
import Derived.BigQuiet
import Derived.IntWalk
namespace Go.Proofs.Yteodadngnlekfaa
open Go.RowKit
def rootV (L P E : Int) : Value := .agg #[.int .i64 L, .int .i64 P, .int .u32 E]
theorem ret_int' {k : IntKind} {a b : Int} (h : a = b) : Ending.returned (.int k a) = .returned (.int k b) := by rw [h]
theorem ret_bool {a b : Bool} (h : a = b) : Ending.returned (.bool a) = .returned (.bool b) := by rw [h]
def homeI (L P page : Int) : Int := if page < 0 ∨ P ≤ page then -1 else wrap64 (wrap64 (2 + L) + page)
/-- A truth, and only new memory. -/
def BoolPost (b : Bool) (w : World) (e : Ending) (w' : World) : Prop := e = .returned (.bool b) ∧ Chg [] w w'
section
variable {w : World}
set_option maxHeartbeats 1000000 in
theorem rright_any (L P E s : Int) : Calls Try.prog 38 #[rootV L P E, .int .i64 s] w (BoolPost (rightR L P E s) w) := by
  unfold rootV
  by_cases h1 : L < 1
  · have HF := Lib.hid (show rightR L P E s = false from rightR_false.2 (by omega))
    have hd : decide (L < 1) = true := by simpa using h1
    go_enter Try.func38, Try.ntmps38
    go_wp2_with fail
    go_ret
    exact ⟨by rw [HF.out]; rfl, (Chg.refl _ _).alloc _⟩
  have hd1 : decide (L < 1) = false := by simpa using h1
  by_cases h2 : 64 < L
  · have HF := Lib.hid (show rightR L P E s = false from rightR_false.2 (by omega))
    go_enter Try.func38, Try.ntmps38
    go_wp2_with fail
    go_ret
    exact ⟨by rw [HF.out]; rfl, (Chg.refl _ _).alloc _⟩
  have hd2 : decide (64 < L) = false := by simpa using h2
  by_cases h3 : P < 1
  · have HF := Lib.hid (show rightR L P E s = false from rightR_false.2 (by omega))
    go_enter Try.func38, Try.ntmps38
    go_wp2_with fail
    go_ret
    exact ⟨by rw [HF.out]; rfl, (Chg.refl _ _).alloc _⟩
  have hd3 : decide (P < 1) = false := by simpa using h3
  by_cases h4 : 64 < P
  · have HF := Lib.hid (show rightR L P E s = false from rightR_false.2 (by omega))
    go_enter Try.func38, Try.ntmps38
    go_wp2_with fail
    go_ret
    exact ⟨by rw [HF.out]; rfl, (Chg.refl _ _).alloc _⟩
  have hd4 : decide (64 < P) = false := by simpa using h4
  have b1 : 1 ≤ L := by omega
  have b2 : L ≤ 64 := by omega
  have b3 : 1 ≤ P := by omega
  have b4 : P ≤ 64 := by omega
  by_cases h5 : 2 + L + P ≤ s
  · have hd5 : decide (2 + L + P ≤ s) = true := by simpa using h5
    have HF := Lib.hid (show rightR L P E s = decide (1 ≤ E) from by unfold rightR; congr 1; apply propext; omega)
    go_enter Try.func38, Try.ntmps38
    go_wp2_with fail
    go_ret
    exact ⟨by rw [HF.out]; rfl, (Chg.refl _ _).alloc _⟩
  · have hd5 : decide (2 + L + P ≤ s) = false := by simpa using h5
    have HF := Lib.hid (show rightR L P E s = false from rightR_false.2 (by omega))
    go_enter Try.func38, Try.ntmps38
    go_wp2_with fail
    go_ret
    exact ⟨by rw [HF.out]; rfl, (Chg.refl _ _).alloc _⟩
set_option maxHeartbeats 1000000 in
theorem rrright_any (L P E s : Int) : Calls Try.prog 39 #[rootV L P E, .int .i64 s] w (BoolPost (rightR L P E s) w) := by
  unfold rootV
  by_cases h1 : 1 ≤ L
  rotate_left
  · have HF := Lib.hid (show rightR L P E s = false from rightR_false.2 (by omega))
    have hd : decide (1 ≤ L) = false := by simpa using h1
    go_enter Try.func39, Try.ntmps39
    go_wp2_with fail
    go_ret
    exact ⟨by rw [HF.out]; rfl, (Chg.refl _ _).alloc _⟩
  by_cases h2 : L ≤ 64
  rotate_left
  · have HF := Lib.hid (show rightR L P E s = false from rightR_false.2 (by omega))
    have hd : decide (L ≤ 64) = false := by simpa using h2
    go_enter Try.func39, Try.ntmps39
    go_wp2_with fail
    go_ret
    exact ⟨by rw [HF.out]; rfl, (Chg.refl _ _).alloc _⟩
  by_cases h3 : 1 ≤ P
  rotate_left
  · have HF := Lib.hid (show rightR L P E s = false from rightR_false.2 (by omega))
    have hd : decide (1 ≤ P) = false := by simpa using h3
    go_enter Try.func39, Try.ntmps39
    go_wp2_with fail
    go_ret
    exact ⟨by rw [HF.out]; rfl, (Chg.refl _ _).alloc _⟩
  by_cases h4 : P ≤ 64
  rotate_left
  · have HF := Lib.hid (show rightR L P E s = false from rightR_false.2 (by omega))
    have hd : decide (P ≤ 64) = false := by simpa using h4
    go_enter Try.func39, Try.ntmps39
    go_wp2_with fail
    go_ret
    exact ⟨by rw [HF.out]; rfl, (Chg.refl _ _).alloc _⟩
  by_cases h5 : 2 + L + P ≤ s
  · have hd5 : decide (2 + L + P ≤ s) = true := by simpa using h5
    have HF := Lib.hid (show rightR L P E s = decide (1 ≤ E) from by unfold rightR; congr 1; apply propext; omega)
    go_enter Try.func39, Try.ntmps39
    go_wp2_with fail
    go_ret
    exact ⟨by rw [HF.out]; rfl, (Chg.refl _ _).alloc _⟩
  · have hd5 : decide (2 + L + P ≤ s) = false := by simpa using h5
    have HF := Lib.hid (show rightR L P E s = false from rightR_false.2 (by omega))
    go_enter Try.func39, Try.ntmps39
    go_wp2_with fail
    go_ret
    exact ⟨by rw [HF.out]; rfl, (Chg.refl _ _).alloc _⟩
set_option maxHeartbeats 1000000 in
theorem home_any (L P E page : Int) : Calls Try.prog 40 #[rootV L P E, .int .i64 page] w fun e w' => e = .returned (.int .i64 (homeI L P page)) ∧ Chg [] w w' := by
  unfold rootV
  by_cases h1 : page < 0
  · have HF := Lib.hid (show homeI L P page = -1 by unfold homeI; rw [if_pos (.inl h1)])
    go_enter Try.func40, Try.ntmps40
    go_wp2_with fail
    go_ret
    exact ⟨ret_int' HF.out.symm, (Chg.refl _ _).alloc _⟩
  have hd1 : decide (page < 0) = false := by simpa using h1
  by_cases h2 : P ≤ page
  · have HF := Lib.hid (show homeI L P page = -1 by unfold homeI; rw [if_pos (.inr h2)])
    go_enter Try.func40, Try.ntmps40
    go_wp2_with fail
    go_ret
    exact ⟨ret_int' HF.out.symm, (Chg.refl _ _).alloc _⟩
  · have hd2 : decide (P ≤ page) = false := by simpa using h2
    have HF := Lib.hid (show homeI L P page = wrap64 (wrap64 (2 + L) + page) by unfold homeI; rw [if_neg (by omega)])
    go_enter Try.func40, Try.ntmps40
    go_wp2_with fail
    go_ret
    exact ⟨ret_int' HF.out.symm, (Chg.refl _ _).alloc _⟩
set_option maxHeartbeats 1000000 in
theorem rhome_any (L P E page : Int) : Calls Try.prog 41 #[rootV L P E, .int .i64 page] w fun e w' => e = .returned (.int .i64 (homeI L P page)) ∧ Chg [] w w' := by
  unfold rootV
  by_cases h1 : page < 0
  · have HF := Lib.hid (show homeI L P page = -1 by unfold homeI; rw [if_pos (.inl h1)])
    go_enter Try.func41, Try.ntmps41
    go_wp2_with fail
    go_ret
    exact ⟨ret_int' HF.out.symm, (Chg.refl _ _).alloc _⟩
  have hd1 : decide (page < 0) = false := by simpa using h1
  by_cases h2 : P ≤ page
  · have HF := Lib.hid (show homeI L P page = -1 by unfold homeI; rw [if_pos (.inr h2)])
    go_enter Try.func41, Try.ntmps41
    go_wp2_with fail
    go_ret
    exact ⟨ret_int' HF.out.symm, (Chg.refl _ _).alloc _⟩
  · have hd2 : decide (P ≤ page) = false := by simpa using h2
    have HF := Lib.hid (show homeI L P page = wrap64 (wrap64 (2 + L) + page) by unfold homeI; rw [if_neg (by omega)])
    go_enter Try.func41, Try.ntmps41
    go_wp2_with fail
    go_ret
    exact ⟨ret_int' HF.out.symm, (Chg.refl _ _).alloc _⟩
end
end Go.Proofs.Yteodadngnlekfaa
