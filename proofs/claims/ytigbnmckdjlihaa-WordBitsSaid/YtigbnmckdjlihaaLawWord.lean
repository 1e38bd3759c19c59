/-
  The laws' words of layer 10: known, same, signs.
-/
import Derived.Test.YtigbnmckdjlihaaWordDiv
import Derived.Test.YtigbnmckdjlihaaLaw
import Derived.Deep.QuietTactic
import Derived.BigQuiet
namespace Go.Proofs.Ytigbnmckdjlihaa
open Go.RowKit
section
variable {w : World}
theorem doR_a : doR 47 1 0 = (0, 3) := by decide
theorem doR_b : doR 187 (-1) 9 = (-1, 0) := by decide
theorem doR_c : doR 120 1 1 = (0, 2) := by decide
theorem doR_d : doR 47 (-9223372036854775808) (-1) = (0, 4) := by decide
theorem doR_e : doR 37 (-9223372036854775808) (-1) = (0, 0) := by decide
theorem do_is {s a b x y : Int} (h : doR s a b = (x, y)) : Calls Try.prog 18 #[.int .i32 s, .int .i64 a, .int .i64 b] w fun e w' => e = .returned (.tuple #[.int .i64 x, .int .i64 y]) ∧ w = w' :=
  (do_any s a b).mono fun _ _ h' => by unfold DoPost at h'; rw [h] at h'; exact h'
theorem rdo_is {s a b x y : Int} (ha : In64 a) (h : doR s a b = (x, y)) : Calls Try.prog 45 #[.int .i32 s, .int .i64 a, .int .i64 b] w fun e w' => e = .returned (.tuple #[.int .i64 x, .int .i64 y]) ∧ w = w' :=
  (rdo_any s a b ha).mono fun _ _ h' => by unfold DoPost at h'; rw [h] at h'; exact h'
theorem byte_neg : bits .and .i64 (-1) 255 = 255 := by decide
theorem byte_m1 : Calls Try.prog 19 #[.int .i64 (-1)] w fun e w' => e = .returned (.int .i64 255) ∧ w = w' :=
  (byte_any (-1)).mono fun _ _ h' => by rw [byte_neg] at h'; exact h'
set_option maxHeartbeats 1000000 in
theorem wknown_any : Calls Try.prog 17 #[] w fun e w' => e = .returned (.bool true) ∧ w = w' := by
  go_enter Try.func17, Try.ntmps17
  go_wp2_with (first
    | (go_at_call 18; ((with_reducible refine (do_is doR_a).mono ?_); rintro e w' ⟨rfl, rfl⟩))
    | (go_at_call 18; ((with_reducible refine (do_is doR_b).mono ?_); rintro e w' ⟨rfl, rfl⟩))
    | (go_at_call 18; ((with_reducible refine (do_is doR_c).mono ?_); rintro e w' ⟨rfl, rfl⟩))
    | (go_at_call 18; ((with_reducible refine (do_is doR_d).mono ?_); rintro e w' ⟨rfl, rfl⟩))
    | (go_at_call 18; ((with_reducible refine (do_is doR_e).mono ?_); rintro e w' ⟨rfl, rfl⟩))
    | (go_at_call 19; ((with_reducible refine byte_m1.mono ?_); rintro e w' ⟨rfl, rfl⟩)))
  go_ret
  exact ⟨rfl, rfl⟩
set_option maxHeartbeats 1000000 in
theorem wsame_any (s a b : Int) (ha : In64 a) : Calls Try.prog 16 #[.int .i32 s, .int .i64 a, .int .i64 b] w fun e w' => e = .returned (.bool true) ∧ w = w' := by
  obtain ⟨x, hx⟩ : ∃ x, (doR s a b).1 = x := ⟨_, rfl⟩
  obtain ⟨y, hy⟩ : ∃ y, (doR s a b).2 = y := ⟨_, rfl⟩
  have HR := Lib.hid (show doR s a b = (x, y) from Prod.ext hx hy)
  have HA := Lib.hid ha
  clear hx hy ha
  go_enter Try.func16, Try.ntmps16
  go_wp2_with (first
    | (go_at_call 18; ((with_reducible refine (do_is HR.out).mono ?_); rintro e w' ⟨rfl, rfl⟩))
    | (go_at_call 45; ((with_reducible refine (rdo_is HA.out HR.out).mono ?_); rintro e w' ⟨rfl, rfl⟩))
    | (go_at_call 19; ((with_reducible refine (byte_any _).mono ?_); rintro e w' ⟨rfl, rfl⟩)))
  go_ret
  exact ⟨rfl, rfl⟩
end
end Go.Proofs.Ytigbnmckdjlihaa
