/-
  Package word and the reference's Do: contracts.
-/
import Derived.Test.YtigbnmckdjlihaaChecked
import Derived.Test.YtigbnmckdjlihaaMem
import Derived.Test.YtigbnmckdjlihaaWordPure
namespace Go.Proofs.Ytigbnmckdjlihaa
open Go.RowKit

/-- Do's answer as a result. -/
def DoPost (s a b : Int) (w : World) (e : Ending) (w' : World) : Prop := e = .returned (.tuple #[.int .i64 (doR s a b).1, .int .i64 (doR s a b).2]) ∧ w = w'
theorem do_post {s a b x y : Int} {w : World} (h : doR s a b = (x, y)) : DoPost s a b w (.returned (.tuple #[.int .i64 x, .int .i64 y])) w := by unfold DoPost; rw [h]; exact ⟨rfl, rfl⟩
theorem doR_43 (a b : Int) : doR 43 a b = (wrap64 (a + b), 0) := by simp [doR]
theorem doR_45 (a b : Int) : doR 45 a b = (wrap64 (a - b), 0) := by simp [doR]
theorem doR_42 (a b : Int) : doR 42 a b = (wrap64 (a * b), 0) := by simp [doR]
theorem doR_38 (a b : Int) : doR 38 a b = (bits .and .i64 a b, 0) := by simp [doR]
theorem doR_124 (a b : Int) : doR 124 a b = (bits .or .i64 a b, 0) := by simp [doR]
theorem doR_94 (a b : Int) : doR 94 a b = (bits .xor .i64 a b, 0) := by simp [doR]
theorem doR_60 (a b : Int) : doR 60 a b = (if a < b then 1 else 0, 0) := by simp [doR]
theorem doR_61 (a b : Int) : doR 61 a b = (if a = b then 1 else 0, 0) := by simp [doR]
theorem doR_171 (a b : Int) : doR 171 a b = (wrap64 (a * 2 ^ (b % 64).toNat), 0) := by simp [doR]
theorem doR_187 (a b : Int) : doR 187 a b = (a / 2 ^ (b % 64).toNat, 0) := by simp [doR]
theorem doR_33 (a b : Int) : doR 33 a b = (if a = 0 then 1 else 0, 0) := by simp [doR]
theorem doR_47 (a b : Int) : doR 47 a b = (if b = 0 then (0, 3) else if a = -9223372036854775808 ∧ b = -1 then (0, 4) else (wrap64 (a.tdiv b), 0)) := by simp [doR]
theorem doR_37 (a b : Int) : doR 37 a b = (if b = 0 then (0, 3) else (a.tmod b, 0)) := by simp [doR]
theorem tup2 {x y : Int} {u v : Int} (h : x = u) (k : y = v) : ((x, y) : Int × Int) = (u, v) := by rw [h, k]
section
variable {w : World}

set_option maxHeartbeats 400000 in
theorem truth_any (b : Bool) : Calls Try.prog 47 #[.bool b] w fun e w' => e = .returned (.int .i64 (if b then 1 else 0)) ∧ w = w' := by
  cases b <;>
  · go_enter Try.func47, Try.ntmps47
    go_wp2_with fail
    go_ret
    exact ⟨rfl, rfl⟩
set_option maxHeartbeats 400000 in
theorem bit_any (b : Bool) : Calls Try.prog 69 #[.bool b] w fun e w' => e = .returned (.int .i64 (if b then 1 else 0)) ∧ w = w' := by
  cases b <;>
  · go_enter Try.func69, Try.ntmps69
    go_wp2_with fail
    go_ret
    exact ⟨rfl, rfl⟩
set_option maxHeartbeats 400000 in
theorem do_add (a b : Int) : Calls Try.prog 18 #[.int .i32 43, .int .i64 a, .int .i64 b] w (DoPost 43 a b w) := by
  go_enter Try.func18, Try.ntmps18
  go_wp2_with fail
  go_ret2
  exact do_post (doR_43 a b)
set_option maxHeartbeats 400000 in
theorem do_sub (a b : Int) : Calls Try.prog 18 #[.int .i32 45, .int .i64 a, .int .i64 b] w (DoPost 45 a b w) := by
  go_enter Try.func18, Try.ntmps18
  go_wp2_with fail
  go_ret2
  exact do_post (doR_45 a b)
set_option maxHeartbeats 400000 in
theorem do_mul (a b : Int) : Calls Try.prog 18 #[.int .i32 42, .int .i64 a, .int .i64 b] w (DoPost 42 a b w) := by
  go_enter Try.func18, Try.ntmps18
  go_wp2_with fail
  go_ret2
  exact do_post (doR_42 a b)
set_option maxHeartbeats 400000 in
theorem do_and (a b : Int) : Calls Try.prog 18 #[.int .i32 38, .int .i64 a, .int .i64 b] w (DoPost 38 a b w) := by
  go_enter Try.func18, Try.ntmps18
  go_wp2_with fail
  go_ret2
  exact do_post (doR_38 a b)
set_option maxHeartbeats 400000 in
theorem do_or (a b : Int) : Calls Try.prog 18 #[.int .i32 124, .int .i64 a, .int .i64 b] w (DoPost 124 a b w) := by
  go_enter Try.func18, Try.ntmps18
  go_wp2_with fail
  go_ret2
  exact do_post (doR_124 a b)
set_option maxHeartbeats 400000 in
theorem do_xor (a b : Int) : Calls Try.prog 18 #[.int .i32 94, .int .i64 a, .int .i64 b] w (DoPost 94 a b w) := by
  go_enter Try.func18, Try.ntmps18
  go_wp2_with fail
  go_ret2
  exact do_post (doR_94 a b)
set_option maxHeartbeats 400000 in
theorem do_lt (a b : Int) : Calls Try.prog 18 #[.int .i32 60, .int .i64 a, .int .i64 b] w (DoPost 60 a b w) := by
  have HR := Lib.hid (doR_60 a b)
  by_cases h : a < b
  · have HH := Lib.hid h
    have hd : decide (a < b) = true := by simpa using h
    clear h
    go_enter Try.func18, Try.ntmps18
    go_wp2_with (go_at_call 47; refine (truth_any _).mono ?_; rintro e w' ⟨rfl, rfl⟩)
    go_ret2
    exact do_post (by rw [HR.out]; exact tup2 (by simp [HH.out]) rfl)
  · have HH := Lib.hid h
    have hd : decide (a < b) = false := by simpa using h
    clear h
    go_enter Try.func18, Try.ntmps18
    go_wp2_with (go_at_call 47; refine (truth_any _).mono ?_; rintro e w' ⟨rfl, rfl⟩)
    go_ret2
    exact do_post (by rw [HR.out]; exact tup2 (by simp [HH.out]) rfl)
set_option maxHeartbeats 400000 in
theorem do_eq (a b : Int) : Calls Try.prog 18 #[.int .i32 61, .int .i64 a, .int .i64 b] w (DoPost 61 a b w) := by
  have HR := Lib.hid (doR_61 a b)
  by_cases h : a = b
  · have HH := Lib.hid h
    have hd : (a == b) = true := by simpa using h
    clear h
    go_enter Try.func18, Try.ntmps18
    go_wp2_with (go_at_call 47; refine (truth_any _).mono ?_; rintro e w' ⟨rfl, rfl⟩)
    go_ret2
    exact do_post (by rw [HR.out]; exact tup2 (by simp [HH.out]) rfl)
  · have HH := Lib.hid h
    have hd : (a == b) = false := by simpa using h
    clear h
    go_enter Try.func18, Try.ntmps18
    go_wp2_with (go_at_call 47; refine (truth_any _).mono ?_; rintro e w' ⟨rfl, rfl⟩)
    go_ret2
    exact do_post (by rw [HR.out]; exact tup2 (by simp [HH.out]) rfl)
set_option maxHeartbeats 400000 in
theorem do_not (a b : Int) : Calls Try.prog 18 #[.int .i32 33, .int .i64 a, .int .i64 b] w (DoPost 33 a b w) := by
  have HR := Lib.hid (doR_33 a b)
  by_cases h : a = 0
  · have HH := Lib.hid h
    have hd : (a == 0) = true := by simpa using h
    clear h
    go_enter Try.func18, Try.ntmps18
    go_wp2_with (go_at_call 47; refine (truth_any _).mono ?_; rintro e w' ⟨rfl, rfl⟩)
    go_ret2
    exact do_post (by rw [HR.out]; exact tup2 (by simp [HH.out]) rfl)
  · have HH := Lib.hid h
    have hd : (a == 0) = false := by simpa using h
    clear h
    go_enter Try.func18, Try.ntmps18
    go_wp2_with (go_at_call 47; refine (truth_any _).mono ?_; rintro e w' ⟨rfl, rfl⟩)
    go_ret2
    exact do_post (by rw [HR.out]; exact tup2 (by simp [HH.out]) rfl)
set_option maxHeartbeats 400000 in
theorem do_shl (a b : Int) : Calls Try.prog 18 #[.int .i32 171, .int .i64 a, .int .i64 b] w (DoPost 171 a b w) := by
  have H6 := i64_and63 b
  have h0 : 0 ≤ b % 64 := by omega
  have h1 : b % 64 ≤ 64 := by omega
  go_enter Try.func18, Try.ntmps18
  go_wp2_with fail
  go_ret2
  exact do_post (doR_171 a b)
set_option maxHeartbeats 400000 in
theorem do_shr (a b : Int) : Calls Try.prog 18 #[.int .i32 187, .int .i64 a, .int .i64 b] w (DoPost 187 a b w) := by
  have H6 := i64_and63 b
  have h0 : 0 ≤ b % 64 := by omega
  have h1 : b % 64 ≤ 64 := by omega
  go_enter Try.func18, Try.ntmps18
  go_wp2_with fail
  go_ret2
  exact do_post (doR_187 a b)
set_option maxHeartbeats 400000 in
theorem rdo_add (a b : Int) : Calls Try.prog 45 #[.int .i32 43, .int .i64 a, .int .i64 b] w (DoPost 43 a b w) := by
  go_enter Try.func45, Try.ntmps45
  go_wp2_with fail
  go_ret2
  exact do_post (doR_43 a b)
set_option maxHeartbeats 400000 in
theorem rdo_sub (a b : Int) : Calls Try.prog 45 #[.int .i32 45, .int .i64 a, .int .i64 b] w (DoPost 45 a b w) := by
  go_enter Try.func45, Try.ntmps45
  go_wp2_with fail
  go_ret2
  exact do_post (doR_45 a b)
set_option maxHeartbeats 400000 in
theorem rdo_mul (a b : Int) : Calls Try.prog 45 #[.int .i32 42, .int .i64 a, .int .i64 b] w (DoPost 42 a b w) := by
  go_enter Try.func45, Try.ntmps45
  go_wp2_with fail
  go_ret2
  exact do_post (doR_42 a b)
set_option maxHeartbeats 400000 in
theorem rdo_and (a b : Int) : Calls Try.prog 45 #[.int .i32 38, .int .i64 a, .int .i64 b] w (DoPost 38 a b w) := by
  go_enter Try.func45, Try.ntmps45
  go_wp2_with fail
  go_ret2
  exact do_post (doR_38 a b)
set_option maxHeartbeats 400000 in
theorem rdo_or (a b : Int) : Calls Try.prog 45 #[.int .i32 124, .int .i64 a, .int .i64 b] w (DoPost 124 a b w) := by
  go_enter Try.func45, Try.ntmps45
  go_wp2_with fail
  go_ret2
  exact do_post (doR_124 a b)
set_option maxHeartbeats 400000 in
theorem rdo_xor (a b : Int) : Calls Try.prog 45 #[.int .i32 94, .int .i64 a, .int .i64 b] w (DoPost 94 a b w) := by
  go_enter Try.func45, Try.ntmps45
  go_wp2_with fail
  go_ret2
  exact do_post (doR_94 a b)
set_option maxHeartbeats 400000 in
theorem rdo_lt (a b : Int) : Calls Try.prog 45 #[.int .i32 60, .int .i64 a, .int .i64 b] w (DoPost 60 a b w) := by
  have HR := Lib.hid (doR_60 a b)
  by_cases h : a < b
  · have HH := Lib.hid h
    have hd : decide (a < b) = true := by simpa using h
    clear h
    go_enter Try.func45, Try.ntmps45
    go_wp2_with (go_at_call 69; refine (bit_any _).mono ?_; rintro e w' ⟨rfl, rfl⟩)
    go_ret2
    exact do_post (by rw [HR.out]; exact tup2 (by simp [HH.out]) rfl)
  · have HH := Lib.hid h
    have hd : decide (a < b) = false := by simpa using h
    clear h
    go_enter Try.func45, Try.ntmps45
    go_wp2_with (go_at_call 69; refine (bit_any _).mono ?_; rintro e w' ⟨rfl, rfl⟩)
    go_ret2
    exact do_post (by rw [HR.out]; exact tup2 (by simp [HH.out]) rfl)
set_option maxHeartbeats 400000 in
theorem rdo_eq (a b : Int) : Calls Try.prog 45 #[.int .i32 61, .int .i64 a, .int .i64 b] w (DoPost 61 a b w) := by
  have HR := Lib.hid (doR_61 a b)
  by_cases h : a = b
  · have HH := Lib.hid h
    have hd : (a == b) = true := by simpa using h
    clear h
    go_enter Try.func45, Try.ntmps45
    go_wp2_with (go_at_call 69; refine (bit_any _).mono ?_; rintro e w' ⟨rfl, rfl⟩)
    go_ret2
    exact do_post (by rw [HR.out]; exact tup2 (by simp [HH.out]) rfl)
  · have HH := Lib.hid h
    have hd : (a == b) = false := by simpa using h
    clear h
    go_enter Try.func45, Try.ntmps45
    go_wp2_with (go_at_call 69; refine (bit_any _).mono ?_; rintro e w' ⟨rfl, rfl⟩)
    go_ret2
    exact do_post (by rw [HR.out]; exact tup2 (by simp [HH.out]) rfl)
set_option maxHeartbeats 400000 in
theorem rdo_not (a b : Int) : Calls Try.prog 45 #[.int .i32 33, .int .i64 a, .int .i64 b] w (DoPost 33 a b w) := by
  have HR := Lib.hid (doR_33 a b)
  by_cases h : a = 0
  · have HH := Lib.hid h
    have hd : (a == 0) = true := by simpa using h
    clear h
    go_enter Try.func45, Try.ntmps45
    go_wp2_with (go_at_call 69; refine (bit_any _).mono ?_; rintro e w' ⟨rfl, rfl⟩)
    go_ret2
    exact do_post (by rw [HR.out]; exact tup2 (by simp [HH.out]) rfl)
  · have HH := Lib.hid h
    have hd : (a == 0) = false := by simpa using h
    clear h
    go_enter Try.func45, Try.ntmps45
    go_wp2_with (go_at_call 69; refine (bit_any _).mono ?_; rintro e w' ⟨rfl, rfl⟩)
    go_ret2
    exact do_post (by rw [HR.out]; exact tup2 (by simp [HH.out]) rfl)
set_option maxHeartbeats 400000 in
theorem rdo_shl (a b : Int) : Calls Try.prog 45 #[.int .i32 171, .int .i64 a, .int .i64 b] w (DoPost 171 a b w) := by
  have H6 := i64_and63 b
  have h0 : 0 ≤ b % 64 := by omega
  have h1 : b % 64 ≤ 64 := by omega
  go_enter Try.func45, Try.ntmps45
  go_wp2_with fail
  go_ret2
  exact do_post (doR_171 a b)
set_option maxHeartbeats 400000 in
theorem rdo_shr (a b : Int) : Calls Try.prog 45 #[.int .i32 187, .int .i64 a, .int .i64 b] w (DoPost 187 a b w) := by
  have H6 := i64_and63 b
  have h0 : 0 ≤ b % 64 := by omega
  have h1 : b % 64 ≤ 64 := by omega
  go_enter Try.func45, Try.ntmps45
  go_wp2_with fail
  go_ret2
  exact do_post (doR_187 a b)
end
end Go.Proofs.Ytigbnmckdjlihaa
