/-
  Package word and the reference's Do: quotients, rests, signs that are none; any sign.
-/
import Derived.Test.YtigbnmckdjlihaaWord
namespace Go.Proofs.Ytigbnmckdjlihaa
open Go.RowKit
section
variable {w : World}
set_option maxHeartbeats 400000 in
theorem part_any (s a b : Int) (hs : s = 47 ∨ s = 37) : Calls Try.prog 46 #[.int .i32 s, .int .i64 a, .int .i64 b] w (DoPost s a b w) := by
  by_cases hb : b = 0
  · subst hb
    have HR : Hid (doR s a 0 = (0, 3)) := Lib.hid (by rcases hs with rfl | rfl; (rw [doR_47]; rfl); (rw [doR_37]; rfl))
    clear hs
    go_enter Try.func46, Try.ntmps46
    go_wp2_with fail
    go_ret2
    exact do_post HR.out
  have HB := Lib.hid hb
  have hb0 : (b == 0) = false := by simpa using hb
  clear hb
  rcases hs with rfl | rfl
  · by_cases ha : a = -9223372036854775808
    · subst ha
      by_cases h1 : b = -1
      · subst h1
        have HR : Hid (doR 47 (-9223372036854775808) (-1) = (0, 4)) := Lib.hid (by rw [doR_47]; rfl)
        go_enter Try.func46, Try.ntmps46
        go_wp2_with fail
        go_ret2
        exact do_post HR.out
      · have HR : Hid (doR 47 (-9223372036854775808) b = (wrap64 ((-9223372036854775808 : Int).tdiv b), 0)) := Lib.hid (by rw [doR_47, if_neg HB.out, if_neg (fun h => h1 h.2)])
        have hb1 : (b == -1) = false := by simpa using h1
        clear h1
        go_enter Try.func46, Try.ntmps46
        go_wp2_with fail
        go_ret2
        exact do_post (by rw [HR.out, Int.neg_tdiv])
    · have HR : Hid (doR 47 a b = (wrap64 (a.tdiv b), 0)) := Lib.hid (by rw [doR_47, if_neg HB.out, if_neg (fun h => ha h.1)])
      have ha1 : (a == -9223372036854775808) = false := by simpa using ha
      clear ha
      go_enter Try.func46, Try.ntmps46
      go_wp2_with fail
      go_ret2
      exact do_post HR.out
  · have HR : Hid (doR 37 a b = (a.tmod b, 0)) := Lib.hid (by rw [doR_37, if_neg HB.out])
    go_enter Try.func46, Try.ntmps46
    go_wp2_with fail
    go_ret2
    exact do_post HR.out
set_option maxHeartbeats 400000 in
theorem do_div (s a b : Int) (hs : s = 47 ∨ s = 37) : Calls Try.prog 18 #[.int .i32 s, .int .i64 a, .int .i64 b] w (DoPost s a b w) := by
  rcases hs with rfl | rfl
  · go_enter Try.func18, Try.ntmps18
    go_wp2_with (go_at_call 46; refine (part_any 47 a b (.inl rfl)).mono ?_; rintro e w' ⟨rfl, rfl⟩)
    go_ret2
    exact ⟨rfl, rfl⟩
  · go_enter Try.func18, Try.ntmps18
    go_wp2_with (go_at_call 46; refine (part_any 37 a b (.inr rfl)).mono ?_; rintro e w' ⟨rfl, rfl⟩)
    go_ret2
    exact ⟨rfl, rfl⟩
set_option maxHeartbeats 400000 in
theorem rdo_quo (a b : Int) (ha : In64 a) : Calls Try.prog 45 #[.int .i32 47, .int .i64 a, .int .i64 b] w (DoPost 47 a b w) := by
  obtain ⟨a0, a1⟩ := ha
  by_cases hb : b = 0
  · subst hb
    have HR : Hid (doR 47 a 0 = (0, 3)) := Lib.hid (by rw [doR_47]; rfl)
    go_enter Try.func45, Try.ntmps45
    go_wp2_with fail
    go_ret2
    exact do_post HR.out
  have HB := Lib.hid hb
  have hb0 : (b == 0) = false := by simpa using hb
  clear hb
  by_cases h1 : b = -1
  · subst h1
    by_cases ha : a = -9223372036854775808
    · subst ha
      have HR : Hid (doR 47 (-9223372036854775808) (-1) = (0, 4)) := Lib.hid (by rw [doR_47]; rfl)
      go_enter Try.func45, Try.ntmps45
      go_wp2_with fail
      go_ret2
      exact do_post HR.out
    · have hq : a.tdiv (-1) = -a := by rw [Int.tdiv_neg, Int.tdiv_one]
      have HR : Hid (doR 47 a (-1) = (-a, 0)) := Lib.hid (by rw [doR_47, if_neg HB.out, if_neg (fun h => ha h.1), hq, wrap64_id (by unfold In64; omega)])
      have ha1 : (a == -9223372036854775808) = false := by simpa using ha
      have b1 : -9223372036854775807 ≤ a := by omega
      clear ha hq
      go_enter Try.func45, Try.ntmps45
      go_wp2_with fail
      go_ret2
      exact do_post HR.out
  · have HR : Hid (doR 47 a b = (wrap64 (a.tdiv b), 0)) := Lib.hid (by rw [doR_47, if_neg HB.out, if_neg (fun h => h1 h.2)])
    have hb1 : (b == -1) = false := by simpa using h1
    clear h1
    go_enter Try.func45, Try.ntmps45
    go_wp2_with fail
    go_ret2
    exact do_post HR.out
set_option maxHeartbeats 400000 in
theorem rdo_rem (a b : Int) : Calls Try.prog 45 #[.int .i32 37, .int .i64 a, .int .i64 b] w (DoPost 37 a b w) := by
  by_cases hb : b = 0
  · subst hb
    have HR : Hid (doR 37 a 0 = (0, 3)) := Lib.hid (by rw [doR_37]; rfl)
    go_enter Try.func45, Try.ntmps45
    go_wp2_with fail
    go_ret2
    exact do_post HR.out
  have HB := Lib.hid hb
  have hb0 : (b == 0) = false := by simpa using hb
  clear hb
  by_cases h1 : b = -1
  · subst h1
    have HR : Hid (doR 37 a (-1) = (0, 0)) := Lib.hid (by rw [doR_37, if_neg HB.out, Int.tmod_neg, Int.tmod_one])
    go_enter Try.func45, Try.ntmps45
    go_wp2_with fail
    go_ret2
    exact do_post HR.out
  · have HR : Hid (doR 37 a b = (a.tmod b, 0)) := Lib.hid (by rw [doR_37, if_neg HB.out])
    have hb1 : (b == -1) = false := by simpa using h1
    clear h1
    go_enter Try.func45, Try.ntmps45
    go_wp2_with fail
    go_ret2
    exact do_post HR.out
theorem beq_f {a b : Int} (h : a ≠ b) : (a == b) = false := by simpa using h
/-- A sign that is none. -/
def NoSign (s : Int) : Prop := s ≠ 43 ∧ s ≠ 45 ∧ s ≠ 42 ∧ s ≠ 47 ∧ s ≠ 37 ∧ s ≠ 38 ∧ s ≠ 124 ∧ s ≠ 94 ∧ s ≠ 60 ∧ s ≠ 61 ∧ s ≠ 171 ∧ s ≠ 187 ∧ s ≠ 33
set_option maxHeartbeats 400000 in
theorem do_none (s a b : Int) (hs : NoSign s) : Calls Try.prog 18 #[.int .i32 s, .int .i64 a, .int .i64 b] w (DoPost s a b w) := by
  have HR := Lib.hid (doR_none a b hs)
  obtain ⟨h1, h2, h3, h4, h5, h6, h7, h8, h9, h10, h11, h12, h13⟩ := hs
  have k1 := beq_f h1; have k2 := beq_f h2; have k3 := beq_f h3; have k4 := beq_f h4; have k5 := beq_f h5; have k6 := beq_f h6; have k7 := beq_f h7
  have k8 := beq_f h8; have k9 := beq_f h9; have k10 := beq_f h10; have k11 := beq_f h11; have k12 := beq_f h12; have k13 := beq_f h13
  clear h1 h2 h3 h4 h5 h6 h7 h8 h9 h10 h11 h12 h13
  go_enter Try.func18, Try.ntmps18
  go_wp2_with fail
  go_ret2
  exact do_post HR.out
set_option maxHeartbeats 400000 in
theorem rdo_none (s a b : Int) (hs : NoSign s) : Calls Try.prog 45 #[.int .i32 s, .int .i64 a, .int .i64 b] w (DoPost s a b w) := by
  have HR := Lib.hid (doR_none a b hs)
  obtain ⟨h1, h2, h3, h4, h5, h6, h7, h8, h9, h10, h11, h12, h13⟩ := hs
  have k1 := beq_f h1; have k2 := beq_f h2; have k3 := beq_f h3; have k4 := beq_f h4; have k5 := beq_f h5; have k6 := beq_f h6; have k7 := beq_f h7
  have k8 := beq_f h8; have k9 := beq_f h9; have k10 := beq_f h10; have k11 := beq_f h11; have k12 := beq_f h12; have k13 := beq_f h13
  clear h1 h2 h3 h4 h5 h6 h7 h8 h9 h10 h11 h12 h13
  go_enter Try.func45, Try.ntmps45
  go_wp2_with fail
  go_ret2
  exact do_post HR.out
theorem do_any (s a b : Int) : Calls Try.prog 18 #[.int .i32 s, .int .i64 a, .int .i64 b] w (DoPost s a b w) := by
  by_cases h1 : s = 43; · subst h1; exact do_add a b
  by_cases h2 : s = 45; · subst h2; exact do_sub a b
  by_cases h3 : s = 42; · subst h3; exact do_mul a b
  by_cases h4 : s = 47; · exact do_div s a b (.inl h4)
  by_cases h5 : s = 37; · exact do_div s a b (.inr h5)
  by_cases h6 : s = 38; · subst h6; exact do_and a b
  by_cases h7 : s = 124; · subst h7; exact do_or a b
  by_cases h8 : s = 94; · subst h8; exact do_xor a b
  by_cases h9 : s = 60; · subst h9; exact do_lt a b
  by_cases h10 : s = 61; · subst h10; exact do_eq a b
  by_cases h11 : s = 171; · subst h11; exact do_shl a b
  by_cases h12 : s = 187; · subst h12; exact do_shr a b
  by_cases h13 : s = 33; · subst h13; exact do_not a b
  exact do_none s a b ⟨h1, h2, h3, h4, h5, h6, h7, h8, h9, h10, h11, h12, h13⟩
theorem rdo_any (s a b : Int) (ha : In64 a) : Calls Try.prog 45 #[.int .i32 s, .int .i64 a, .int .i64 b] w (DoPost s a b w) := by
  by_cases h1 : s = 43; · subst h1; exact rdo_add a b
  by_cases h2 : s = 45; · subst h2; exact rdo_sub a b
  by_cases h3 : s = 42; · subst h3; exact rdo_mul a b
  by_cases h4 : s = 47; · subst h4; exact rdo_quo a b ha
  by_cases h5 : s = 37; · subst h5; exact rdo_rem a b
  by_cases h6 : s = 38; · subst h6; exact rdo_and a b
  by_cases h7 : s = 124; · subst h7; exact rdo_or a b
  by_cases h8 : s = 94; · subst h8; exact rdo_xor a b
  by_cases h9 : s = 60; · subst h9; exact rdo_lt a b
  by_cases h10 : s = 61; · subst h10; exact rdo_eq a b
  by_cases h11 : s = 171; · subst h11; exact rdo_shl a b
  by_cases h12 : s = 187; · subst h12; exact rdo_shr a b
  by_cases h13 : s = 33; · subst h13; exact rdo_not a b
  exact rdo_none s a b ⟨h1, h2, h3, h4, h5, h6, h7, h8, h9, h10, h11, h12, h13⟩
set_option maxHeartbeats 400000 in
theorem byte_any (n : Int) : Calls Try.prog 19 #[.int .i64 n] w fun e w' => e = .returned (.int .i64 (bits .and .i64 n 255)) ∧ w = w' := by
  go_enter Try.func19, Try.ntmps19
  go_wp2_with fail
  go_ret
  exact ⟨rfl, rfl⟩
end
end Go.Proofs.Ytigbnmckdjlihaa
