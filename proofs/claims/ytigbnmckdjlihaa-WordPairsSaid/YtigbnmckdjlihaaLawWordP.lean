/-
  The walk of WordPairs.
-/
import Derived.Test.YtigbnmckdjlihaaLawWord
namespace Go.Proofs.Ytigbnmckdjlihaa
open Go.RowKit
section
variable {w : World}
theorem lt_trio (a b : Int) : ∃ l g e : Int, doR 60 a b = (l, 0) ∧ doR 60 b a = (g, 0) ∧ doR 61 a b = (e, 0) ∧ 0 ≤ l ∧ l ≤ 1 ∧ 0 ≤ g ∧ g ≤ 1 ∧ 0 ≤ e ∧ e ≤ 1 ∧ l + g + e = 1 := by
  refine ⟨_, _, _, doR_60 a b, doR_60 b a, doR_61 a b, ?_⟩
  split <;> split <;> split <;> omega
theorem not_pair (a b : Int) : ∃ n : Int, doR 33 a b = (n, 0) ∧ (n == 1) = (a == 0) := by
  refine ⟨_, doR_33 a b, ?_⟩
  split <;> rename_i h <;> simp [h]
theorem shl_40 (x : Int) : doR 171 x 40 = (wrap64 (x * 1099511627776), 0) := by rw [doR_171]; rfl
theorem shr_40 (x : Int) : doR 187 x 40 = (x / 1099511627776, 0) := by rw [doR_187]; rfl
/-- Quotient and rest: the three ways. -/
def Quo (a b q t r u : Int) : Prop :=
  (b = 0 ∧ t = 3 ∧ u = 3) ∨ (b = -1 ∧ a = -9223372036854775808 ∧ t = 4 ∧ u = 0 ∧ r = 0) ∨ (t = 0 ∧ u = 0 ∧ wrap64 (wrap64 (q * b) + r) = a)
theorem quo_ways (a b : Int) (ha : In64 a) : ∃ q t r u : Int, doR 47 a b = (q, t) ∧ doR 37 a b = (r, u) ∧ Quo a b q t r u := by
  by_cases hb : b = 0
  · exact ⟨0, 3, 0, 3, by rw [doR_47, if_pos hb], by rw [doR_37, if_pos hb], .inl ⟨hb, rfl, rfl⟩⟩
  · by_cases h : a = -9223372036854775808 ∧ b = -1
    · obtain ⟨rfl, rfl⟩ := h
      exact ⟨0, 4, 0, 0, by decide, by decide, .inr (.inl ⟨rfl, rfl, rfl, rfl, rfl⟩)⟩
    · exact ⟨_, _, _, _, by rw [doR_47, if_neg hb, if_neg h], by rw [doR_37, if_neg hb], .inr (.inr ⟨rfl, rfl, quo_back b ha⟩)⟩
set_option maxHeartbeats 4000000 in
set_option maxRecDepth 100000 in
theorem wordPairs_any (a b : Int) (ha : In64 a) : Calls Try.prog 5 #[.int .i64 a, .int .i64 b] w fun e w' => e = .returned (.bool true) ∧ w = w' := by
  obtain ⟨s, hs⟩ : ∃ s, s = wrap64 (a + b) := ⟨_, rfl⟩
  have H1 := Lib.hid (show doR 43 a b = (s, 0) by rw [doR_43, hs])
  have H2 := Lib.hid (show doR 45 s b = (a, 0) by rw [doR_45, hs, sub_back b ha])
  obtain ⟨l, g, e, h3, h4, h5, b1, b2, b3, b4, b5, b6, hsum⟩ := lt_trio a b
  have H3 := Lib.hid h3
  have H4 := Lib.hid h4
  have H5 := Lib.hid h5
  obtain ⟨x, hx⟩ : ∃ x, x = bits .xor .i64 a b := ⟨_, rfl⟩
  have H6 := Lib.hid (show doR 94 a b = (x, 0) by rw [doR_94, hx])
  have H7 := Lib.hid (show doR 94 x b = (a, 0) by rw [doR_94, hx, xor_back ha])
  obtain ⟨y, hy⟩ : ∃ y, y = wrap64 (a.tmod 1000 * 1099511627776) := ⟨_, rfl⟩
  have H8 := Lib.hid (show doR 171 (a.tmod 1000) 40 = (y, 0) by rw [shl_40, hy])
  have H9 := Lib.hid (show doR 187 y 40 = (a.tmod 1000, 0) by rw [shr_40, hy, shift_back])
  obtain ⟨n, h10, hn⟩ := not_pair a b
  have H10 := Lib.hid h10
  obtain ⟨q, t, r, u, h11, h12, hq⟩ := quo_ways a b ha
  have H11 := Lib.hid h11
  have H12 := Lib.hid h12
  clear hs h3 h4 h5 hx hy h10 h11 h12 ha
  rcases hq with ⟨rfl, rfl, rfl⟩ | ⟨hb, ha, rfl, rfl, rfl⟩ | ⟨rfl, rfl, hq⟩
  case' inr.inl =>
    have hb0 : (b == 0) = false := by subst hb; rfl
    have hb1 : (b == -1) = true := by subst hb; rfl
    have ha1 : (a == -9223372036854775808) = true := by subst ha; rfl
    clear hb ha
  all_goals
    go_enter Try.func5, Try.ntmps5
    go_wp2_with (first
      | (go_at_call 18; ((with_reducible refine (do_is H1.out).mono ?_); rintro e w' ⟨rfl, rfl⟩))
      | (go_at_call 18; ((with_reducible refine (do_is H2.out).mono ?_); rintro e w' ⟨rfl, rfl⟩))
      | (go_at_call 18; ((with_reducible refine (do_is H3.out).mono ?_); rintro e w' ⟨rfl, rfl⟩))
      | (go_at_call 18; ((with_reducible refine (do_is H4.out).mono ?_); rintro e w' ⟨rfl, rfl⟩))
      | (go_at_call 18; ((with_reducible refine (do_is H5.out).mono ?_); rintro e w' ⟨rfl, rfl⟩))
      | (go_at_call 18; ((with_reducible refine (do_is H6.out).mono ?_); rintro e w' ⟨rfl, rfl⟩))
      | (go_at_call 18; ((with_reducible refine (do_is H7.out).mono ?_); rintro e w' ⟨rfl, rfl⟩))
      | (go_at_call 18; ((with_reducible refine (do_is H8.out).mono ?_); rintro e w' ⟨rfl, rfl⟩))
      | (go_at_call 18; ((with_reducible refine (do_is H9.out).mono ?_); rintro e w' ⟨rfl, rfl⟩))
      | (go_at_call 18; ((with_reducible refine (do_is H10.out).mono ?_); rintro e w' ⟨rfl, rfl⟩))
      | (go_at_call 18; ((with_reducible refine (do_is H11.out).mono ?_); rintro e w' ⟨rfl, rfl⟩))
      | (go_at_call 18; ((with_reducible refine (do_is H12.out).mono ?_); rintro e w' ⟨rfl, rfl⟩))
      | (go_at_call 17; ((with_reducible refine wknown_any.mono ?_); rintro e w' ⟨rfl, rfl⟩)))
    go_ret
    exact ⟨rfl, rfl⟩
end
end Go.Proofs.Ytigbnmckdjlihaa
