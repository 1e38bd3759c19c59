/-
  The walk of WordBits.
-/
import Derived.Test.YtigbnmckdjlihaaLawWord
namespace Go.Proofs.Ytigbnmckdjlihaa
open Go.RowKit
section
variable {w : World}
/-- A bit as the text asks it. -/
def bitU (n : Int) (k : Nat) : Int := bits .and .u64 (IntKind.u64.wrap n / 2 ^ k) 1
theorem bitU_is (n : Int) (k : Nat) : bitU n k = bitI n k := by
  unfold bitU; rw [u64_and1, IntKind.wrap_u64, bitI_is]
set_option maxHeartbeats 4000000 in
set_option maxRecDepth 100000 in
theorem wordBits_any (a b : Int) : Calls Try.prog 6 #[.int .i64 a, .int .i64 b] w fun e w' => e = .returned (.bool true) ∧ w = w' := by
  obtain ⟨x, hx⟩ : ∃ x, x = bits .and .i64 a b := ⟨_, rfl⟩
  obtain ⟨y, hy⟩ : ∃ y, y = bits .or .i64 a b := ⟨_, rfl⟩
  obtain ⟨z, hz⟩ : ∃ z, z = bits .xor .i64 a b := ⟨_, rfl⟩
  obtain ⟨c, hc⟩ : ∃ c, c = b % 64 := ⟨_, rfl⟩
  obtain ⟨l, hl⟩ : ∃ l, l = wrap64 (a * 2 ^ (b % 64).toNat) := ⟨_, rfl⟩
  obtain ⟨r, hr⟩ : ∃ r, r = a / 2 ^ (b % 64).toNat := ⟨_, rfl⟩
  obtain ⟨d, hd⟩ : ∃ d, d = wrap64 (b + 64) := ⟨_, rfl⟩
  have h6 : bits .and .i64 b 63 = c := by rw [i64_and63, hc]
  have hcc : c % 64 = b % 64 := by omega
  have hdd : d % 64 = b % 64 := by have := wrap64_mod (b + 64); omega
  have H1 := Lib.hid (show doR 38 a b = (x, 0) by rw [doR_38, hx])
  have H2 := Lib.hid (show doR 124 a b = (y, 0) by rw [doR_124, hy])
  have H3 := Lib.hid (show doR 94 a b = (z, 0) by rw [doR_94, hz])
  have H4 := Lib.hid (show doR 171 a b = (l, 0) by rw [doR_171, hl])
  have H5 := Lib.hid (show doR 171 a c = (l, 0) by rw [doR_171, hl, hcc])
  have H6 := Lib.hid (show doR 187 a b = (r, 0) by rw [doR_187, hr])
  have H7 := Lib.hid (show doR 187 a d = (r, 0) by rw [doR_187, hr, hdd])
  have hsum : wrap64 (x + y) = wrap64 (a + b) := by rw [hx, hy, and_or]
  have HX := Lib.hid hx
  have HY := Lib.hid hy
  have HZ := Lib.hid hz
  have hd' := hd.symm
  clear hx hy hz hc hl hr hd hcc hdd
  go_enter Try.func6, Try.ntmps6
  go_wp2_with (first
      | (go_at_call 18; ((with_reducible refine (do_is H1.out).mono ?_); rintro e w' ⟨rfl, rfl⟩))
      | (go_at_call 18; ((with_reducible refine (do_is H2.out).mono ?_); rintro e w' ⟨rfl, rfl⟩))
      | (go_at_call 18; ((with_reducible refine (do_is H3.out).mono ?_); rintro e w' ⟨rfl, rfl⟩))
      | (go_at_call 18; ((with_reducible refine (do_is H4.out).mono ?_); rintro e w' ⟨rfl, rfl⟩))
      | (go_at_call 18; ((with_reducible refine (do_is H5.out).mono ?_); rintro e w' ⟨rfl, rfl⟩))
      | (go_at_call 18; ((with_reducible refine (do_is H6.out).mono ?_); rintro e w' ⟨rfl, rfl⟩))
      | (go_at_call 18; ((with_reducible refine (do_is H7.out).mono ?_); rintro e w' ⟨rfl, rfl⟩)))
  go_loop [19] (fun i => ∃ k : Nat, k ≤ 64 ∧ i = .int .u64 (k : Int)) (fun i => 64 - (intOf i).toNat)
  case atStart => exact ⟨0, by omega, rfl⟩
  case round =>
    obtain ⟨k, hk, rfl⟩ := hrel
    by_cases hlt : k < 64
    · obtain ⟨p, hp⟩ : ∃ p, p = bitI a k := ⟨_, rfl⟩
      obtain ⟨q, hq⟩ : ∃ q, q = bitI b k := ⟨_, rfl⟩
      have p01 : p = 0 ∨ p = 1 := hp ▸ bitI_01 a k
      have q01 : q = 0 ∨ q = 1 := hq ▸ bitI_01 b k
      have ea : bits .and .u64 (IntKind.u64.wrap a / 2 ^ k) 1 = p := by rw [hp]; exact bitU_is a k
      have eb : bits .and .u64 (IntKind.u64.wrap b / 2 ^ k) 1 = q := by rw [hq]; exact bitU_is b k
      have ex : bits .and .u64 (IntKind.u64.wrap x / 2 ^ k) 1 = p * q := by rw [hp, hq, ← bitI_and, ← HX.out]; exact bitU_is x k
      have ey : bits .and .u64 (IntKind.u64.wrap y / 2 ^ k) 1 = max p q := by rw [hp, hq, ← bitI_or, ← HY.out]; exact bitU_is y k
      have ez : bits .and .u64 (IntKind.u64.wrap z / 2 ^ k) 1 = (p + q) % 2 := by rw [hp, hq, ← bitI_xor, ← HZ.out]; exact bitU_is z k
      have m1 : min k 64 = k := by omega
      have x00 : bits .xor .u64 0 0 = 0 := by decide
      have x01 : bits .xor .u64 0 1 = 1 := by decide
      have x10 : bits .xor .u64 1 0 = 1 := by decide
      have x11 : bits .xor .u64 1 1 = 0 := by decide
      clear hp hq
      rcases p01 with rfl | rfl <;> rcases q01 with rfl | rfl
      all_goals
        simp at ex ey ez
        go_wp2_with fail
        go_round
        case rel => exact ⟨k + 1, by omega, by go_num⟩
        case measure => simp [intOf]; omega
    · go_wp2_with (first
        | (go_at_call 19; ((with_reducible refine (byte_any _).mono ?_); rintro e w' ⟨rfl, rfl⟩))
        | (go_at_call 17; ((with_reducible refine wknown_any.mono ?_); rintro e w' ⟨rfl, rfl⟩)))
      go_ret
      exact ⟨rfl, rfl⟩
end
end Go.Proofs.Ytigbnmckdjlihaa
