/-
  GL: RTxt.
-/
import Derived.Test.YtodbeeodhekpeaaDoorZGL5
import Derived.Test.YtodbeeodhekpeaaDoorZGL10
import Derived.Test.YtodbeeodhekpeaaDoorZGL15
import Derived.Laws.Cover4
namespace Go.Proofs.YtodbeeodhekpeaaDoor
open Go.RowKit
open Go.Lib (decDigits encodeRune)
theorem enc_is (r : Int) : Utf8.encode r = strOf (encodeRune r) := by
  unfold strOf encodeRune
  by_cases hv : okR r
  · have hc : (0 ≤ r ∧ r ≤ 127) ∨ (128 ≤ r ∧ r ≤ 2047) ∨ ((2048 ≤ r ∧ r < 55296) ∨ (57343 < r ∧ r ≤ 65535)) ∨ (65536 ≤ r ∧ r ≤ 1114111) := by unfold okR at hv; omega
    have hval : Utf8.valid r = true := by unfold Utf8.valid; unfold okR at hv; simp; omega
    unfold Utf8.encode
    simp only [hval, if_true]
    have b : ∀ (z : Int) (n : Nat), z = (n : Int) → z.toNat.toUInt8 = UInt8.ofNat n := fun z n h => by subst h; rfl
    rcases hc with h | h | h | h
    · rw [if_pos (by omega), Lib.encodeRuneZ_one h.1 h.2]
      simp only [List.map_cons, List.map_nil]
    · rw [if_neg (by omega), if_pos (by omega), Lib.encodeRuneZ_two h.1 h.2]
      simp only [List.map_cons, List.map_nil]
      rw [b (192 + r / 64) (0xC0 + r.toNat / 64) (by omega), b (128 + r % 64) (0x80 + r.toNat % 64) (by omega)]
    · rw [if_neg (by omega), if_neg (by omega), if_pos (by omega), Lib.encodeRuneZ_three h]
      simp only [List.map_cons, List.map_nil]
      rw [b (224 + r / 4096) (0xE0 + r.toNat / 4096) (by omega), b (128 + r / 64 % 64) (0x80 + r.toNat / 64 % 64) (by omega), b (128 + r % 64) (0x80 + r.toNat % 64) (by omega)]
    · rw [if_neg (by omega), if_neg (by omega), if_neg (by omega), Lib.encodeRuneZ_four h.1 h.2]
      simp only [List.map_cons, List.map_nil]
      rw [b (240 + r / 262144) (0xF0 + r.toNat / 262144) (by omega), b (128 + r / 4096 % 64) (0x80 + r.toNat / 4096 % 64) (by omega), b (128 + r / 64 % 64) (0x80 + r.toNat / 64 % 64) (by omega), b (128 + r % 64) (0x80 + r.toNat % 64) (by omega)]
  · have hval : Utf8.valid r = false := by
      unfold Utf8.valid
      unfold okR at hv
      simp
      omega
    unfold Utf8.encode
    rw [Lib.encodeRuneZ_bad (by unfold okR at hv; omega)]
    simp only [hval, Bool.false_eq_true, if_false, Utf8.runeError]
    rfl
theorem strOf_cat (a b : List UInt8) : strOf a ++ strOf b = strOf (a ++ b) := by
  apply ByteArray.ext
  simp [strOf, ByteArray.data_append]
theorem strOf_len (a : List UInt8) : (strOf a).size = a.length := by
  show a.toArray.size = _
  simp
theorem str_add (a b : List UInt8) (h : a.length + b.length ≤ 1000000) (W : World) : (Op.stringOp .add (strOf a) (strOf b)).run Tryd.prog W = .ok (.string (strOf (a ++ b))) W := by
  rw [← strOf_cat]
  exact run_string_add_sum _ _ _ (by rw [strOf_len, strOf_len]; omega)
theorem str_add_enc (a : List UInt8) (r : Int) (h : a.length ≤ 900000) (W : World) : (Op.stringOp .add (strOf a) (Utf8.encode r)).run Tryd.prog W = .ok (.string (strOf (a ++ encodeRune r))) W := by
  rw [enc_is]
  exact str_add _ _ (by have := (Lib.encodeRuneZ_length r).2; unfold encodeRune; rw [List.length_map]; omega) W
theorem str_enc_add (a : List UInt8) (r : Int) (h : a.length ≤ 900000) (W : World) : (Op.stringOp .add (Utf8.encode r) (strOf a)).run Tryd.prog W = .ok (.string (strOf (encodeRune r ++ a))) W := by
  rw [enc_is]
  exact str_add _ _ (by have := (Lib.encodeRuneZ_length r).2; unfold encodeRune; rw [List.length_map]; omega) W
theorem enc_dig (r : Nat) (h : r < 10) : encodeRune (48 + (r : Int)) = [UInt8.ofNat (48 + r)] := by
  unfold encodeRune
  rw [Lib.encodeRuneZ_one (by omega) (by omega)]
  simp only [List.map_cons, List.map_nil]
  rw [show (48 + (r : Int)).toNat = 48 + r from by omega]
def dig0 (m : Nat) : List UInt8 := if m = 0 then [] else decDigits m
theorem dig0_step (m : Nat) (h : 0 < m) : dig0 m = dig0 (m / 10) ++ [UInt8.ofNat (48 + m % 10)] := by
  unfold dig0
  rw [if_neg (by omega)]
  by_cases h10 : m < 10
  · rw [if_pos (by omega), Lib.decDigits_one h10, show m % 10 = m from by omega, List.nil_append]
  · rw [if_neg (by omega), decDigits, dif_neg h10]
theorem dig_len19 (m : Nat) (h : m ≤ 9223372036854775807) : (decDigits m).length ≤ 19 := by
  have key : ∀ (k m : Nat), m < 10 ^ (k + 1) → (decDigits m).length ≤ k + 1 := by
    intro k
    induction k with
    | zero => intro m hm; rw [Lib.decDigits_one (by omega)]; simp
    | succ k ih =>
      intro m hm
      by_cases h10 : m < 10
      · rw [Lib.decDigits_one h10]; simp
      · rw [decDigits, dif_neg h10, List.length_append]
        have := ih (m / 10) (by rw [Nat.pow_succ] at hm; omega)
        simp; omega
  exact key 18 m (by omega)
set_option maxHeartbeats 2000000 in
set_option maxRecDepth 100000 in
theorem rdigits_any (z : Int) (hz : z ≤ 9223372036854775807) (w : World) : Calls Tryd.prog 41 #[.int .i64 z] w fun e w' => e = .returned (.string (strOf (decDigits z.toNat))) ∧ w = w' := by
  by_cases h0 : z ≤ 0
  · have HE := Lib.hid (show decDigits z.toNat = [48] from by rw [show z.toNat = 0 from by omega, Lib.decDigits_one (by omega)]; rfl)
    go_enter Tryd.func41, Tryd.ntmps41
    go_wp2_with fail
    go_ret
    exact ⟨by rw [HE.out]; rfl, rfl⟩
  · obtain ⟨N, rfl⟩ : ∃ N : Nat, z = (N : Int) := ⟨z.toNat, by omega⟩
    have hN : 0 < N := by omega
    have HNB := Lib.hid (dig_len19 N (by omega))
    have HE := Lib.hid (show dig0 N = decDigits ((N : Int)).toNat from by unfold dig0; rw [if_neg (by omega)]; rfl)
    obtain ⟨D, hD⟩ : ∃ D, D = decDigits ((N : Int)).toNat := ⟨_, rfl⟩
    rw [← hD] at HE ⊢
    have HDL := Lib.hid (show D.length ≤ 19 from by rw [hD]; exact HNB.out)
    clear hD HNB
    go_enter Tryd.func41, Tryd.ntmps41
    go_wp2_with fail
    go_loop [0, 3] (fun x s => ∃ (m : Nat) (out : List UInt8), x = .int .i64 (m : Int) ∧ s = .string (strOf out) ∧ m ≤ N ∧ Hid (dig0 m ++ out = D)) (fun x _ => (intOf x).toNat)
    case atStart => exact ⟨N, [], rfl, rfl, Nat.le_refl _, Lib.hid (by rw [List.append_nil]; exact HE.out)⟩
    case round =>
      obtain ⟨m, out, rfl, rfl, hm, HX⟩ := hrel
      by_cases hm0 : 0 < m
      · have hmI : (0 : Int) < (m : Int) := by omega
        have hq : (m : Int).tdiv 10 = ((m / 10 : Nat) : Int) := rfl
        have hr : (m : Int).tmod 10 = ((m % 10 : Nat) : Int) := rfl
        have HX2 := Lib.hid (show dig0 (m / 10) ++ (UInt8.ofNat (48 + m % 10) :: out) = D from by
          rw [← HX.out, dig0_step m hm0]; simp)
        have hol : out.length ≤ 19 := by have := HDL.out; rw [← HX.out, List.length_append] at this; omega
        have hr9 : m % 10 < 10 := by omega
        have hqm : m / 10 < m := by omega
        generalize m % 10 = r at hr HX2 hr9
        generalize m / 10 = q at hq HX2 hqm
        have hadd := str_enc_add out (48 + (r : Int)) (by omega)
        rw [enc_dig r hr9] at hadd
        generalize UInt8.ofNat (48 + r) = c at hadd HX2
        clear hm0
        go_wp2_with fail
        go_round
        case rel => exact ⟨q, _, rfl, rfl, by omega, HX2⟩
        case measure => simp [intOf]; omega
      · have hmI : ¬ (0 : Int) < (m : Int) := by omega
        have HX2 := Lib.hid (show out = D from by
          have := HX.out
          rw [show m = 0 from by omega] at this
          exact this)
        go_wp2_with fail
        go_ret
        exact ⟨by rw [← HX2.out]; rfl, rfl⟩
end Go.Proofs.YtodbeeodhekpeaaDoor
