/-
  Package sum and the reference's marks: Step, Of, Sum: contracts.
-/
import Derived.Test.YtlhkmbcjgdjegaaChecked
import Derived.Test.YtlhkmbcjgdjegaaMem
import Derived.Deep.QuietTactic
import Derived.BigQuiet
namespace Go.Proofs.Ytlhkmbcjgdjegaa
open Go.RowKit

theorem ret_int {k : IntKind} {a b : Int} (h : a = b) : Ending.returned (.int k a) = .returned (.int k b) := by rw [h]
/-- One byte more; all of them. -/
def stp (h : Int) (b : UInt8) : Int := bits .xor .u32 h ((b.toNat : Int) % 4294967296) * 16777619 % 4294967296
theorem ret_stp (h : Int) (b : UInt8) : Ending.returned (.int .u32 (bits .xor .u32 h ((b.toNat : Int) % 4294967296) * 16777619 % 4294967296)) = .returned (.int .u32 (stp h b)) := by unfold stp; rfl
def sumL (h : Int) (l : List UInt8) : Int := l.foldl stp h
theorem sumL_snoc (h : Int) (l : List UInt8) (b : UInt8) : sumL h (l ++ [b]) = stp (sumL h l) b := by simp [sumL]
theorem sumL_app (h : Int) (l m : List UInt8) : sumL h (l ++ m) = sumL (sumL h l) m := by simp [sumL]
theorem take_next {α : Type} (l : List α) (k : Nat) (h : k < l.length) : l.take (k + 1) = l.take k ++ [l[k]] := List.take_succ_eq_append_getElem h
theorem sumL_next (h : Int) (l : List UInt8) (k : Nat) (hk : k < l.length) : sumL h (l.take (k + 1)) = stp (sumL h (l.take k)) l[k] := by rw [take_next l k hk, sumL_snoc]

section
variable {w : World}
set_option maxHeartbeats 400000 in
theorem step_any (h : Int) (b : UInt8) :
    Calls Try.prog 137 #[.int .u32 h, .int .u8 (b.toNat : Int)] w fun e w' => e = .returned (.int .u32 (stp h b)) ∧ w = w' := by
  go_enter Try.func137, Try.ntmps137
  go_wp2_with fail
  go_ret
  exact ⟨ret_stp h b, rfl⟩
set_option maxHeartbeats 400000 in
theorem rstep_any (h : Int) (b : UInt8) :
    Calls Try.prog 119 #[.int .u32 h, .int .u8 (b.toNat : Int)] w fun e w' => e = .returned (.int .u32 (stp h b)) ∧ w = w' := by
  go_enter Try.func119, Try.ntmps119
  go_wp2_with fail
  go_ret
  exact ⟨ret_stp h b, rfl⟩

variable {A : Option Addr} {n c : Nat} {l : List UInt8}
set_option maxHeartbeats 400000 in
theorem sum_any (hl : l.length = n) (hs : Src w A (bts l)) (hn : n ≤ 9223372036854775807) (hsp : 0 < n → ∀ ad, A = some ad → ad.spot = none) :
    Calls Try.prog 133 #[.slice A n c] w fun e w' => e = .returned (.int .u32 (sumL 2166136261 l)) ∧ w = w' := by
  have HL := Lib.hid hl
  have HS := Lib.hid hsp
  clear hl hsp
  go_enter Try.func133, Try.ntmps133
  go_wp2_with fail
  go_loop [3, 8] (fun h i => ∃ k : Nat, k ≤ n ∧ i = .int .i64 (k : Int) ∧ h = .int .u32 (sumL 2166136261 (l.take k))) (fun _ i => n - (intOf i).toNat)
  case atStart => exact ⟨0, Nat.zero_le _, rfl, rfl⟩
  case round =>
    obtain ⟨k, hk, rfl, rfl⟩ := hrel
    by_cases hlt : k < n
    · have hkl : k < l.length := by rw [HL.out]; exact hlt
      obtain ⟨⟨b, o, s⟩, rfl, _, hx⟩ := hs (by rw [bts_len]; omega)
      obtain rfl : s = none := HS.out (by omega) _ rfl
      have hx1 := hx k _ (bts_get l k hkl)
      rw [add_plain] at hx1
      have hnx := Lib.hid (sumL_next 2166136261 l k hkl)
      clear hx
      generalize l[k] = q at hx1 hnx
      unfold B8 at hx1
      have hnx2 : sumL 2166136261 (l.take (k + 1)) = stp (sumL 2166136261 (l.take k)) q := hnx.out
      generalize sumL 2166136261 (l.take k) = H at hnx2 ⊢
      have hnx := Lib.hid hnx2
      clear hnx2
      go_wp2_with (go_at_call 137; refine (step_any _ _).mono ?_; rintro e w' ⟨rfl, rfl⟩)
      go_round
      case rel => exact ⟨k + 1, by omega, by go_num, by rw [hnx.out]⟩
      case measure => simp [intOf]; omega
    · have ht := Lib.hid (show sumL 2166136261 (l.take k) = sumL 2166136261 l by rw [List.take_of_length_le (by rw [HL.out]; omega)])
      go_wp2_with fail
      go_ret
      exact ⟨ret_int ht.out, rfl⟩
set_option maxHeartbeats 400000 in
theorem rsum_any (hl : l.length = n) (hs : Src w A (bts l)) (hn : n ≤ 9223372036854775807) (hsp : 0 < n → ∀ ad, A = some ad → ad.spot = none) :
    Calls Try.prog 107 #[.slice A n c] w fun e w' => e = .returned (.int .u32 (sumL 2166136261 l)) ∧ w = w' := by
  have HL := Lib.hid hl
  have HS := Lib.hid hsp
  clear hl hsp
  go_enter Try.func107, Try.ntmps107
  go_wp2_with fail
  go_loop [3, 4] (fun h i => ∃ k : Nat, k ≤ n ∧ i = .int .i64 (k : Int) ∧ h = .int .u32 (sumL 2166136261 (l.take k))) (fun _ i => n - (intOf i).toNat)
  case atStart => exact ⟨0, Nat.zero_le _, rfl, rfl⟩
  case round =>
    obtain ⟨k, hk, rfl, rfl⟩ := hrel
    by_cases hlt : k < n
    · have hkl : k < l.length := by rw [HL.out]; exact hlt
      obtain ⟨⟨b, o, s⟩, rfl, _, hx⟩ := hs (by rw [bts_len]; omega)
      obtain rfl : s = none := HS.out (by omega) _ rfl
      have hx1 := hx k _ (bts_get l k hkl)
      rw [add_plain] at hx1
      have hnx := Lib.hid (sumL_next 2166136261 l k hkl)
      clear hx
      generalize l[k] = q at hx1 hnx
      unfold B8 at hx1
      have hnx2 : sumL 2166136261 (l.take (k + 1)) = stp (sumL 2166136261 (l.take k)) q := hnx.out
      generalize sumL 2166136261 (l.take k) = H at hnx2 ⊢
      have hnx := Lib.hid hnx2
      clear hnx2
      go_wp2_with (go_at_call 119; refine (rstep_any _ _).mono ?_; rintro e w' ⟨rfl, rfl⟩)
      go_round
      case rel => exact ⟨k + 1, by omega, by go_num, by rw [hnx.out]⟩
      case measure => simp [intOf]; omega
    · have ht := Lib.hid (show sumL 2166136261 (l.take k) = sumL 2166136261 l by rw [List.take_of_length_le (by rw [HL.out]; omega)])
      go_wp2_with fail
      go_ret
      exact ⟨ret_int ht.out, rfl⟩
end
end Go.Proofs.Ytlhkmbcjgdjegaa
