/-
  A memory as it lies in memory; package cells' small methods, Load.
-/
import Derived.Test.YtlhkmbcjgdjegaaChecked
import Derived.Test.YtlhkmbcjgdjegaaCellsPure
import Derived.Test.YtlhkmbcjgdjegaaFresh
import Derived.Deep.QuietTactic
import Derived.BigQuiet
import Derived.BigRegion
import Derived.Deep.RegionWith
namespace Go.Proofs.Ytlhkmbcjgdjegaa
open Go.RowKit

/-- A memory: its struct lies in block p, its bytes L in gC, what is dirty (V) in gD; X and Y are the spare room. -/
structure Mm (w : World) (p gC gD : Nat) (L : List UInt8) (X : List Value) (V : List Bool) (Y : List Value) (most : Nat) : Prop where
  rec_ : Whole w p 103 [.slice (some ⟨gC, 0, none⟩) L.length (L.length + X.length), .int .i64 (most : Int), .slice (some ⟨gD, 0, none⟩) V.length (V.length + Y.length)]
  cel : Whole w gC 5 (bts L ++ X)
  dir : Whole w gD 4 (bls V ++ Y)
  len : L.length = 64 * V.length
  le : V.length ≤ most
  top : most ≤ 64
  capX : L.length + X.length ≤ maxLen
  capY : V.length + Y.length ≤ maxLen

section
variable {w w' : World} {p gC gD : Nat} {L : List UInt8} {X : List Value} {V : List Bool} {Y : List Value} {most : Nat}
theorem Mm.keep (h : Mm w p gC gD L X V Y most) (hc : Chg [] w w') : Mm w' p gC gD L X V Y most :=
  ⟨h.rec_.keep hc, h.cel.keep hc, h.dir.keep hc, h.len, h.le, h.top, h.capX, h.capY⟩
theorem Mm.away {T : List Nat} (h : Mm w p gC gD L X V Y most) (hc : Chg T w w') (h0 : p ∉ T) (h1 : gC ∉ T) (h2 : gD ∉ T) : Mm w' p gC gD L X V Y most :=
  ⟨h.rec_.chg hc h0, h.cel.chg hc h1, h.dir.chg hc h2, h.len, h.le, h.top, h.capX, h.capY⟩
theorem Mm.small (h : Mm w p gC gD L X V Y most) : L.length ≤ 4096 := by have := h.len; have := h.le; have := h.top; omega
theorem Mm.smallV (h : Mm w p gC gD L X V Y most) : V.length ≤ 64 := by have := h.le; have := h.top; omega
theorem Mm.byte (h : Mm w p gC gD L X V Y most) (k : Nat) (hk : k < L.length) : w.cell? ⟨gC, k, none⟩ = some (B8 L[k]) := by
  rw [h.cel.cell, List.getElem?_append_left (by rw [bts_len]; exact hk)]
  exact bts_get L k hk
theorem Mm.bit (h : Mm w p gC gD L X V Y most) (k : Nat) (hk : k < V.length) : w.cell? ⟨gD, k, none⟩ = some (.bool V[k]) := by
  rw [h.dir.cell, List.getElem?_append_left (by rw [bls_len]; exact hk)]
  exact bls_get V k hk
theorem Mm.src (h : Mm w p gC gD L X V Y most) : Src w (some ⟨gC, 0, none⟩) (bts L) := by
  have := Src.of_whole h.cel 0 (bts L).length
  rwa [List.drop_zero, List.take_left' rfl] at this

theorem ret_i {x y : Int} (h : x = y) : Ending.returned (.int .i64 x) = .returned (.int .i64 y) := by rw [h]
set_option maxHeartbeats 400000 in
theorem width_any (b : Bool) : Calls Try.prog 62 #[.bool b] w fun e w' => e = .returned (.int .i64 (if b then 8 else 1)) ∧ w = w' := by
  cases b <;>
  · go_enter Try.func62, Try.ntmps62
    go_wp2_with fail
    go_ret
    exact ⟨rfl, rfl⟩
set_option maxHeartbeats 400000 in
theorem pages_any (h : Mm w p gC gD L X V Y most) : Calls Try.prog 64 #[.pointer (some ⟨p, 0, none⟩)] w fun e w' => e = .returned (.int .i64 (V.length : Int)) ∧ w = w' := by
  have c0 := h.rec_.cell 0
  have hl := Lib.hid h.len
  have b1 := h.small
  go_enter Try.func64, Try.ntmps64
  go_wp2_with fail
  go_ret
  exact ⟨ret_i (by have := hl.out; omega), rfl⟩
set_option maxHeartbeats 400000 in
theorem within_yes (h : Mm w p gC gD L X V Y most) (k s : Nat) (hs : s ≤ 8) (hk : k + s ≤ L.length) :
    Calls Try.prog 63 #[.pointer (some ⟨p, 0, none⟩), .int .i64 (k : Int), .int .i64 (s : Int)] w fun e w' => e = .returned (.bool true) ∧ w = w' := by
  have c0 := h.rec_.cell 0
  have b1 := h.small
  have hd : decide ((k : Int) ≤ (L.length : Int) - (s : Int)) = true := by simp; omega
  go_enter Try.func63, Try.ntmps63
  go_wp2_with fail
  go_ret
  exact ⟨rfl, rfl⟩
set_option maxHeartbeats 400000 in
theorem within_no (h : Mm w p gC gD L X V Y most) (k : Int) (s : Nat) (hs : s ≤ 8) (hk : k < 0 ∨ (L.length : Int) - s < k) :
    Calls Try.prog 63 #[.pointer (some ⟨p, 0, none⟩), .int .i64 k, .int .i64 (s : Int)] w fun e w' => e = .returned (.bool false) ∧ w = w' := by
  have c0 := h.rec_.cell 0
  have b1 := h.small
  by_cases h0 : 0 ≤ k
  · have hd : decide (k ≤ (L.length : Int) - (s : Int)) = false := by simp; omega
    clear hk
    go_enter Try.func63, Try.ntmps63
    go_wp2_with fail
    go_ret
    exact ⟨rfl, rfl⟩
  · have hd : decide (0 ≤ k) = false := by simpa using h0
    clear hk h0
    go_enter Try.func63, Try.ntmps63
    go_wp2_with fail
    go_ret
    exact ⟨rfl, rfl⟩
theorem ret2_eq {x y : Int} {b : Bool} (h : x = y) : Ending.returned (.tuple #[.int .i64 x, .bool b]) = .returned (.tuple #[.int .i64 y, .bool b]) := by rw [h]
set_option maxHeartbeats 400000 in
theorem load_no (h : Mm w p gC gD L X V Y most) (k : Int) (wide : Bool) (s : Nat) (hw : s = if wide then 8 else 1) (hk : k < 0 ∨ (L.length : Int) - s < k) :
    Calls Try.prog 32 #[.pointer (some ⟨p, 0, none⟩), .int .i64 k, .bool wide] w fun e w' => e = .returned (.tuple #[.int .i64 0, .bool false]) ∧ w = w' := by
  cases wide
  · simp only [Bool.false_eq_true, if_false] at hw
    subst hw
    go_enter Try.func32, Try.ntmps32
    go_wp2_with (first
      | (go_at_call 62; refine (width_any false).mono ?_; rintro e w' ⟨rfl, rfl⟩)
      | (go_at_call 63; refine (within_no h k 1 (by omega) hk).mono ?_; rintro e w' ⟨rfl, rfl⟩))
    go_ret2
    exact ⟨rfl, rfl⟩
  · simp only [if_true] at hw
    subst hw
    go_enter Try.func32, Try.ntmps32
    go_wp2_with (first
      | (go_at_call 62; refine (width_any true).mono ?_; rintro e w' ⟨rfl, rfl⟩)
      | (go_at_call 63; refine (within_no h k 8 (by omega) hk).mono ?_; rintro e w' ⟨rfl, rfl⟩))
    go_ret2
    exact ⟨rfl, rfl⟩
set_option maxHeartbeats 1000000 in
theorem load_yes (h : Mm w p gC gD L X V Y most) (k : Nat) (wide : Bool) (s : Nat) (hw : s = if wide then 8 else 1) (hk : k + s ≤ L.length) :
    Calls Try.prog 32 #[.pointer (some ⟨p, 0, none⟩), .int .i64 (k : Int), .bool wide] w fun e w' => e = .returned (.tuple #[.int .i64 (ldI L k s), .bool true]) ∧ w = w' := by
  have c0 := h.rec_.cell 0
  have b1 := h.small
  have s1 : s ≤ 8 := by subst hw; split <;> omega
  have s2 : 1 ≤ s := by subst hw; split <;> omega
  have HW := Lib.hid (show (if wide then (8 : Int) else 1) = (s : Int) by subst hw; cases wide <;> rfl)
  clear hw
  go_enter Try.func32, Try.ntmps32
  go_wp2_with (first
    | (go_at_call 62; refine (width_any wide).mono ?_; rintro e w' ⟨rfl, rfl⟩; rw [HW.out])
    | (go_at_call 63; refine (within_yes h k s s1 hk).mono ?_; rintro e w' ⟨rfl, rfl⟩))
  go_loop [9, 10] (fun a i => ∃ j : Nat, j ≤ s ∧ i = .int .i64 ((j : Int) - 1) ∧ a = .int .u64 (ldN ((L.drop (k + j)).take (s - j)) : Nat)) (fun _ i => (intOf i + 1).toNat)
  case atStart => exact ⟨s, Nat.le_refl _, rfl, by simp [ldN]⟩
  case round =>
    obtain ⟨j, hj, rfl, rfl⟩ := hrel
    by_cases h0 : 0 < j
    · obtain ⟨i, rfl⟩ : ∃ i, j = i + 1 := ⟨j - 1, by omega⟩
      have hki : k + i < L.length := by omega
      have hx := h.byte (k + i) hki
      unfold B8 at hx
      have hnx := ldN_next L k i (s - i) hki (by omega)
      have hlt := ldN_lt ((L.drop (k + i + 1)).take (s - (i + 1)))
      have hp : ldN ((L.drop (k + i + 1)).take (s - (i + 1))) < 72057594037927936 := by
        refine Nat.lt_of_lt_of_le hlt ?_
        have e7 : (256 : Nat) ^ 7 = 72057594037927936 := by decide
        rw [← e7]
        refine Nat.pow_le_pow_right (by omega) ?_
        rw [List.length_take]; omega
      rw [show s - i - 1 = s - (i + 1) by omega] at hnx
      have e1 : k + (i + 1) = k + i + 1 := rfl
      rw [e1]
      generalize ldN ((L.drop (k + i + 1)).take (s - (i + 1))) = a at *
      generalize L[k + i] = b at *
      have ho := u64_shl_or a b hp
      have HN := Lib.hid hnx
      have HO := Lib.hid ho
      have HB := Lib.hid (IntWalk.u64_in (b.toNat : Int) (by have := b.toNat_lt; omega))
      clear hnx hlt e1 ho
      have g1 : ((i + 1 : Nat) : Int) - 1 = (i : Int) := by omega
      rw [g1]
      have g2 : (0 : Int) ≤ (i : Int) := by omega
      go_wp2_with fail
      go_round
      case rel => exact ⟨i, by omega, rfl, by rw [HN.out, HB.out, HO.out]⟩
      case measure => simp [intOf] <;> omega
    · obtain rfl : j = 0 := by omega
      go_wp2_with fail
      go_ret2
      exact ⟨ret2_eq (by unfold ldI; first | rfl | exact (IntWalk.i64_left _).symm | (rw [IntWalk.i64_left]; rfl)), rfl⟩
end
end Go.Proofs.Ytlhkmbcjgdjegaa
