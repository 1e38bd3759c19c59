/-
  Layer 15: Meta, Read.
-/
import Derived.Test.YtlhkmbcjgdjegaaNumPure
import Derived.Test.YtlhkmbcjgdjegaaAppZeros
import Derived.Test.YtlhkmbcjgdjegaaBEq
import Derived.Test.YtlhkmbcjgdjegaaKcAt
namespace Go.Proofs.Ytlhkmbcjgdjegaa
open Go.RowKit
def unitL : List UInt8 := [85, 78, 73, 84]
def metaL (t p : Nat) : List UInt8 := unitL ++ be4 t ++ be4 p ++ zeros 52
theorem metaL_len (t p : Nat) : (metaL t p).length = 64 := rfl
/-- What Read takes. -/
def isMeta (l : List UInt8) : Prop := getI l 4 ≤ 2048 ∧ getI l 8 ≤ 64 ∧ l = metaL (getI l 4) (getI l 8)
theorem meta_is (t p : Nat) (ht : t ≤ 2048) (hp : p ≤ 64) : getI (metaL t p) 4 = t ∧ getI (metaL t p) 8 = p ∧ isMeta (metaL t p) := by
  have e1 : getI (metaL t p) 4 = t := by
    have : metaL t p = unitL ++ (be4 t ++ (be4 p ++ zeros 52)) := by simp only [metaL, List.append_assoc]
    rw [this]; exact getI_put _ _ t (by omega) _ rfl
  have e2 : getI (metaL t p) 8 = p := by
    have : metaL t p = (unitL ++ be4 t) ++ (be4 p ++ zeros 52) := by simp only [metaL, List.append_assoc]
    rw [this]; exact getI_put _ _ p (by omega) _ rfl
  exact ⟨e1, e2, by rw [e1]; exact ht, by rw [e2]; exact hp, by rw [e1, e2]⟩
theorem bts_unit : bts unitL = [.int .u8 85, .int .u8 78, .int .u8 73, .int .u8 84] := rfl
section
variable {w : World}
set_option maxHeartbeats 2000000 in
set_option maxRecDepth 100000 in
theorem meta_any (t p : Nat) (ht : t ≤ 2147483647) (hp : p ≤ 2147483647) :
    Calls Try.prog 69 #[.int .i64 (t : Int), .int .i64 (p : Int)] w (BytesPost w (metaL t p)) := by
  obtain ⟨i0, hi, hz, hs1, hb1⟩ := info_parts info_byte
  have et : (t : Int) % 4294967296 = (t : Int) := by omega
  have ep : (p : Int) % 4294967296 = (p : Int) := by omega
  have kc := kc_at w rfl
  go_enter Try.func69, Try.ntmps69
  go_wp2_with fail
  clear kc
  have hM := bs_const w 5 unitL (4, 5) (by simp [unitL])
  rw [bts_unit] at hM
  have hc1 : Chg [] w (w.alloc (.cells #[.int .u8 85, .int .u8 78, .int .u8 73, .int .u8 84] 5 (4, 5))) := (Chg.refl [] w).alloc _
  generalize w.alloc (.cells #[.int .u8 85, .int .u8 78, .int .u8 73, .int .u8 84] 5 (4, 5)) = w1 at hc1 hM ⊢
  generalize w.heap.size = g0 at hM ⊢
  have HC1 := Lib.hid hc1
  have HM := Lib.hid hM
  clear hc1 hM
  have hM4 : Bs w1 (some ⟨g0, 0, none⟩) 4 4 unitL := HM.out
  refine (put_b hM4 t (by omega) (by omega)).mono ?_
  rintro e w2 ⟨v2, rfl, ho2, hc2⟩
  have hl2 : (unitL ++ be4 t).length = 8 := rfl
  rw [hl2] at ho2
  obtain ⟨A2, c2, rfl, hB2, _⟩ := Bs.of_own ho2
  have HB2 := Lib.hid hB2
  have HC2 := Lib.hid (HC1.out.new hc2)
  clear hM4 HM hl2 ho2 hB2 hc2
  go_wp2_with fail
  refine (put_b HB2.out p (by omega) (by omega)).mono ?_
  rintro e w5 ⟨v5, rfl, ho5, hc5⟩
  have hl5 : (unitL ++ be4 t ++ be4 p).length = 12 := rfl
  rw [hl5] at ho5
  have hsz := HC2.out.size
  have HRL := Lib.hid (show metaL t p = (unitL ++ be4 t ++ be4 p) ++ zeros 52 from rfl)
  generalize unitL ++ be4 t ++ be4 p = Z at ho5 HRL
  obtain ⟨g, r, rfl, hbg, _, _⟩ := own_whole ho5 (by omega)
  obtain ⟨g', cap', w6, hr, ho6, hg6, hor⟩ := run_append_zeros (P := Try.prog) w5 w2.heap.size 22 3 22 5 i0 _ 1 .i64 Try.underlying22 Try.underlying3 hi hz hs1 hb1 rfl rfl g 12 (12 + r.length) (bts Z) ho5 52 (by unfold maxLen; omega) (by omega) hc5.size
  have hc6 : Chg [] w2 w6 := hc5.own ho5 (Nat.le_refl _) hg6
  have HR := Lib.hid hr
  have HO := Lib.hid ho6
  have HC6 := Lib.hid (HC2.out.new hc6)
  clear hr ho6 hg6 hor hc6 ho5 hc5 hl5
  go_wp2_with (at_builtin; refine Lib.wpList_append_run w5 rfl (.tmp 15) (.tmp 18) 22 3 rfl _ _ rfl rfl _ _ HR.out ?_)
  go_ret
  refine ⟨_, rfl, ?_, HC6.out⟩
  have e1 : (metaL t p).length = 12 + 52 := metaL_len t p
  have e2 : bts (metaL t p) = bts Z ++ List.replicate 52 (.int .u8 0) := by rw [HRL.out, bts_app, bts_zeros]
  rw [e1, e2]
  exact own_more HO.out hsz
/-- What Read answers. -/
def ReadMPost (l : List UInt8) (w : World) (e : Ending) (w' : World) : Prop :=
  (isMeta l ∧ e = .returned (.tuple #[.int .i64 ((getI l 4 : Nat) : Int), .int .i64 ((getI l 8 : Nat) : Int), .bool true]) ∧ Chg [] w w') ∨
  (¬ isMeta l ∧ e = .returned (.tuple #[.int .i64 0, .int .i64 0, .bool false]) ∧ Chg [] w w')
set_option maxHeartbeats 2000000 in
set_option maxRecDepth 100000 in
theorem shread_any {A : Option Addr} {n c : Nat} {l : List UInt8} (h : Bs w A n c l) : Calls Try.prog 68 #[.slice A n c] w (ReadMPost l w) := by
  have H := Lib.hid h
  have h4 := getI_lt l 4
  have h8 := getI_lt l 8
  clear h
  go_enter Try.func68, Try.ntmps68
  go_wp2_with fail
  refine (get_b H.out 4 (by omega)).mono ?_
  rintro e w' ⟨rfl, rfl⟩
  go_wp2_with fail
  refine (get_b H.out 8 (by omega)).mono ?_
  rintro e w' ⟨rfl, rfl⟩
  have HM := Lib.hid (show isMeta l ↔ (getI l 4 ≤ 2048 ∧ getI l 8 ≤ 64 ∧ l = metaL (getI l 4) (getI l 8)) from Iff.rfl)
  obtain ⟨t, ht⟩ : ∃ t, t = getI l 4 := ⟨_, rfl⟩
  obtain ⟨p, hp⟩ : ∃ p, p = getI l 8 := ⟨_, rfl⟩
  rw [← ht, ← hp] at HM ⊢
  rw [← ht] at h4
  rw [← hp] at h8
  have HT := Lib.hid ht
  have HP := Lib.hid hp
  clear ht hp
  by_cases ha : 2048 < t
  · have HNO := Lib.hid (show ¬ isMeta l from fun h => by have := (HM.out.1 h).1; omega)
    have haI : (2048 : Int) < (t : Int) := by omega
    go_wp2_with fail
    go_ret3
    exact .inr ⟨HNO.out, rfl, Chg.refl _ _⟩
  · have haI : ¬ (2048 : Int) < (t : Int) := by omega
    by_cases hb : 64 < p
    · have HNO := Lib.hid (show ¬ isMeta l from fun h => by have := (HM.out.1 h).2.1; omega)
      have hbI : (64 : Int) < (p : Int) := by omega
      go_wp2_with fail
      go_ret3
      exact .inr ⟨HNO.out, rfl, Chg.refl _ _⟩
    · have hbI : ¬ (64 : Int) < (p : Int) := by omega
      go_wp2_with fail
      refine (meta_any t p (by omega) (by omega)).mono ?_
      rintro e w2 ⟨v2, rfl, ho2, hc2⟩
      obtain ⟨A2, c2, rfl, hB2, _⟩ := Bs.of_own ho2
      have HB2 := Lib.hid hB2
      have HC2 := Lib.hid hc2
      clear ho2 hB2 hc2
      go_wp2_with fail
      refine (bequal_any (H.out.keep HC2.out) HB2.out).mono ?_
      rintro e w' ⟨rfl, rfl⟩
      by_cases heq : l = metaL t p
      · have hde : decide (l = metaL t p) = true := decide_eq_true heq
        rw [hde]
        have HY := Lib.hid (HM.out.2 ⟨by omega, by omega, heq⟩)
        clear hde heq
        go_wp2_with fail
        go_ret3
        exact .inl ⟨HY.out, by rw [← HT.out, ← HP.out]; rfl, HC2.out⟩
      · have hde : decide (l = metaL t p) = false := decide_eq_false heq
        rw [hde]
        have HY := Lib.hid (show ¬ isMeta l from fun h => heq (HM.out.1 h).2.2)
        clear hde heq
        go_wp2_with fail
        go_ret3
        exact .inr ⟨HY.out, rfl, HC2.out⟩
end
end Go.Proofs.Ytlhkmbcjgdjegaa
