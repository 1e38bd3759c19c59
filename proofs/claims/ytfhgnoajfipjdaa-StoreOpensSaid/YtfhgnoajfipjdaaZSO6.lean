/-
  SO: Get, SumB, Turn, BsMore, NumPure, SumK.
-/
import Derived.Test.YtfhgnoajfipjdaaZSO3
import Derived.Test.YtfhgnoajfipjdaaZSO5
import Derived.Test.YtfhgnoajfipjdaaChecked
import Derived.Laws.BitsAllLaws
namespace Go.Proofs.Ytfhgnoajfipjdaa
open Go.RowKit

/-- Bytes as a number, the highest first. -/
def numB (l : List UInt8) : Nat := l.foldl (fun g b => g * 256 + b.toNat) 0
theorem numB_snoc (l : List UInt8) (b : UInt8) : numB (l ++ [b]) = numB l * 256 + b.toNat := by simp [numB]
theorem fold_lt : ∀ (l : List UInt8) (g : Nat), l.foldl (fun g b => g * 256 + b.toNat) g < (g + 1) * 256 ^ l.length
  | [], g => by simp
  | b :: l, g => by
    have h := fold_lt l (g * 256 + b.toNat)
    have hb := b.toNat_lt
    have h2 : (g * 256 + b.toNat + 1) * 256 ^ l.length ≤ ((g + 1) * 256) * 256 ^ l.length := Nat.mul_le_mul_right _ (by omega)
    rw [List.foldl_cons, List.length_cons, Nat.pow_succ, Nat.mul_comm (256 ^ l.length) 256, ← Nat.mul_assoc]
    omega
theorem numB_lt (l : List UInt8) : numB l < 256 ^ l.length := by
  have := fold_lt l 0
  simpa [numB] using this
theorem numB_lt4 (l : List UInt8) (k : Nat) : numB ((l.drop k).take 4) < 4294967296 := by
  have h := numB_lt ((l.drop k).take 4)
  have h2 : ((l.drop k).take 4).length ≤ 4 := by rw [List.length_take]; omega
  have : 256 ^ ((l.drop k).take 4).length ≤ 256 ^ 4 := Nat.pow_le_pow_right (by omega) h2
  omega
theorem numB_next (l : List UInt8) (k j : Nat) (h : k + j < l.length) : numB ((l.drop k).take (j + 1)) = numB ((l.drop k).take j) * 256 + (l[k + j]).toNat := by
  rw [List.take_succ_eq_append_getElem (by rw [List.length_drop]; omega), numB_snoc, List.getElem_drop]
theorem numB_ltj (l : List UInt8) (k j : Nat) (hj : j < 4) : numB ((l.drop k).take j) < 16777216 := by
  have h := numB_lt ((l.drop k).take j)
  have h2 : ((l.drop k).take j).length ≤ 3 := by rw [List.length_take]; omega
  have : 256 ^ ((l.drop k).take j).length ≤ 256 ^ 3 := Nat.pow_le_pow_right (by omega) h2
  omega
theorem or_byte (g : Nat) (q : UInt8) (hg : g < 16777216) : bits .or .u32 ((g : Int) * 256 % 4294967296) ((q.toNat : Int) % 4294967296) = ((g * 256 + q.toNat : Nat) : Int) := by
  have hq := q.toNat_lt
  have e1 : (g : Int) * 256 % 4294967296 = ((g * 256 : Nat) : Int) := by omega
  have e2 : (q.toNat : Int) % 4294967296 = ((q.toNat : Nat) : Int) := by omega
  rw [e1, e2, u32_or_nat _ _ (by omega) (by omega), nat_join 8 (g * 256) q.toNat (by omega) (by omega)]
/-- What Get answers. -/
def getI (l : List UInt8) (at_ : Int) : Nat := if 0 ≤ at_ ∧ at_ + 4 ≤ l.length then numB ((l.drop at_.toNat).take 4) else 0
theorem getI_lt (l : List UInt8) (i : Int) : getI l i < 4294967296 := by
  unfold getI
  split
  · exact numB_lt4 _ _
  · omega

section
variable {w : World} {A : Option Addr} {n c : Nat} {l : List UInt8}
set_option maxHeartbeats 400000 in
theorem get_no (hn : n ≤ 9223372036854775807) (i : Int) (h : i < 0 ∨ (n : Int) < i + 4) (hi : i ≤ 9223372036854775807) :
    Calls Try.prog 157 #[.slice A n c, .int .i64 i] w fun e w' => e = .returned (.int .u32 0) ∧ w = w' := by
  by_cases h0 : i < 0
  · go_enter Try.func157, Try.ntmps157
    go_wp2_with fail
    go_ret
    exact ⟨rfl, rfl⟩
  · have h1 : (n : Int) - 4 < i := by omega
    have h2 : 0 ≤ i := by omega
    have hd : decide (i < 0) = false := by simpa using h0
    clear h
    go_enter Try.func157, Try.ntmps157
    go_wp2_with fail
    go_ret
    exact ⟨rfl, rfl⟩
set_option maxHeartbeats 400000 in
theorem get_yes (hl : l.length = n) (hs : Src w A (bts l)) (hn : n ≤ 9223372036854775807) (hsp : 0 < n → ∀ ad, A = some ad → ad.spot = none) (k : Nat) (hk : k + 4 ≤ n) (hnc : n ≤ c) (hc : c ≤ 9223372036854775807) :
    Calls Try.prog 157 #[.slice A n c, .int .i64 (k : Int)] w fun e w' => e = .returned (.int .u32 (numB ((l.drop k).take 4) : Nat)) ∧ w = w' := by
  have HL := Lib.hid hl
  have HS := Lib.hid hsp
  clear hl hsp
  obtain ⟨⟨b, o, s⟩, rfl, _, hx⟩ := hs (by rw [bts_len, HL.out]; omega)
  obtain rfl : s = none := HS.out (by omega) _ rfl
  go_enter Try.func157, Try.ntmps157
  go_wp2_with fail
  go_loop [5, 23] (fun h i => ∃ j : Nat, j ≤ 4 ∧ i = .int .i64 (j : Int) ∧ h = .int .u32 ((numB ((l.drop k).take j) : Nat) : Int)) (fun _ i => 4 - (intOf i).toNat)
  case atStart => exact ⟨0, by omega, rfl, rfl⟩
  case round =>
    obtain ⟨j, hj, rfl, rfl⟩ := hrel
    by_cases hlt : j < 4
    · have hkl : k + j < l.length := by rw [HL.out]; omega
      have hx1 := hx (k + j) _ (bts_get l (k + j) hkl)
      rw [add_plain] at hx1
      unfold B8 at hx1
      have hnx := numB_next l k j hkl
      have hgl := numB_ltj l k j hlt
      clear hx
      generalize l[k + j] = q at hx1 hnx
      have hob := or_byte _ q hgl
      rw [← hnx] at hob
      clear hnx
      generalize numB ((l.drop k).take j) = g at hob hgl
      have hob2 := Lib.hid hob
      clear hob hgl
      have hx2 : w.cell? ⟨b, o + k + j, none⟩ = some (.int .u8 (q.toNat : Int)) := by rw [← hx1, Nat.add_assoc]
      clear hx1
      go_wp2_with fail
      go_round
      case rel => exact ⟨j + 1, by omega, by go_num, by rw [hob2.out]⟩
      case measure => simp [intOf]; omega
    · obtain rfl : j = 4 := by omega
      go_wp2_with fail
      go_ret
      exact ⟨rfl, rfl⟩
end
end Go.Proofs.Ytfhgnoajfipjdaa
namespace Go.Proofs.Ytfhgnoajfipjdaa
open Go.RowKit
section
variable {w : World} {A : Option Addr} {n c : Nat} {l : List UInt8}
theorem sum_b (h : Bs w A n c l) : Calls Try.prog 117 #[.slice A n c] w fun e w' => e = .returned (.int .u32 (sumL 2166136261 l)) ∧ w = w' := sum_any h.len h.src h.le h.spot
theorem put_b (h : Bs w A n c l) (k : Nat) (hk : k < 4294967296) (hn : n + 4 ≤ 140737488355328) : Calls Try.prog 116 #[.slice A n c, .int .u32 (k : Int)] w (BytesPost w (l ++ be4 k)) := put_any k hk h.len h.src hn
theorem get_b (h : Bs w A n c l) (i : Int) (hi : i ≤ 9223372036854775807) : Calls Try.prog 157 #[.slice A n c, .int .i64 i] w fun e w' => e = .returned (.int .u32 (getI l i : Nat)) ∧ w = w' := by
  unfold getI
  split
  · rename_i hc
    obtain ⟨k, rfl⟩ := Int.eq_ofNat_of_zero_le hc.1
    rw [Int.toNat_natCast]
    exact get_yes h.len h.src h.le h.spot k (by have := h.len; omega) h.cap h.max
  · rename_i hc
    exact get_no h.le i (by have := h.len; omega) hi
end
end Go.Proofs.Ytfhgnoajfipjdaa
namespace Go.Proofs.Ytfhgnoajfipjdaa
open Go.RowKit

def stpN (h : Nat) (b : UInt8) : Nat := (h ^^^ b.toNat) * 16777619 % 4294967296
def sumN (h : Nat) (l : List UInt8) : Nat := l.foldl stpN h
theorem stp_nat (h : Nat) (b : UInt8) (hh : h < 4294967296) : stp (h : Int) b = (stpN h b : Nat) := by
  have hb := b.toNat_lt
  have e1 : ((b.toNat : Nat) : Int) % 4294967296 = ((b.toNat : Nat) : Int) := by omega
  unfold stp stpN
  rw [e1, u32_xor_nat h b.toNat hh (by omega)]
  generalize h ^^^ b.toNat = y
  omega
theorem stpN_lt (h : Nat) (b : UInt8) : stpN h b < 4294967296 := by unfold stpN; omega
theorem sum_nat : ∀ (l : List UInt8) (h : Nat), h < 4294967296 → sumL (h : Int) l = (sumN h l : Nat)
  | [], h, _ => rfl
  | b :: l, h, hh => by
    have e1 : sumL (h : Int) (b :: l) = sumL (stp (h : Int) b) l := rfl
    have e2 : sumN h (b :: l) = sumN (stpN h b) l := rfl
    rw [e1, e2, stp_nat h b hh]
    exact sum_nat l _ (stpN_lt h b)
theorem sumN_lt : ∀ (l : List UInt8) (h : Nat), h < 4294967296 → sumN h l < 4294967296
  | [], _, hh => hh
  | b :: l, h, _ => by
    have e2 : sumN h (b :: l) = sumN (stpN h b) l := rfl
    rw [e2]
    exact sumN_lt l _ (stpN_lt h b)
end Go.Proofs.Ytfhgnoajfipjdaa
namespace Go.Proofs.Ytfhgnoajfipjdaa
open Go.RowKit
section
variable {w : World} {A : Option Addr} {n c : Nat} {l : List UInt8}
theorem Bs.take (h : Bs w A n c l) {m : Nat} (hm : m ≤ n) : Bs w A m c (l.take m) :=
  ⟨by rw [List.length_take, h.len]; omega, src_pre m h.src, Nat.le_trans hm h.cap, h.max, fun h0 => h.spot (by omega)⟩
where
  src_pre (m : Nat) {w : World} {A : Option Addr} {l : List UInt8} (hs : Src w A (bts l)) : Src w A (bts (l.take m)) := fun hp => by
    obtain ⟨ad, e, hb, hx⟩ := hs (by simp [bts] at hp ⊢; omega)
    refine ⟨ad, e, hb, fun j v hj => hx j v ?_⟩
    unfold bts at hj ⊢
    rw [List.map_take, List.getElem?_take] at hj
    split at hj
    · exact hj
    · cases hj

end
theorem bts_app (l m : List UInt8) : bts (l ++ m) = bts l ++ bts m := by simp [bts]
/-- An own row that is not empty: its block, whole. -/
theorem own_whole {w : World} {B n : Nat} {e : TypeId} {v : Value} {xs : List Value} (h : w.ownsRow B e 1 v n xs) (hn : 0 < n) :
    ∃ g r, v = .slice (some ⟨g, 0, none⟩) n (n + r.length) ∧ B ≤ g ∧ Whole w g e (xs ++ r) ∧ n + r.length ≤ maxLen := by
  rcases h.2 with ⟨_, h0⟩ | ⟨g, cap, cur, rfl, hb, hg, hc, hm, hs, ht⟩
  · omega
  · have hl : cur.toList.length = cap := by rw [Array.length_toList]; omega
    have h1 : n * 1 = n := Nat.mul_one n
    rw [h1] at ht
    have e1 : cap = n + (cur.toList.drop n).length := by rw [List.length_drop, hl]; omega
    refine ⟨g, cur.toList.drop n, by rw [← e1], hb, ?_, by omega⟩
    unfold Whole
    rw [← ht, List.take_append_drop]
    exact hg

end Go.Proofs.Ytfhgnoajfipjdaa
namespace Go.Proofs.Ytfhgnoajfipjdaa
open Go.RowKit

/-- The sum of bytes, as a number. -/
def sumK (l : List UInt8) : Nat := sumN 2166136261 l
theorem sumK_lt (l : List UInt8) : sumK l < 4294967296 := sumN_lt l _ (by omega)
theorem sumL_K (l : List UInt8) : sumL 2166136261 l = (sumK l : Nat) := by
  have h := sum_nat l 2166136261 (by omega)
  have e : ((2166136261 : Nat) : Int) = 2166136261 := rfl
  rw [e] at h
  exact h

theorem numB_of_be4 (k : Nat) (hk : k < 4294967296) : numB (be4 k) = k := by
  simp only [numB, be4, List.foldl_cons, List.foldl_nil, UInt8.toNat_ofNat']
  omega
theorem getI_put (l m : List UInt8) (k : Nat) (hk : k < 4294967296) (i : Int) (hi : i = l.length) : getI (l ++ (be4 k ++ m)) i = k := by
  subst hi
  unfold getI
  rw [if_pos ⟨by omega, by simp only [List.length_append, be4_len]; omega⟩, Int.toNat_natCast, List.drop_left, List.take_left' (be4_len k), numB_of_be4 k hk]
end Go.Proofs.Ytfhgnoajfipjdaa
namespace Go.Proofs.Ytfhgnoajfipjdaa
open Go.RowKit
theorem sumk_b {w : World} {A : Option Addr} {n c : Nat} {l : List UInt8} (h : Bs w A n c l) : Calls Try.prog 117 #[.slice A n c] w fun e w' => e = .returned (.int .u32 (sumK l : Nat)) ∧ w = w' := by
  rw [← sumL_K]; exact sum_b h
end Go.Proofs.Ytfhgnoajfipjdaa
