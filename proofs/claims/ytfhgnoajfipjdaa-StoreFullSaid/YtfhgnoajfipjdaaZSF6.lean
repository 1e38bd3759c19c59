/-
  SF: Sum, Put, Get, SumB, Turn, BsMore, NumPure, SumK.
-/
import Derived.Test.YtfhgnoajfipjdaaZSF1
import Derived.Test.YtfhgnoajfipjdaaZSF2
import Derived.Test.YtfhgnoajfipjdaaZSF3
import Derived.Test.YtfhgnoajfipjdaaZSF5
import Derived.Test.YtfhgnoajfipjdaaChecked
import Derived.Deep.QuietTactic
import Derived.BigQuiet
import Derived.Laws.BitsAllLaws
namespace Go.Proofs.Ytfhgnoajfipjdaa
open Go.RowKit

theorem ret_int {k : IntKind} {a b : Int} (h : a = b) : Ending.returned (.int k a) = .returned (.int k b) := by rw [h]
/-- One byte more; all of them. -/
def stp (h : Int) (b : UInt8) : Int := bits .xor .u32 h ((b.toNat : Int) % 4294967296) * 16777619 % 4294967296
theorem ret_stp (h : Int) (b : UInt8) : Ending.returned (.int .u32 (bits .xor .u32 h ((b.toNat : Int) % 4294967296) * 16777619 % 4294967296)) = .returned (.int .u32 (stp h b)) := by unfold stp; rfl
def sumL (h : Int) (l : List UInt8) : Int := l.foldl stp h
theorem sumL_snoc (h : Int) (l : List UInt8) (b : UInt8) : sumL h (l ++ [b]) = stp (sumL h l) b := by simp [sumL]
theorem take_next {α : Type} (l : List α) (k : Nat) (h : k < l.length) : l.take (k + 1) = l.take k ++ [l[k]] := List.take_succ_eq_append_getElem h
theorem sumL_next (h : Int) (l : List UInt8) (k : Nat) (hk : k < l.length) : sumL h (l.take (k + 1)) = stp (sumL h (l.take k)) l[k] := by rw [take_next l k hk, sumL_snoc]

section
variable {w : World}
set_option maxHeartbeats 400000 in
theorem step_any (h : Int) (b : UInt8) :
    Calls Try.prog 161 #[.int .u32 h, .int .u8 (b.toNat : Int)] w fun e w' => e = .returned (.int .u32 (stp h b)) ∧ w = w' := by
  go_enter Try.func161, Try.ntmps161
  go_wp2_with fail
  go_ret
  exact ⟨ret_stp h b, rfl⟩
variable {A : Option Addr} {n c : Nat} {l : List UInt8}
set_option maxHeartbeats 400000 in
theorem sum_any (hl : l.length = n) (hs : Src w A (bts l)) (hn : n ≤ 9223372036854775807) (hsp : 0 < n → ∀ ad, A = some ad → ad.spot = none) :
    Calls Try.prog 117 #[.slice A n c] w fun e w' => e = .returned (.int .u32 (sumL 2166136261 l)) ∧ w = w' := by
  have HL := Lib.hid hl
  have HS := Lib.hid hsp
  clear hl hsp
  go_enter Try.func117, Try.ntmps117
  go_wp2_with fail
  go_loop [3, 8] (fun h i => ∃ k : Nat, k ≤ n ∧ i = .int .i64 (k : Int) ∧ h = .int .u32 (sumL 2166136261 (l.take k))) (fun _ i => n - (intOf i).toNat)
  case atStart => exact ⟨0, Nat.zero_le _, rfl, rfl⟩
  case round =>
    obtain ⟨k, hk, rfl, rfl⟩ := hrel
    by_cases hlt : k < n
    · have hkl : k < l.length := by rw [HL.out]; exact hlt
      obtain ⟨⟨b, o, s⟩, rfl, _, hx⟩ := hs (by rw [bts_len]; omega)
      obtain rfl : s = none := HS.out (by omega) _ rfl
      have hx1 := hx k _ (bts_get l k hkl)
      rw [add_plain] at hx1
      have hnx := Lib.hid (sumL_next 2166136261 l k hkl)
      clear hx
      generalize l[k] = q at hx1 hnx
      unfold B8 at hx1
      have hnx2 : sumL 2166136261 (l.take (k + 1)) = stp (sumL 2166136261 (l.take k)) q := hnx.out
      generalize sumL 2166136261 (l.take k) = H at hnx2 ⊢
      have hnx := Lib.hid hnx2
      clear hnx2
      go_wp2_with (go_at_call 161; refine (step_any _ _).mono ?_; rintro e w' ⟨rfl, rfl⟩)
      go_round
      case rel => exact ⟨k + 1, by omega, by go_num, by rw [hnx.out]⟩
      case measure => simp [intOf]; omega
    · have ht := Lib.hid (show sumL 2166136261 (l.take k) = sumL 2166136261 l by rw [List.take_of_length_le (by rw [HL.out]; omega)])
      go_wp2_with fail
      go_ret
      exact ⟨ret_int ht.out, rfl⟩
end
end Go.Proofs.Ytfhgnoajfipjdaa
namespace Go.Proofs.Ytfhgnoajfipjdaa
open Go.RowKit
theorem info_byte : (Try.prog.info? 5).map (fun i => (i.zero, i.size, i.bytes)) = some (some (.int .u8 0), 1, 1) := by kernel_rfl
/-- A number's four bytes. -/
def be4 (k : Nat) : List UInt8 := [UInt8.ofNat (k / 16777216), UInt8.ofNat (k / 65536), UInt8.ofNat (k / 256), UInt8.ofNat k]
theorem be4_len (k : Nat) : (be4 k).length = 4 := rfl
theorem bts_be4 (k : Nat) (hk : k < 4294967296) : bts (be4 k) = [.int .u8 ((k : Int) / 16777216), .int .u8 ((k : Int) / 65536 % 256), .int .u8 ((k : Int) / 256 % 256), .int .u8 ((k : Int) % 256)] := by
  have h : ∀ x : Nat, (((UInt8.ofNat x).toNat : Nat) : Int) = ((x % 256 : Nat) : Int) := fun x => by rw [UInt8.toNat_ofNat']
  have h2 : ((k / 16777216 % 256 : Nat) : Int) = (k : Int) / 16777216 := by omega
  simp only [bts, be4, List.map_cons, List.map_nil, B8, h, h2, Int.natCast_emod, Int.natCast_ediv, Int.cast_ofNat_Int]

/-- What a call that makes bytes answers. -/
def BytesPost (w : World) (l : List UInt8) (e : Ending) (w' : World) : Prop := ∃ v, e = .returned v ∧ w'.ownsRow w.heap.size 5 1 v l.length (bts l) ∧ Chg [] w w'

section
variable {w : World} {A : Option Addr} {n c : Nat} {l : List UInt8}
set_option maxHeartbeats 400000 in
theorem put_any (k : Nat) (hk : k < 4294967296) (hl : l.length = n) (hs : Src w A (bts l)) (hn : n + 4 ≤ 140737488355328) :
    Calls Try.prog 116 #[.slice A n c, .int .u32 (k : Int)] w (BytesPost w (l ++ be4 k)) := by
  obtain ⟨i, hi, hz, hs1, hb⟩ := info_parts info_byte
  have hmk : ∀ W : World, (Instr.makeSlice 46 (.int .i64 0) (.int .i64 ((n : Int) + 4))).run Try.prog W = .ok (.slice (some ⟨W.heap.size, 0, none⟩) 0 (n + 4)) (W.alloc (.cells (bts (zeros (n + 4))).toArray 5)) := by
    intro W
    rw [bts_zeros]
    have := run_make0 (P := Try.prog) 46 5 i _ rfl Try.underlying46 hi hz hs1 (n + 4) (by rw [hb]; omega) (by omega) W
    simpa using this
  have ho0 : (w.alloc (.cells (bts (zeros (n + 4))).toArray 5)).ownsRow w.heap.size 5 1 (.slice (some ⟨w.heap.size, 0, none⟩) 0 (n + 4)) 0 [] := by
    have := own_of_whole (B := w.heap.size) (n := 0) (c := n + 4) (Whole.new w 5 (bts (zeros (n + 4)))) (Nat.le_refl _) (by simp [bts_len, zeros_len]) (by omega) (by unfold maxLen; omega)
    simpa using this
  have hlb := Lib.hid (show (bts l).length = n by rw [bts_len, hl])
  have hm1 := Lib.hid (show 0 + n ≤ maxLen by unfold maxLen; omega)
  have hm2 := Lib.hid (show n + 4 ≤ maxLen by unfold maxLen; omega)
  have hm3 := Lib.hid (show (0 + n) * 1 ≤ 140737488355328 by omega)
  have hm4 := Lib.hid (show (n + 4) * 1 ≤ 140737488355328 by omega)
  have hbe := Lib.hid (bts_be4 k hk)
  go_enter Try.func116, Try.ntmps116
  go_wp2_with (first
    | (at_builtin
       refine wpList_append_src rfl (.tmp 10) (.tmp 11) 46 rfl w.heap.size 5 i _ 1 Try.underlying46 hi hz hs1 hb cells_u8 (.slice (some ⟨w.heap.size, 0, none⟩) 0 (n + 4)) 0 [] rfl ho0 A n c (bts l) rfl hlb.out (hs.keep ((Chg.refl _ _).alloc _)) (bts_one l) hm1.out hm3.out (by simp) ?_
       intro v1 w1 ho1 hg1 _
       have hc1 : Chg [] w w1 := ((Chg.refl [] w).alloc _).own ho0 (Nat.le_refl _) hg1
       clear hg1
       simp only [Nat.zero_add, List.nil_append] at ho1
       obtain ⟨A1, c1, rfl, _⟩ := own_slice ho1)
    | (at_builtin
       refine wpList_append_src rfl (.tmp 13) (.tmp 25) 46 rfl w.heap.size 5 i _ 1 Try.underlying46 hi hz hs1 hb cells_u8 (.slice A1 n c1) n (bts l) rfl (own_keep ho1 ((Chg.refl _ _).alloc _)) (some ⟨w1.heap.size, 0, none⟩) 4 4 _ rfl rfl (Src.of_all (Whole.new w1 5 (_ :: _ :: _ :: _ :: [])))
         (by rw [← hbe.out]; exact bts_one _) hm2.out hm4.out (by have := hc1.size; simp; omega) ?_
       intro v2 w2 ho2 hg2 _
       have hc2 : Chg [] w w2 := (hc1.alloc _).own (own_keep ho1 ((Chg.refl _ _).alloc _)) (Nat.le_refl _) hg2
       clear hg2))
  go_ret
  refine ⟨v2, rfl, ?_, hc2⟩
  rw [← hbe.out] at ho2
  have e1 : (l ++ be4 k).length = n + 4 := by rw [List.length_append, be4_len, hl]
  have e2 : bts (l ++ be4 k) = bts l ++ bts (be4 k) := by simp [bts]
  rw [e1, e2]
  exact ho2

end
end Go.Proofs.Ytfhgnoajfipjdaa
namespace Go.Proofs.Ytfhgnoajfipjdaa
open Go.RowKit

/-- Bytes as a number, the highest first. -/
def numB (l : List UInt8) : Nat := l.foldl (fun g b => g * 256 + b.toNat) 0
theorem numB_snoc (l : List UInt8) (b : UInt8) : numB (l ++ [b]) = numB l * 256 + b.toNat := by simp [numB]
theorem fold_lt : ∀ (l : List UInt8) (g : Nat), l.foldl (fun g b => g * 256 + b.toNat) g < (g + 1) * 256 ^ l.length
  | [], g => by simp
  | b :: l, g => by
    have h := fold_lt l (g * 256 + b.toNat)
    have hb := b.toNat_lt
    have h2 : (g * 256 + b.toNat + 1) * 256 ^ l.length ≤ ((g + 1) * 256) * 256 ^ l.length := Nat.mul_le_mul_right _ (by omega)
    rw [List.foldl_cons, List.length_cons, Nat.pow_succ, Nat.mul_comm (256 ^ l.length) 256, ← Nat.mul_assoc]
    omega
theorem numB_lt (l : List UInt8) : numB l < 256 ^ l.length := by
  have := fold_lt l 0
  simpa [numB] using this
theorem numB_lt4 (l : List UInt8) (k : Nat) : numB ((l.drop k).take 4) < 4294967296 := by
  have h := numB_lt ((l.drop k).take 4)
  have h2 : ((l.drop k).take 4).length ≤ 4 := by rw [List.length_take]; omega
  have : 256 ^ ((l.drop k).take 4).length ≤ 256 ^ 4 := Nat.pow_le_pow_right (by omega) h2
  omega
theorem numB_next (l : List UInt8) (k j : Nat) (h : k + j < l.length) : numB ((l.drop k).take (j + 1)) = numB ((l.drop k).take j) * 256 + (l[k + j]).toNat := by
  rw [List.take_succ_eq_append_getElem (by rw [List.length_drop]; omega), numB_snoc, List.getElem_drop]
theorem numB_ltj (l : List UInt8) (k j : Nat) (hj : j < 4) : numB ((l.drop k).take j) < 16777216 := by
  have h := numB_lt ((l.drop k).take j)
  have h2 : ((l.drop k).take j).length ≤ 3 := by rw [List.length_take]; omega
  have : 256 ^ ((l.drop k).take j).length ≤ 256 ^ 3 := Nat.pow_le_pow_right (by omega) h2
  omega
theorem or_byte (g : Nat) (q : UInt8) (hg : g < 16777216) : bits .or .u32 ((g : Int) * 256 % 4294967296) ((q.toNat : Int) % 4294967296) = ((g * 256 + q.toNat : Nat) : Int) := by
  have hq := q.toNat_lt
  have e1 : (g : Int) * 256 % 4294967296 = ((g * 256 : Nat) : Int) := by omega
  have e2 : (q.toNat : Int) % 4294967296 = ((q.toNat : Nat) : Int) := by omega
  rw [e1, e2, u32_or_nat _ _ (by omega) (by omega), nat_join 8 (g * 256) q.toNat (by omega) (by omega)]
/-- What Get answers. -/
def getI (l : List UInt8) (at_ : Int) : Nat := if 0 ≤ at_ ∧ at_ + 4 ≤ l.length then numB ((l.drop at_.toNat).take 4) else 0
theorem getI_lt (l : List UInt8) (i : Int) : getI l i < 4294967296 := by
  unfold getI
  split
  · exact numB_lt4 _ _
  · omega

section
variable {w : World} {A : Option Addr} {n c : Nat} {l : List UInt8}
set_option maxHeartbeats 400000 in
theorem get_no (hn : n ≤ 9223372036854775807) (i : Int) (h : i < 0 ∨ (n : Int) < i + 4) (hi : i ≤ 9223372036854775807) :
    Calls Try.prog 157 #[.slice A n c, .int .i64 i] w fun e w' => e = .returned (.int .u32 0) ∧ w = w' := by
  by_cases h0 : i < 0
  · go_enter Try.func157, Try.ntmps157
    go_wp2_with fail
    go_ret
    exact ⟨rfl, rfl⟩
  · have h1 : (n : Int) - 4 < i := by omega
    have h2 : 0 ≤ i := by omega
    have hd : decide (i < 0) = false := by simpa using h0
    clear h
    go_enter Try.func157, Try.ntmps157
    go_wp2_with fail
    go_ret
    exact ⟨rfl, rfl⟩
set_option maxHeartbeats 400000 in
theorem get_yes (hl : l.length = n) (hs : Src w A (bts l)) (hn : n ≤ 9223372036854775807) (hsp : 0 < n → ∀ ad, A = some ad → ad.spot = none) (k : Nat) (hk : k + 4 ≤ n) (hnc : n ≤ c) (hc : c ≤ 9223372036854775807) :
    Calls Try.prog 157 #[.slice A n c, .int .i64 (k : Int)] w fun e w' => e = .returned (.int .u32 (numB ((l.drop k).take 4) : Nat)) ∧ w = w' := by
  have HL := Lib.hid hl
  have HS := Lib.hid hsp
  clear hl hsp
  obtain ⟨⟨b, o, s⟩, rfl, _, hx⟩ := hs (by rw [bts_len, HL.out]; omega)
  obtain rfl : s = none := HS.out (by omega) _ rfl
  go_enter Try.func157, Try.ntmps157
  go_wp2_with fail
  go_loop [5, 23] (fun h i => ∃ j : Nat, j ≤ 4 ∧ i = .int .i64 (j : Int) ∧ h = .int .u32 ((numB ((l.drop k).take j) : Nat) : Int)) (fun _ i => 4 - (intOf i).toNat)
  case atStart => exact ⟨0, by omega, rfl, rfl⟩
  case round =>
    obtain ⟨j, hj, rfl, rfl⟩ := hrel
    by_cases hlt : j < 4
    · have hkl : k + j < l.length := by rw [HL.out]; omega
      have hx1 := hx (k + j) _ (bts_get l (k + j) hkl)
      rw [add_plain] at hx1
      unfold B8 at hx1
      have hnx := numB_next l k j hkl
      have hgl := numB_ltj l k j hlt
      clear hx
      generalize l[k + j] = q at hx1 hnx
      have hob := or_byte _ q hgl
      rw [← hnx] at hob
      clear hnx
      generalize numB ((l.drop k).take j) = g at hob hgl
      have hob2 := Lib.hid hob
      clear hob hgl
      have hx2 : w.cell? ⟨b, o + k + j, none⟩ = some (.int .u8 (q.toNat : Int)) := by rw [← hx1, Nat.add_assoc]
      clear hx1
      go_wp2_with fail
      go_round
      case rel => exact ⟨j + 1, by omega, by go_num, by rw [hob2.out]⟩
      case measure => simp [intOf]; omega
    · obtain rfl : j = 4 := by omega
      go_wp2_with fail
      go_ret
      exact ⟨rfl, rfl⟩
end
end Go.Proofs.Ytfhgnoajfipjdaa
namespace Go.Proofs.Ytfhgnoajfipjdaa
open Go.RowKit
section
variable {w : World} {A : Option Addr} {n c : Nat} {l : List UInt8}
theorem sum_b (h : Bs w A n c l) : Calls Try.prog 117 #[.slice A n c] w fun e w' => e = .returned (.int .u32 (sumL 2166136261 l)) ∧ w = w' := sum_any h.len h.src h.le h.spot
theorem put_b (h : Bs w A n c l) (k : Nat) (hk : k < 4294967296) (hn : n + 4 ≤ 140737488355328) : Calls Try.prog 116 #[.slice A n c, .int .u32 (k : Int)] w (BytesPost w (l ++ be4 k)) := put_any k hk h.len h.src hn
theorem get_b (h : Bs w A n c l) (i : Int) (hi : i ≤ 9223372036854775807) : Calls Try.prog 157 #[.slice A n c, .int .i64 i] w fun e w' => e = .returned (.int .u32 (getI l i : Nat)) ∧ w = w' := by
  unfold getI
  split
  · rename_i hc
    obtain ⟨k, rfl⟩ := Int.eq_ofNat_of_zero_le hc.1
    rw [Int.toNat_natCast]
    exact get_yes h.len h.src h.le h.spot k (by have := h.len; omega) h.cap h.max
  · rename_i hc
    exact get_no h.le i (by have := h.len; omega) hi
end
end Go.Proofs.Ytfhgnoajfipjdaa
namespace Go.Proofs.Ytfhgnoajfipjdaa
open Go.RowKit

def stpN (h : Nat) (b : UInt8) : Nat := (h ^^^ b.toNat) * 16777619 % 4294967296
def sumN (h : Nat) (l : List UInt8) : Nat := l.foldl stpN h
theorem stp_nat (h : Nat) (b : UInt8) (hh : h < 4294967296) : stp (h : Int) b = (stpN h b : Nat) := by
  have hb := b.toNat_lt
  have e1 : ((b.toNat : Nat) : Int) % 4294967296 = ((b.toNat : Nat) : Int) := by omega
  unfold stp stpN
  rw [e1, u32_xor_nat h b.toNat hh (by omega)]
  generalize h ^^^ b.toNat = y
  omega
theorem stpN_lt (h : Nat) (b : UInt8) : stpN h b < 4294967296 := by unfold stpN; omega
theorem sum_nat : ∀ (l : List UInt8) (h : Nat), h < 4294967296 → sumL (h : Int) l = (sumN h l : Nat)
  | [], h, _ => rfl
  | b :: l, h, hh => by
    have e1 : sumL (h : Int) (b :: l) = sumL (stp (h : Int) b) l := rfl
    have e2 : sumN h (b :: l) = sumN (stpN h b) l := rfl
    rw [e1, e2, stp_nat h b hh]
    exact sum_nat l _ (stpN_lt h b)
theorem sumN_lt : ∀ (l : List UInt8) (h : Nat), h < 4294967296 → sumN h l < 4294967296
  | [], _, hh => hh
  | b :: l, h, _ => by
    have e2 : sumN h (b :: l) = sumN (stpN h b) l := rfl
    rw [e2]
    exact sumN_lt l _ (stpN_lt h b)
end Go.Proofs.Ytfhgnoajfipjdaa
namespace Go.Proofs.Ytfhgnoajfipjdaa
open Go.RowKit
section
variable {w : World} {A : Option Addr} {n c : Nat} {l : List UInt8}
theorem Bs.take (h : Bs w A n c l) {m : Nat} (hm : m ≤ n) : Bs w A m c (l.take m) :=
  ⟨by rw [List.length_take, h.len]; omega, src_pre m h.src, Nat.le_trans hm h.cap, h.max, fun h0 => h.spot (by omega)⟩
where
  src_pre (m : Nat) {w : World} {A : Option Addr} {l : List UInt8} (hs : Src w A (bts l)) : Src w A (bts (l.take m)) := fun hp => by
    obtain ⟨ad, e, hb, hx⟩ := hs (by simp [bts] at hp ⊢; omega)
    refine ⟨ad, e, hb, fun j v hj => hx j v ?_⟩
    unfold bts at hj ⊢
    rw [List.map_take, List.getElem?_take] at hj
    split at hj
    · exact hj
    · cases hj

end
theorem bts_app (l m : List UInt8) : bts (l ++ m) = bts l ++ bts m := by simp [bts]
/-- An own row that is not empty: its block, whole. -/
theorem own_whole {w : World} {B n : Nat} {e : TypeId} {v : Value} {xs : List Value} (h : w.ownsRow B e 1 v n xs) (hn : 0 < n) :
    ∃ g r, v = .slice (some ⟨g, 0, none⟩) n (n + r.length) ∧ B ≤ g ∧ Whole w g e (xs ++ r) ∧ n + r.length ≤ maxLen := by
  rcases h.2 with ⟨_, h0⟩ | ⟨g, cap, cur, rfl, hb, hg, hc, hm, hs, ht⟩
  · omega
  · have hl : cur.toList.length = cap := by rw [Array.length_toList]; omega
    have h1 : n * 1 = n := Nat.mul_one n
    rw [h1] at ht
    have e1 : cap = n + (cur.toList.drop n).length := by rw [List.length_drop, hl]; omega
    refine ⟨g, cur.toList.drop n, by rw [← e1], hb, ?_, by omega⟩
    unfold Whole
    rw [← ht, List.take_append_drop]
    exact hg

end Go.Proofs.Ytfhgnoajfipjdaa
namespace Go.Proofs.Ytfhgnoajfipjdaa
open Go.RowKit

/-- The sum of bytes, as a number. -/
def sumK (l : List UInt8) : Nat := sumN 2166136261 l
theorem sumK_lt (l : List UInt8) : sumK l < 4294967296 := sumN_lt l _ (by omega)
theorem sumL_K (l : List UInt8) : sumL 2166136261 l = (sumK l : Nat) := by
  have h := sum_nat l 2166136261 (by omega)
  have e : ((2166136261 : Nat) : Int) = 2166136261 := rfl
  rw [e] at h
  exact h

theorem numB_of_be4 (k : Nat) (hk : k < 4294967296) : numB (be4 k) = k := by
  simp only [numB, be4, List.foldl_cons, List.foldl_nil, UInt8.toNat_ofNat']
  omega
theorem getI_put (l m : List UInt8) (k : Nat) (hk : k < 4294967296) (i : Int) (hi : i = l.length) : getI (l ++ (be4 k ++ m)) i = k := by
  subst hi
  unfold getI
  rw [if_pos ⟨by omega, by simp only [List.length_append, be4_len]; omega⟩, Int.toNat_natCast, List.drop_left, List.take_left' (be4_len k), numB_of_be4 k hk]
end Go.Proofs.Ytfhgnoajfipjdaa
namespace Go.Proofs.Ytfhgnoajfipjdaa
open Go.RowKit
theorem sumk_b {w : World} {A : Option Addr} {n c : Nat} {l : List UInt8} (h : Bs w A n c l) : Calls Try.prog 117 #[.slice A n c] w fun e w' => e = .returned (.int .u32 (sumK l : Nat)) ∧ w = w' := by
  rw [← sumL_K]; exact sum_b h
end Go.Proofs.Ytfhgnoajfipjdaa
