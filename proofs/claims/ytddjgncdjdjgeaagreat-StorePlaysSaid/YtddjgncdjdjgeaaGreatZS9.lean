/-
  S: Sum, Put, Get.
-/
import Derived.Test.YtddjgncdjdjgeaaGreatZS1
import Derived.Test.YtddjgncdjdjgeaaGreatZS2
import Derived.Test.YtddjgncdjdjgeaaGreatZS7
import Derived.Test.YtddjgncdjdjgeaaGreatChecked
import Derived.Deep.QuietTactic
import Derived.BigQuiet
import Derived.Laws.BitsAllLaws
namespace Go.Proofs.YtddjgncdjdjgeaaGreat
open Go.RowKit

theorem ret_int {k : IntKind} {a b : Int} (h : a = b) : Ending.returned (.int k a) = .returned (.int k b) := by rw [h]
/-- One byte more; all of them. -/
def stp (h : Int) (b : UInt8) : Int := bits .xor .u32 h ((b.toNat : Int) % 4294967296) * 16777619 % 4294967296
theorem ret_stp (h : Int) (b : UInt8) : Ending.returned (.int .u32 (bits .xor .u32 h ((b.toNat : Int) % 4294967296) * 16777619 % 4294967296)) = .returned (.int .u32 (stp h b)) := by unfold stp; rfl
def sumL (h : Int) (l : List UInt8) : Int := l.foldl stp h
theorem sumL_snoc (h : Int) (l : List UInt8) (b : UInt8) : sumL h (l ++ [b]) = stp (sumL h l) b := by simp [sumL]
theorem take_next {α : Type} (l : List α) (k : Nat) (h : k < l.length) : l.take (k + 1) = l.take k ++ [l[k]] := List.take_succ_eq_append_getElem h
theorem sumL_next (h : Int) (l : List UInt8) (k : Nat) (hk : k < l.length) : sumL h (l.take (k + 1)) = stp (sumL h (l.take k)) l[k] := by rw [take_next l k hk, sumL_snoc]

section
variable {w : World}
set_option maxHeartbeats 400000 in
set_option maxRecDepth 100000 in
theorem step_any (h : Int) (b : UInt8) :
    Calls Tryz.prog 126 #[.int .u32 h, .int .u8 (b.toNat : Int)] w fun e w' => e = .returned (.int .u32 (stp h b)) ∧ w = w' := by
  go_enter Tryz.func126, Tryz.ntmps126
  go_wp2_with fail
  go_ret
  exact ⟨ret_stp h b, rfl⟩
set_option maxHeartbeats 400000 in
set_option maxRecDepth 100000 in
theorem rstep_any (h : Int) (b : UInt8) :
    Calls Tryz.prog 114 #[.int .u32 h, .int .u8 (b.toNat : Int)] w fun e w' => e = .returned (.int .u32 (stp h b)) ∧ w = w' := by
  go_enter Tryz.func114, Tryz.ntmps114
  go_wp2_with fail
  go_ret
  exact ⟨ret_stp h b, rfl⟩

variable {A : Option Addr} {n c : Nat} {l : List UInt8}
set_option maxHeartbeats 400000 in
set_option maxRecDepth 100000 in
theorem sum_any (hl : l.length = n) (hs : Src w A (bts l)) (hn : n ≤ 9223372036854775807) (hsp : 0 < n → ∀ ad, A = some ad → ad.spot = none) :
    Calls Tryz.prog 108 #[.slice A n c] w fun e w' => e = .returned (.int .u32 (sumL 2166136261 l)) ∧ w = w' := by
  have HL := Lib.hid hl
  have HS := Lib.hid hsp
  clear hl hsp
  go_enter Tryz.func108, Tryz.ntmps108
  go_wp2_with fail
  go_loop [3, 8] (fun h i => ∃ k : Nat, k ≤ n ∧ i = .int .i64 (k : Int) ∧ h = .int .u32 (sumL 2166136261 (l.take k))) (fun _ i => n - (intOf i).toNat)
  case atStart => exact ⟨0, Nat.zero_le _, rfl, rfl⟩
  case round =>
    obtain ⟨k, hk, rfl, rfl⟩ := hrel
    by_cases hlt : k < n
    · have hkl : k < l.length := by rw [HL.out]; exact hlt
      obtain ⟨⟨b, o, s⟩, rfl, _, hx⟩ := hs (by rw [bts_len]; omega)
      obtain rfl : s = none := HS.out (by omega) _ rfl
      have hx1 := hx k _ (bts_get l k hkl)
      rw [add_plain] at hx1
      have hnx := Lib.hid (sumL_next 2166136261 l k hkl)
      clear hx
      generalize l[k] = q at hx1 hnx
      unfold B8 at hx1
      have hnx2 : sumL 2166136261 (l.take (k + 1)) = stp (sumL 2166136261 (l.take k)) q := hnx.out
      generalize sumL 2166136261 (l.take k) = H at hnx2 ⊢
      have hnx := Lib.hid hnx2
      clear hnx2
      go_wp2_with (go_at_call 126; refine (step_any _ _).mono ?_; rintro e w' ⟨rfl, rfl⟩)
      go_round
      case rel => exact ⟨k + 1, by omega, by go_num, by rw [hnx.out]⟩
      case measure => simp [intOf]; omega
    · have ht := Lib.hid (show sumL 2166136261 (l.take k) = sumL 2166136261 l by rw [List.take_of_length_le (by rw [HL.out]; omega)])
      go_wp2_with fail
      go_ret
      exact ⟨ret_int ht.out, rfl⟩
set_option maxHeartbeats 400000 in
set_option maxRecDepth 100000 in
theorem rsum_any (hl : l.length = n) (hs : Src w A (bts l)) (hn : n ≤ 9223372036854775807) (hsp : 0 < n → ∀ ad, A = some ad → ad.spot = none) :
    Calls Tryz.prog 81 #[.slice A n c] w fun e w' => e = .returned (.int .u32 (sumL 2166136261 l)) ∧ w = w' := by
  have HL := Lib.hid hl
  have HS := Lib.hid hsp
  clear hl hsp
  go_enter Tryz.func81, Tryz.ntmps81
  go_wp2_with fail
  go_loop [3, 4] (fun h i => ∃ k : Nat, k ≤ n ∧ i = .int .i64 (k : Int) ∧ h = .int .u32 (sumL 2166136261 (l.take k))) (fun _ i => n - (intOf i).toNat)
  case atStart => exact ⟨0, Nat.zero_le _, rfl, rfl⟩
  case round =>
    obtain ⟨k, hk, rfl, rfl⟩ := hrel
    by_cases hlt : k < n
    · have hkl : k < l.length := by rw [HL.out]; exact hlt
      obtain ⟨⟨b, o, s⟩, rfl, _, hx⟩ := hs (by rw [bts_len]; omega)
      obtain rfl : s = none := HS.out (by omega) _ rfl
      have hx1 := hx k _ (bts_get l k hkl)
      rw [add_plain] at hx1
      have hnx := Lib.hid (sumL_next 2166136261 l k hkl)
      clear hx
      generalize l[k] = q at hx1 hnx
      unfold B8 at hx1
      have hnx2 : sumL 2166136261 (l.take (k + 1)) = stp (sumL 2166136261 (l.take k)) q := hnx.out
      generalize sumL 2166136261 (l.take k) = H at hnx2 ⊢
      have hnx := Lib.hid hnx2
      clear hnx2
      go_wp2_with (go_at_call 114; refine (rstep_any _ _).mono ?_; rintro e w' ⟨rfl, rfl⟩)
      go_round
      case rel => exact ⟨k + 1, by omega, by go_num, by rw [hnx.out]⟩
      case measure => simp [intOf]; omega
    · have ht := Lib.hid (show sumL 2166136261 (l.take k) = sumL 2166136261 l by rw [List.take_of_length_le (by rw [HL.out]; omega)])
      go_wp2_with fail
      go_ret
      exact ⟨ret_int ht.out, rfl⟩
end
end Go.Proofs.YtddjgncdjdjgeaaGreat
namespace Go.Proofs.YtddjgncdjdjgeaaGreat
open Go.RowKit
theorem info_byte : (Tryz.prog.info? 5).map (fun i => (i.zero, i.size, i.bytes)) = some (some (.int .u8 0), 1, 1) := by kernel_rfl
/-- A number's four bytes. -/
def be4 (k : Nat) : List UInt8 := [UInt8.ofNat (k / 16777216), UInt8.ofNat (k / 65536), UInt8.ofNat (k / 256), UInt8.ofNat k]
theorem be4_len (k : Nat) : (be4 k).length = 4 := rfl
theorem bts_be4 (k : Nat) (hk : k < 4294967296) : bts (be4 k) = [.int .u8 ((k : Int) / 16777216), .int .u8 ((k : Int) / 65536 % 256), .int .u8 ((k : Int) / 256 % 256), .int .u8 ((k : Int) % 256)] := by
  have h : ∀ x : Nat, (((UInt8.ofNat x).toNat : Nat) : Int) = ((x % 256 : Nat) : Int) := fun x => by rw [UInt8.toNat_ofNat']
  have h2 : ((k / 16777216 % 256 : Nat) : Int) = (k : Int) / 16777216 := by omega
  simp only [bts, be4, List.map_cons, List.map_nil, B8, h, h2, Int.natCast_emod, Int.natCast_ediv, Int.cast_ofNat_Int]

/-- What a call that makes bytes answers. -/
def BytesPost (w : World) (l : List UInt8) (e : Ending) (w' : World) : Prop := ∃ v, e = .returned v ∧ w'.ownsRow w.heap.size 5 1 v l.length (bts l) ∧ Chg [] w w'

section
variable {w : World} {A : Option Addr} {n c : Nat} {l : List UInt8}
set_option maxHeartbeats 400000 in
set_option maxRecDepth 100000 in
theorem put_any (k : Nat) (hk : k < 4294967296) (hl : l.length = n) (hs : Src w A (bts l)) (hn : n + 4 ≤ 140737488355328) :
    Calls Tryz.prog 107 #[.slice A n c, .int .u32 (k : Int)] w (BytesPost w (l ++ be4 k)) := by
  obtain ⟨i, hi, hz, hs1, hb⟩ := info_parts info_byte
  have hmk : ∀ W : World, (Instr.makeSlice 30 (.int .i64 0) (.int .i64 ((n : Int) + 4))).run Tryz.prog W = .ok (.slice (some ⟨W.heap.size, 0, none⟩) 0 (n + 4)) (W.alloc (.cells (bts (zeros (n + 4))).toArray 5)) := by
    intro W
    rw [bts_zeros]
    have := run_make0 (P := Tryz.prog) 30 5 i _ rfl Tryz.underlying30 hi hz hs1 (n + 4) (by rw [hb]; omega) (by omega) W
    simpa using this
  have ho0 : (w.alloc (.cells (bts (zeros (n + 4))).toArray 5)).ownsRow w.heap.size 5 1 (.slice (some ⟨w.heap.size, 0, none⟩) 0 (n + 4)) 0 [] := by
    have := own_of_whole (B := w.heap.size) (n := 0) (c := n + 4) (Whole.new w 5 (bts (zeros (n + 4)))) (Nat.le_refl _) (by simp [bts_len, zeros_len]) (by omega) (by unfold maxLen; omega)
    simpa using this
  have hlb := Lib.hid (show (bts l).length = n by rw [bts_len, hl])
  have hm1 := Lib.hid (show 0 + n ≤ maxLen by unfold maxLen; omega)
  have hm2 := Lib.hid (show n + 4 ≤ maxLen by unfold maxLen; omega)
  have hm3 := Lib.hid (show (0 + n) * 1 ≤ 140737488355328 by omega)
  have hm4 := Lib.hid (show (n + 4) * 1 ≤ 140737488355328 by omega)
  have hbe := Lib.hid (bts_be4 k hk)
  go_enter Tryz.func107, Tryz.ntmps107
  go_wp2_with (first
    | (at_builtin
       refine wpList_append_src rfl (.tmp 10) (.tmp 11) 30 rfl w.heap.size 5 i _ 1 Tryz.underlying30 hi hz hs1 hb cells_u8 (.slice (some ⟨w.heap.size, 0, none⟩) 0 (n + 4)) 0 [] rfl ho0 A n c (bts l) rfl hlb.out (hs.keep ((Chg.refl _ _).alloc _)) (bts_one l) hm1.out hm3.out (by simp) ?_
       intro v1 w1 ho1 hg1 _
       have hc1 : Chg [] w w1 := ((Chg.refl [] w).alloc _).own ho0 (Nat.le_refl _) hg1
       clear hg1
       simp only [Nat.zero_add, List.nil_append] at ho1
       obtain ⟨A1, c1, rfl, _⟩ := own_slice ho1)
    | (at_builtin
       refine wpList_append_src rfl (.tmp 13) (.tmp 25) 30 rfl w.heap.size 5 i _ 1 Tryz.underlying30 hi hz hs1 hb cells_u8 (.slice A1 n c1) n (bts l) rfl (own_keep ho1 ((Chg.refl _ _).alloc _)) (some ⟨w1.heap.size, 0, none⟩) 4 4 _ rfl rfl (Src.of_all (Whole.new w1 5 (_ :: _ :: _ :: _ :: [])))
         (by rw [← hbe.out]; exact bts_one _) hm2.out hm4.out (by have := hc1.size; simp; omega) ?_
       intro v2 w2 ho2 hg2 _
       have hc2 : Chg [] w w2 := (hc1.alloc _).own (own_keep ho1 ((Chg.refl _ _).alloc _)) (Nat.le_refl _) hg2
       clear hg2))
  go_ret
  refine ⟨v2, rfl, ?_, hc2⟩
  rw [← hbe.out] at ho2
  have e1 : (l ++ be4 k).length = n + 4 := by rw [List.length_append, be4_len, hl]
  have e2 : bts (l ++ be4 k) = bts l ++ bts (be4 k) := by simp [bts]
  rw [e1, e2]
  exact ho2

set_option maxHeartbeats 400000 in
set_option maxRecDepth 100000 in
theorem rput_any (k : Nat) (hk : k < 4294967296) (hl : l.length = n) (hs : Src w A (bts l)) (hn : n + 4 ≤ 140737488355328) :
    Calls Tryz.prog 80 #[.slice A n c, .int .u32 (k : Int)] w (BytesPost w (l ++ be4 k)) := by
  obtain ⟨i, hi, hz, hs1, hb⟩ := info_parts info_byte
  have ho0 : (w.alloc (.cells #[] 5)).ownsRow w.heap.size 5 1 (.slice (some ⟨w.heap.size, 0, none⟩) 0 0) 0 [] :=
    own_of_whole (B := w.heap.size) (n := 0) (c := 0) (Whole.new w 5 []) (Nat.le_refl _) rfl (by omega) (by unfold maxLen; omega)
  have hlb := Lib.hid (show (bts l).length = n by rw [bts_len, hl])
  have hm1 := Lib.hid (show 0 + n ≤ maxLen by unfold maxLen; omega)
  have hm2 := Lib.hid (show n + 4 ≤ maxLen by unfold maxLen; omega)
  have hm3 := Lib.hid (show (0 + n) * 1 ≤ 140737488355328 by omega)
  have hm4 := Lib.hid (show (n + 4) * 1 ≤ 140737488355328 by omega)
  have hbe := Lib.hid (bts_be4 k hk)
  go_enter Tryz.func80, Tryz.ntmps80
  go_wp2_with (first
    | (at_builtin
       refine wpList_append_src rfl (.tmp 5) (.tmp 6) 30 rfl w.heap.size 5 i _ 1 Tryz.underlying30 hi hz hs1 hb cells_u8 (.slice (some ⟨w.heap.size, 0, none⟩) 0 0) 0 [] rfl ho0 A n c (bts l) rfl hlb.out (hs.keep ((Chg.refl _ _).alloc _)) (bts_one l) hm1.out hm3.out (by simp) ?_
       intro v1 w1 ho1 hg1 _
       have hc1 : Chg [] w w1 := ((Chg.refl [] w).alloc _).own ho0 (Nat.le_refl _) hg1
       clear hg1
       simp only [Nat.zero_add, List.nil_append] at ho1
       obtain ⟨A1, c1, rfl, _⟩ := own_slice ho1)
    | (at_builtin
       refine wpList_append_src rfl (.tmp 7) (.tmp 19) 30 rfl w.heap.size 5 i _ 1 Tryz.underlying30 hi hz hs1 hb cells_u8 (.slice A1 n c1) n (bts l) rfl (own_keep ho1 ((Chg.refl _ _).alloc _)) (some ⟨w1.heap.size, 0, none⟩) 4 4 _ rfl rfl (Src.of_all (Whole.new w1 5 (_ :: _ :: _ :: _ :: [])))
         (by rw [← hbe.out]; exact bts_one _) hm2.out hm4.out (by have := hc1.size; simp; omega) ?_
       intro v2 w2 ho2 hg2 _
       have hc2 : Chg [] w w2 := (hc1.alloc _).own (own_keep ho1 ((Chg.refl _ _).alloc _)) (Nat.le_refl _) hg2
       clear hg2))
  go_ret
  refine ⟨v2, rfl, ?_, hc2⟩
  rw [← hbe.out] at ho2
  have e1 : (l ++ be4 k).length = n + 4 := by rw [List.length_append, be4_len, hl]
  have e2 : bts (l ++ be4 k) = bts l ++ bts (be4 k) := by simp [bts]
  rw [e1, e2]
  exact ho2
end
end Go.Proofs.YtddjgncdjdjgeaaGreat
namespace Go.Proofs.YtddjgncdjdjgeaaGreat
open Go.RowKit

/-- Bytes as a number, the highest first. -/
def numB (l : List UInt8) : Nat := l.foldl (fun g b => g * 256 + b.toNat) 0
theorem numB_snoc (l : List UInt8) (b : UInt8) : numB (l ++ [b]) = numB l * 256 + b.toNat := by simp [numB]
theorem fold_lt : ∀ (l : List UInt8) (g : Nat), l.foldl (fun g b => g * 256 + b.toNat) g < (g + 1) * 256 ^ l.length
  | [], g => by simp
  | b :: l, g => by
    have h := fold_lt l (g * 256 + b.toNat)
    have hb := b.toNat_lt
    have h2 : (g * 256 + b.toNat + 1) * 256 ^ l.length ≤ ((g + 1) * 256) * 256 ^ l.length := Nat.mul_le_mul_right _ (by omega)
    rw [List.foldl_cons, List.length_cons, Nat.pow_succ, Nat.mul_comm (256 ^ l.length) 256, ← Nat.mul_assoc]
    omega
theorem numB_lt (l : List UInt8) : numB l < 256 ^ l.length := by
  have := fold_lt l 0
  simpa [numB] using this
theorem numB_lt4 (l : List UInt8) (k : Nat) : numB ((l.drop k).take 4) < 4294967296 := by
  have h := numB_lt ((l.drop k).take 4)
  have h2 : ((l.drop k).take 4).length ≤ 4 := by rw [List.length_take]; omega
  have : 256 ^ ((l.drop k).take 4).length ≤ 256 ^ 4 := Nat.pow_le_pow_right (by omega) h2
  omega
theorem numB_next (l : List UInt8) (k j : Nat) (h : k + j < l.length) : numB ((l.drop k).take (j + 1)) = numB ((l.drop k).take j) * 256 + (l[k + j]).toNat := by
  rw [List.take_succ_eq_append_getElem (by rw [List.length_drop]; omega), numB_snoc, List.getElem_drop]
theorem numB_ltj (l : List UInt8) (k j : Nat) (hj : j < 4) : numB ((l.drop k).take j) < 16777216 := by
  have h := numB_lt ((l.drop k).take j)
  have h2 : ((l.drop k).take j).length ≤ 3 := by rw [List.length_take]; omega
  have : 256 ^ ((l.drop k).take j).length ≤ 256 ^ 3 := Nat.pow_le_pow_right (by omega) h2
  omega
theorem or_byte (g : Nat) (q : UInt8) (hg : g < 16777216) : bits .or .u32 ((g : Int) * 256 % 4294967296) ((q.toNat : Int) % 4294967296) = ((g * 256 + q.toNat : Nat) : Int) := by
  have hq := q.toNat_lt
  have e1 : (g : Int) * 256 % 4294967296 = ((g * 256 : Nat) : Int) := by omega
  have e2 : (q.toNat : Int) % 4294967296 = ((q.toNat : Nat) : Int) := by omega
  rw [e1, e2, u32_or_nat _ _ (by omega) (by omega), nat_join 8 (g * 256) q.toNat (by omega) (by omega)]
theorem or_sum (i x y : Nat) (hx : x < 4294967296) (hy : y < 2 ^ i) (hy2 : y < 4294967296) (h0 : x % 2 ^ i = 0) : bits .or .u32 (x : Int) (y : Int) = ((x + y : Nat) : Int) := by
  rw [u32_or_nat x y hx hy2, nat_join i x y h0 hy]
theorem or_four (a b c d : UInt8) : bits .or .u32 (bits .or .u32 (bits .or .u32 ((a.toNat : Int) % 4294967296 * 16777216 % 4294967296) ((b.toNat : Int) % 4294967296 * 65536 % 4294967296)) ((c.toNat : Int) % 4294967296 * 256 % 4294967296)) ((d.toNat : Int) % 4294967296) =
    ((((a.toNat * 256 + b.toNat) * 256 + c.toNat) * 256 + d.toNat : Nat) : Int) := by
  have h1 := a.toNat_lt
  have h2 := b.toNat_lt
  have h3 := c.toNat_lt
  have h4 := d.toNat_lt
  generalize a.toNat = a at *
  generalize b.toNat = b at *
  generalize c.toNat = c at *
  generalize d.toNat = d at *
  obtain ⟨A, hA⟩ : ∃ A, A = a * 16777216 := ⟨_, rfl⟩
  have e1 : (a : Int) % 4294967296 * 16777216 % 4294967296 = (A : Int) := by omega
  have e2 : (b : Int) % 4294967296 * 65536 % 4294967296 = ((b * 65536 : Nat) : Int) := by omega
  have e3 : (c : Int) % 4294967296 * 256 % 4294967296 = ((c * 256 : Nat) : Int) := by omega
  have e4 : (d : Int) % 4294967296 = (d : Int) := by omega
  rw [e1, e2, e3, e4, or_sum 24 A (b * 65536) (by omega) (by omega) (by omega) (by omega), or_sum 16 (A + b * 65536) (c * 256) (by omega) (by omega) (by omega) (by omega), or_sum 8 (A + b * 65536 + c * 256) d (by omega) (by omega) (by omega) (by omega)]
  congr 1
  omega

/-- What Get answers. -/
def getI (l : List UInt8) (at_ : Int) : Nat := if 0 ≤ at_ ∧ at_ + 4 ≤ l.length then numB ((l.drop at_.toNat).take 4) else 0
theorem getI_lt (l : List UInt8) (i : Int) : getI l i < 4294967296 := by
  unfold getI
  split
  · exact numB_lt4 _ _
  · omega

section
variable {w : World} {A : Option Addr} {n c : Nat} {l : List UInt8}
set_option maxHeartbeats 400000 in
set_option maxRecDepth 100000 in
theorem get_no (hn : n ≤ 9223372036854775807) (i : Int) (h : i < 0 ∨ (n : Int) < i + 4) (hi : i ≤ 9223372036854775807) :
    Calls Tryz.prog 119 #[.slice A n c, .int .i64 i] w fun e w' => e = .returned (.int .u32 0) ∧ w = w' := by
  by_cases h0 : i < 0
  · go_enter Tryz.func119, Tryz.ntmps119
    go_wp2_with fail
    go_ret
    exact ⟨rfl, rfl⟩
  · have h1 : (n : Int) - 4 < i := by omega
    have h2 : 0 ≤ i := by omega
    have hd : decide (i < 0) = false := by simpa using h0
    clear h
    go_enter Tryz.func119, Tryz.ntmps119
    go_wp2_with fail
    go_ret
    exact ⟨rfl, rfl⟩
set_option maxHeartbeats 400000 in
set_option maxRecDepth 100000 in
theorem get_yes (hl : l.length = n) (hs : Src w A (bts l)) (hn : n ≤ 9223372036854775807) (hsp : 0 < n → ∀ ad, A = some ad → ad.spot = none) (k : Nat) (hk : k + 4 ≤ n) (hnc : n ≤ c) (hc : c ≤ 9223372036854775807) :
    Calls Tryz.prog 119 #[.slice A n c, .int .i64 (k : Int)] w fun e w' => e = .returned (.int .u32 (numB ((l.drop k).take 4) : Nat)) ∧ w = w' := by
  have HL := Lib.hid hl
  have HS := Lib.hid hsp
  clear hl hsp
  obtain ⟨⟨b, o, s⟩, rfl, _, hx⟩ := hs (by rw [bts_len, HL.out]; omega)
  obtain rfl : s = none := HS.out (by omega) _ rfl
  go_enter Tryz.func119, Tryz.ntmps119
  go_wp2_with fail
  go_loop [5, 23] (fun h i => ∃ j : Nat, j ≤ 4 ∧ i = .int .i64 (j : Int) ∧ h = .int .u32 ((numB ((l.drop k).take j) : Nat) : Int)) (fun _ i => 4 - (intOf i).toNat)
  case atStart => exact ⟨0, by omega, rfl, rfl⟩
  case round =>
    obtain ⟨j, hj, rfl, rfl⟩ := hrel
    by_cases hlt : j < 4
    · have hkl : k + j < l.length := by rw [HL.out]; omega
      have hx1 := hx (k + j) _ (bts_get l (k + j) hkl)
      rw [add_plain] at hx1
      unfold B8 at hx1
      have hnx := numB_next l k j hkl
      have hgl := numB_ltj l k j hlt
      clear hx
      generalize l[k + j] = q at hx1 hnx
      have hob := or_byte _ q hgl
      rw [← hnx] at hob
      clear hnx
      generalize numB ((l.drop k).take j) = g at hob hgl
      have hob2 := Lib.hid hob
      clear hob hgl
      have hx2 : w.cell? ⟨b, o + k + j, none⟩ = some (.int .u8 (q.toNat : Int)) := by rw [← hx1, Nat.add_assoc]
      clear hx1
      go_wp2_with fail
      go_round
      case rel => exact ⟨j + 1, by omega, by go_num, by rw [hob2.out]⟩
      case measure => simp [intOf]; omega
    · obtain rfl : j = 4 := by omega
      go_wp2_with fail
      go_ret
      exact ⟨rfl, rfl⟩
set_option maxHeartbeats 400000 in
set_option maxRecDepth 100000 in
theorem rget_no (hn : n ≤ 9223372036854775807) (i : Int) (h : i < 0 ∨ (n : Int) < i + 4) (hi : i ≤ 9223372036854775807) :
    Calls Tryz.prog 124 #[.slice A n c, .int .i64 i] w fun e w' => e = .returned (.int .u32 0) ∧ w = w' := by
  by_cases h0 : i < 0
  · go_enter Tryz.func124, Tryz.ntmps124
    go_wp2_with fail
    go_ret
    exact ⟨rfl, rfl⟩
  · have h1 : (n : Int) - 4 < i := by omega
    have h2 : 0 ≤ i := by omega
    have hd : decide (i < 0) = false := by simpa using h0
    clear h
    go_enter Tryz.func124, Tryz.ntmps124
    go_wp2_with fail
    go_ret
    exact ⟨rfl, rfl⟩
set_option maxHeartbeats 1000000 in
set_option maxRecDepth 100000 in
theorem rget_yes (hl : l.length = n) (hs : Src w A (bts l)) (hn : n ≤ 9223372036854775807) (hsp : 0 < n → ∀ ad, A = some ad → ad.spot = none) (k : Nat) (hk : k + 4 ≤ n) :
    Calls Tryz.prog 124 #[.slice A n c, .int .i64 (k : Int)] w fun e w' => e = .returned (.int .u32 (numB ((l.drop k).take 4) : Nat)) ∧ Chg [] w w' := by
  have HL := Lib.hid hl
  have HS := Lib.hid hsp
  clear hl hsp
  obtain ⟨⟨b, o, s⟩, rfl, _, hx⟩ := hs (by rw [bts_len, HL.out]; omega)
  obtain rfl : s = none := HS.out (by omega) _ rfl
  have x0 := hx (k + 0) _ (bts_get l (k + 0) (by rw [HL.out]; omega))
  have x1 := hx (k + 1) _ (bts_get l (k + 1) (by rw [HL.out]; omega))
  have x2 := hx (k + 2) _ (bts_get l (k + 2) (by rw [HL.out]; omega))
  have x3 := hx (k + 3) _ (bts_get l (k + 3) (by rw [HL.out]; omega))
  have e0 := numB_next l k 0 (by rw [HL.out]; omega)
  have e1 := numB_next l k 1 (by rw [HL.out]; omega)
  have e2 := numB_next l k 2 (by rw [HL.out]; omega)
  have e3 := numB_next l k 3 (by rw [HL.out]; omega)
  have e00 : numB ((l.drop k).take 0) = 0 := rfl
  clear hx
  rw [add_plain] at x0 x1 x2 x3
  unfold B8 at x0 x1 x2 x3
  generalize l[k + 0]'(by rw [HL.out]; omega) = q0 at x0 e0
  generalize l[k + 1]'(by rw [HL.out]; omega) = q1 at x1 e1
  generalize l[k + 2]'(by rw [HL.out]; omega) = q2 at x2 e2
  generalize l[k + 3]'(by rw [HL.out]; omega) = q3 at x3 e3
  have ho := or_four q0 q1 q2 q3
  rw [show ((q0.toNat * 256 + q1.toNat) * 256 + q2.toNat) * 256 + q3.toNat = numB ((l.drop k).take 4) by rw [e3, e2, e1, e0, e00]; omega] at ho
  have HO := Lib.hid ho
  clear ho e0 e1 e2 e3 e00
  rw [Nat.add_zero] at x0
  rw [← Nat.add_assoc] at x1 x2 x3
  have b1 : (0 : Int) ≤ (k : Int) := by omega
  have b2 : (k : Int) + 1 < (n : Int) := by omega
  have b3 : (k : Int) + 2 < (n : Int) := by omega
  have b4 : (k : Int) + 3 < (n : Int) := by omega
  have b5 : (k : Int) < (n : Int) := by omega
  have m1 : IntKind.i64.wrap ((k : Int) + 1) = (k : Int) + 1 := IntWalk.i64_in _ (by omega)
  have m2 : IntKind.i64.wrap ((k : Int) + 2) = (k : Int) + 2 := IntWalk.i64_in _ (by omega)
  have m3 : IntKind.i64.wrap ((k : Int) + 3) = (k : Int) + 3 := IntWalk.i64_in _ (by omega)
  have n1 : ((k : Int) + 1).toNat = k + 1 := by omega
  have n2 : ((k : Int) + 2).toNat = k + 2 := by omega
  have n3 : ((k : Int) + 3).toNat = k + 3 := by omega
  have p1 : (0 : Int) ≤ (k : Int) + 1 := by omega
  have p2 : (0 : Int) ≤ (k : Int) + 2 := by omega
  have p3 : (0 : Int) ≤ (k : Int) + 3 := by omega
  rw [Nat.add_assoc] at x1 x2 x3
  go_enter Tryz.func124, Tryz.ntmps124
  go_wp2_with fail
  go_quiet (fail)
  go_wp2_with fail
  go_ret
  exact ⟨ret_int HO.out, (Chg.refl _ _).drewN _⟩
end
end Go.Proofs.YtddjgncdjdjgeaaGreat
