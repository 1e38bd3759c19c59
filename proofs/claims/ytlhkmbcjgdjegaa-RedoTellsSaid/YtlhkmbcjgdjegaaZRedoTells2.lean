/-
  RedoTells, part 2: Sum, Put, Get, SumB, Turn, BsMore, NumPure, RootPure, BEq, AppZeros, RootFn, Sect, Write, Space, Redo, BRows, SumK, Frm, FrmRead, FrmScan, Delta, MadeCh, Into, Tape, DeltaGet.
-/
import Derived.Test.YtlhkmbcjgdjegaaZRedoTells1
import Derived.Test.YtlhkmbcjgdjegaaChecked
import Derived.Deep.QuietTactic
import Derived.BigQuiet
import Derived.Laws.BitsAllLaws
import Derived.Lib.AppendZerosOnto
import Derived.IntWalk
namespace Go.Proofs.Ytlhkmbcjgdjegaa
open Go.RowKit

theorem ret_int {k : IntKind} {a b : Int} (h : a = b) : Ending.returned (.int k a) = .returned (.int k b) := by rw [h]
/-- One byte more; all of them. -/
def stp (h : Int) (b : UInt8) : Int := bits .xor .u32 h ((b.toNat : Int) % 4294967296) * 16777619 % 4294967296
theorem ret_stp (h : Int) (b : UInt8) : Ending.returned (.int .u32 (bits .xor .u32 h ((b.toNat : Int) % 4294967296) * 16777619 % 4294967296)) = .returned (.int .u32 (stp h b)) := by unfold stp; rfl
def sumL (h : Int) (l : List UInt8) : Int := l.foldl stp h
theorem sumL_snoc (h : Int) (l : List UInt8) (b : UInt8) : sumL h (l ++ [b]) = stp (sumL h l) b := by simp [sumL]
theorem sumL_app (h : Int) (l m : List UInt8) : sumL h (l ++ m) = sumL (sumL h l) m := by simp [sumL]
theorem take_next {α : Type} (l : List α) (k : Nat) (h : k < l.length) : l.take (k + 1) = l.take k ++ [l[k]] := List.take_succ_eq_append_getElem h
theorem sumL_next (h : Int) (l : List UInt8) (k : Nat) (hk : k < l.length) : sumL h (l.take (k + 1)) = stp (sumL h (l.take k)) l[k] := by rw [take_next l k hk, sumL_snoc]

section
variable {w : World}
set_option maxHeartbeats 400000 in
theorem step_any (h : Int) (b : UInt8) :
    Calls Try.prog 137 #[.int .u32 h, .int .u8 (b.toNat : Int)] w fun e w' => e = .returned (.int .u32 (stp h b)) ∧ w = w' := by
  go_enter Try.func137, Try.ntmps137
  go_wp2_with fail
  go_ret
  exact ⟨ret_stp h b, rfl⟩
set_option maxHeartbeats 400000 in
theorem rstep_any (h : Int) (b : UInt8) :
    Calls Try.prog 119 #[.int .u32 h, .int .u8 (b.toNat : Int)] w fun e w' => e = .returned (.int .u32 (stp h b)) ∧ w = w' := by
  go_enter Try.func119, Try.ntmps119
  go_wp2_with fail
  go_ret
  exact ⟨ret_stp h b, rfl⟩

variable {A : Option Addr} {n c : Nat} {l : List UInt8}
set_option maxHeartbeats 400000 in
theorem sum_any (hl : l.length = n) (hs : Src w A (bts l)) (hn : n ≤ 9223372036854775807) (hsp : 0 < n → ∀ ad, A = some ad → ad.spot = none) :
    Calls Try.prog 133 #[.slice A n c] w fun e w' => e = .returned (.int .u32 (sumL 2166136261 l)) ∧ w = w' := by
  have HL := Lib.hid hl
  have HS := Lib.hid hsp
  clear hl hsp
  go_enter Try.func133, Try.ntmps133
  go_wp2_with fail
  go_loop [3, 8] (fun h i => ∃ k : Nat, k ≤ n ∧ i = .int .i64 (k : Int) ∧ h = .int .u32 (sumL 2166136261 (l.take k))) (fun _ i => n - (intOf i).toNat)
  case atStart => exact ⟨0, Nat.zero_le _, rfl, rfl⟩
  case round =>
    obtain ⟨k, hk, rfl, rfl⟩ := hrel
    by_cases hlt : k < n
    · have hkl : k < l.length := by rw [HL.out]; exact hlt
      obtain ⟨⟨b, o, s⟩, rfl, _, hx⟩ := hs (by rw [bts_len]; omega)
      obtain rfl : s = none := HS.out (by omega) _ rfl
      have hx1 := hx k _ (bts_get l k hkl)
      rw [add_plain] at hx1
      have hnx := Lib.hid (sumL_next 2166136261 l k hkl)
      clear hx
      generalize l[k] = q at hx1 hnx
      unfold B8 at hx1
      have hnx2 : sumL 2166136261 (l.take (k + 1)) = stp (sumL 2166136261 (l.take k)) q := hnx.out
      generalize sumL 2166136261 (l.take k) = H at hnx2 ⊢
      have hnx := Lib.hid hnx2
      clear hnx2
      go_wp2_with (go_at_call 137; refine (step_any _ _).mono ?_; rintro e w' ⟨rfl, rfl⟩)
      go_round
      case rel => exact ⟨k + 1, by omega, by go_num, by rw [hnx.out]⟩
      case measure => simp [intOf]; omega
    · have ht := Lib.hid (show sumL 2166136261 (l.take k) = sumL 2166136261 l by rw [List.take_of_length_le (by rw [HL.out]; omega)])
      go_wp2_with fail
      go_ret
      exact ⟨ret_int ht.out, rfl⟩
set_option maxHeartbeats 400000 in
theorem rsum_any (hl : l.length = n) (hs : Src w A (bts l)) (hn : n ≤ 9223372036854775807) (hsp : 0 < n → ∀ ad, A = some ad → ad.spot = none) :
    Calls Try.prog 107 #[.slice A n c] w fun e w' => e = .returned (.int .u32 (sumL 2166136261 l)) ∧ w = w' := by
  have HL := Lib.hid hl
  have HS := Lib.hid hsp
  clear hl hsp
  go_enter Try.func107, Try.ntmps107
  go_wp2_with fail
  go_loop [3, 4] (fun h i => ∃ k : Nat, k ≤ n ∧ i = .int .i64 (k : Int) ∧ h = .int .u32 (sumL 2166136261 (l.take k))) (fun _ i => n - (intOf i).toNat)
  case atStart => exact ⟨0, Nat.zero_le _, rfl, rfl⟩
  case round =>
    obtain ⟨k, hk, rfl, rfl⟩ := hrel
    by_cases hlt : k < n
    · have hkl : k < l.length := by rw [HL.out]; exact hlt
      obtain ⟨⟨b, o, s⟩, rfl, _, hx⟩ := hs (by rw [bts_len]; omega)
      obtain rfl : s = none := HS.out (by omega) _ rfl
      have hx1 := hx k _ (bts_get l k hkl)
      rw [add_plain] at hx1
      have hnx := Lib.hid (sumL_next 2166136261 l k hkl)
      clear hx
      generalize l[k] = q at hx1 hnx
      unfold B8 at hx1
      have hnx2 : sumL 2166136261 (l.take (k + 1)) = stp (sumL 2166136261 (l.take k)) q := hnx.out
      generalize sumL 2166136261 (l.take k) = H at hnx2 ⊢
      have hnx := Lib.hid hnx2
      clear hnx2
      go_wp2_with (go_at_call 119; refine (rstep_any _ _).mono ?_; rintro e w' ⟨rfl, rfl⟩)
      go_round
      case rel => exact ⟨k + 1, by omega, by go_num, by rw [hnx.out]⟩
      case measure => simp [intOf]; omega
    · have ht := Lib.hid (show sumL 2166136261 (l.take k) = sumL 2166136261 l by rw [List.take_of_length_le (by rw [HL.out]; omega)])
      go_wp2_with fail
      go_ret
      exact ⟨ret_int ht.out, rfl⟩
end
end Go.Proofs.Ytlhkmbcjgdjegaa
namespace Go.Proofs.Ytlhkmbcjgdjegaa
open Go.RowKit
theorem info_byte : (Try.prog.info? 5).map (fun i => (i.zero, i.size, i.bytes)) = some (some (.int .u8 0), 1, 1) := by kernel_rfl
/-- A number's four bytes. -/
def be4 (k : Nat) : List UInt8 := [UInt8.ofNat (k / 16777216), UInt8.ofNat (k / 65536), UInt8.ofNat (k / 256), UInt8.ofNat k]
theorem be4_len (k : Nat) : (be4 k).length = 4 := rfl
theorem bts_be4 (k : Nat) (hk : k < 4294967296) : bts (be4 k) = [.int .u8 ((k : Int) / 16777216), .int .u8 ((k : Int) / 65536 % 256), .int .u8 ((k : Int) / 256 % 256), .int .u8 ((k : Int) % 256)] := by
  have h : ∀ x : Nat, (((UInt8.ofNat x).toNat : Nat) : Int) = ((x % 256 : Nat) : Int) := fun x => by rw [UInt8.toNat_ofNat']
  have h2 : ((k / 16777216 % 256 : Nat) : Int) = (k : Int) / 16777216 := by omega
  simp only [bts, be4, List.map_cons, List.map_nil, B8, h, h2, Int.natCast_emod, Int.natCast_ediv, Int.cast_ofNat_Int]

/-- What a call that makes bytes answers. -/
def BytesPost (w : World) (l : List UInt8) (e : Ending) (w' : World) : Prop := ∃ v, e = .returned v ∧ w'.ownsRow w.heap.size 5 1 v l.length (bts l) ∧ Chg [] w w'

section
variable {w : World} {A : Option Addr} {n c : Nat} {l : List UInt8}
set_option maxHeartbeats 400000 in
theorem put_any (k : Nat) (hk : k < 4294967296) (hl : l.length = n) (hs : Src w A (bts l)) (hn : n + 4 ≤ 140737488355328) :
    Calls Try.prog 102 #[.slice A n c, .int .u32 (k : Int)] w (BytesPost w (l ++ be4 k)) := by
  obtain ⟨i, hi, hz, hs1, hb⟩ := info_parts info_byte
  have hmk : ∀ W : World, (Instr.makeSlice 22 (.int .i64 0) (.int .i64 ((n : Int) + 4))).run Try.prog W = .ok (.slice (some ⟨W.heap.size, 0, none⟩) 0 (n + 4)) (W.alloc (.cells (bts (zeros (n + 4))).toArray 5)) := by
    intro W
    rw [bts_zeros]
    have := run_make0 (P := Try.prog) 22 5 i _ rfl Try.underlying22 hi hz hs1 (n + 4) (by rw [hb]; omega) (by omega) W
    simpa using this
  have ho0 : (w.alloc (.cells (bts (zeros (n + 4))).toArray 5)).ownsRow w.heap.size 5 1 (.slice (some ⟨w.heap.size, 0, none⟩) 0 (n + 4)) 0 [] := by
    have := own_of_whole (B := w.heap.size) (n := 0) (c := n + 4) (Whole.new w 5 (bts (zeros (n + 4)))) (Nat.le_refl _) (by simp [bts_len, zeros_len]) (by omega) (by unfold maxLen; omega)
    simpa using this
  have hlb := Lib.hid (show (bts l).length = n by rw [bts_len, hl])
  have hm1 := Lib.hid (show 0 + n ≤ maxLen by unfold maxLen; omega)
  have hm2 := Lib.hid (show n + 4 ≤ maxLen by unfold maxLen; omega)
  have hm3 := Lib.hid (show (0 + n) * 1 ≤ 140737488355328 by omega)
  have hm4 := Lib.hid (show (n + 4) * 1 ≤ 140737488355328 by omega)
  have hbe := Lib.hid (bts_be4 k hk)
  go_enter Try.func102, Try.ntmps102
  go_wp2_with (first
    | (at_builtin
       refine wpList_append_src rfl (.tmp 10) (.tmp 11) 22 rfl w.heap.size 5 i _ 1 Try.underlying22 hi hz hs1 hb cells_u8 (.slice (some ⟨w.heap.size, 0, none⟩) 0 (n + 4)) 0 [] rfl ho0 A n c (bts l) rfl hlb.out (hs.keep ((Chg.refl _ _).alloc _)) (bts_one l) hm1.out hm3.out (by simp) ?_
       intro v1 w1 ho1 hg1 _
       have hc1 : Chg [] w w1 := ((Chg.refl [] w).alloc _).own ho0 (Nat.le_refl _) hg1
       clear hg1
       simp only [Nat.zero_add, List.nil_append] at ho1
       obtain ⟨A1, c1, rfl, _⟩ := own_slice ho1)
    | (at_builtin
       refine wpList_append_src rfl (.tmp 13) (.tmp 25) 22 rfl w.heap.size 5 i _ 1 Try.underlying22 hi hz hs1 hb cells_u8 (.slice A1 n c1) n (bts l) rfl (own_keep ho1 ((Chg.refl _ _).alloc _)) (some ⟨w1.heap.size, 0, none⟩) 4 4 _ rfl rfl (Src.of_all (Whole.new w1 5 (_ :: _ :: _ :: _ :: [])))
         (by rw [← hbe.out]; exact bts_one _) hm2.out hm4.out (by have := hc1.size; simp; omega) ?_
       intro v2 w2 ho2 hg2 _
       have hc2 : Chg [] w w2 := (hc1.alloc _).own (own_keep ho1 ((Chg.refl _ _).alloc _)) (Nat.le_refl _) hg2
       clear hg2))
  go_ret
  refine ⟨v2, rfl, ?_, hc2⟩
  rw [← hbe.out] at ho2
  have e1 : (l ++ be4 k).length = n + 4 := by rw [List.length_append, be4_len, hl]
  have e2 : bts (l ++ be4 k) = bts l ++ bts (be4 k) := by simp [bts]
  rw [e1, e2]
  exact ho2

set_option maxHeartbeats 400000 in
theorem rput_any (k : Nat) (hk : k < 4294967296) (hl : l.length = n) (hs : Src w A (bts l)) (hn : n + 4 ≤ 140737488355328) :
    Calls Try.prog 106 #[.slice A n c, .int .u32 (k : Int)] w (BytesPost w (l ++ be4 k)) := by
  obtain ⟨i, hi, hz, hs1, hb⟩ := info_parts info_byte
  have ho0 : (w.alloc (.cells #[] 5)).ownsRow w.heap.size 5 1 (.slice (some ⟨w.heap.size, 0, none⟩) 0 0) 0 [] :=
    own_of_whole (B := w.heap.size) (n := 0) (c := 0) (Whole.new w 5 []) (Nat.le_refl _) rfl (by omega) (by unfold maxLen; omega)
  have hlb := Lib.hid (show (bts l).length = n by rw [bts_len, hl])
  have hm1 := Lib.hid (show 0 + n ≤ maxLen by unfold maxLen; omega)
  have hm2 := Lib.hid (show n + 4 ≤ maxLen by unfold maxLen; omega)
  have hm3 := Lib.hid (show (0 + n) * 1 ≤ 140737488355328 by omega)
  have hm4 := Lib.hid (show (n + 4) * 1 ≤ 140737488355328 by omega)
  have hbe := Lib.hid (bts_be4 k hk)
  go_enter Try.func106, Try.ntmps106
  go_wp2_with (first
    | (at_builtin
       refine wpList_append_src rfl (.tmp 5) (.tmp 6) 22 rfl w.heap.size 5 i _ 1 Try.underlying22 hi hz hs1 hb cells_u8 (.slice (some ⟨w.heap.size, 0, none⟩) 0 0) 0 [] rfl ho0 A n c (bts l) rfl hlb.out (hs.keep ((Chg.refl _ _).alloc _)) (bts_one l) hm1.out hm3.out (by simp) ?_
       intro v1 w1 ho1 hg1 _
       have hc1 : Chg [] w w1 := ((Chg.refl [] w).alloc _).own ho0 (Nat.le_refl _) hg1
       clear hg1
       simp only [Nat.zero_add, List.nil_append] at ho1
       obtain ⟨A1, c1, rfl, _⟩ := own_slice ho1)
    | (at_builtin
       refine wpList_append_src rfl (.tmp 7) (.tmp 19) 22 rfl w.heap.size 5 i _ 1 Try.underlying22 hi hz hs1 hb cells_u8 (.slice A1 n c1) n (bts l) rfl (own_keep ho1 ((Chg.refl _ _).alloc _)) (some ⟨w1.heap.size, 0, none⟩) 4 4 _ rfl rfl (Src.of_all (Whole.new w1 5 (_ :: _ :: _ :: _ :: [])))
         (by rw [← hbe.out]; exact bts_one _) hm2.out hm4.out (by have := hc1.size; simp; omega) ?_
       intro v2 w2 ho2 hg2 _
       have hc2 : Chg [] w w2 := (hc1.alloc _).own (own_keep ho1 ((Chg.refl _ _).alloc _)) (Nat.le_refl _) hg2
       clear hg2))
  go_ret
  refine ⟨v2, rfl, ?_, hc2⟩
  rw [← hbe.out] at ho2
  have e1 : (l ++ be4 k).length = n + 4 := by rw [List.length_append, be4_len, hl]
  have e2 : bts (l ++ be4 k) = bts l ++ bts (be4 k) := by simp [bts]
  rw [e1, e2]
  exact ho2
end
end Go.Proofs.Ytlhkmbcjgdjegaa
namespace Go.Proofs.Ytlhkmbcjgdjegaa
open Go.RowKit

/-- Bytes as a number, the highest first. -/
def numB (l : List UInt8) : Nat := l.foldl (fun g b => g * 256 + b.toNat) 0
theorem numB_snoc (l : List UInt8) (b : UInt8) : numB (l ++ [b]) = numB l * 256 + b.toNat := by simp [numB]
theorem fold_lt : ∀ (l : List UInt8) (g : Nat), l.foldl (fun g b => g * 256 + b.toNat) g < (g + 1) * 256 ^ l.length
  | [], g => by simp
  | b :: l, g => by
    have h := fold_lt l (g * 256 + b.toNat)
    have hb := b.toNat_lt
    have h2 : (g * 256 + b.toNat + 1) * 256 ^ l.length ≤ ((g + 1) * 256) * 256 ^ l.length := Nat.mul_le_mul_right _ (by omega)
    rw [List.foldl_cons, List.length_cons, Nat.pow_succ, Nat.mul_comm (256 ^ l.length) 256, ← Nat.mul_assoc]
    omega
theorem numB_lt (l : List UInt8) : numB l < 256 ^ l.length := by
  have := fold_lt l 0
  simpa [numB] using this
theorem numB_lt4 (l : List UInt8) (k : Nat) : numB ((l.drop k).take 4) < 4294967296 := by
  have h := numB_lt ((l.drop k).take 4)
  have h2 : ((l.drop k).take 4).length ≤ 4 := by rw [List.length_take]; omega
  have : 256 ^ ((l.drop k).take 4).length ≤ 256 ^ 4 := Nat.pow_le_pow_right (by omega) h2
  omega
theorem numB_next (l : List UInt8) (k j : Nat) (h : k + j < l.length) : numB ((l.drop k).take (j + 1)) = numB ((l.drop k).take j) * 256 + (l[k + j]).toNat := by
  rw [List.take_succ_eq_append_getElem (by rw [List.length_drop]; omega), numB_snoc, List.getElem_drop]
theorem numB_ltj (l : List UInt8) (k j : Nat) (hj : j < 4) : numB ((l.drop k).take j) < 16777216 := by
  have h := numB_lt ((l.drop k).take j)
  have h2 : ((l.drop k).take j).length ≤ 3 := by rw [List.length_take]; omega
  have : 256 ^ ((l.drop k).take j).length ≤ 256 ^ 3 := Nat.pow_le_pow_right (by omega) h2
  omega
theorem or_byte (g : Nat) (q : UInt8) (hg : g < 16777216) : bits .or .u32 ((g : Int) * 256 % 4294967296) ((q.toNat : Int) % 4294967296) = ((g * 256 + q.toNat : Nat) : Int) := by
  have hq := q.toNat_lt
  have e1 : (g : Int) * 256 % 4294967296 = ((g * 256 : Nat) : Int) := by omega
  have e2 : (q.toNat : Int) % 4294967296 = ((q.toNat : Nat) : Int) := by omega
  rw [e1, e2, u32_or_nat _ _ (by omega) (by omega), nat_join 8 (g * 256) q.toNat (by omega) (by omega)]
theorem or_sum (i x y : Nat) (hx : x < 4294967296) (hy : y < 2 ^ i) (hy2 : y < 4294967296) (h0 : x % 2 ^ i = 0) : bits .or .u32 (x : Int) (y : Int) = ((x + y : Nat) : Int) := by
  rw [u32_or_nat x y hx hy2, nat_join i x y h0 hy]
def K24 : Nat := 16777216
theorem or_four (a b c d : UInt8) : bits .or .u32 (bits .or .u32 (bits .or .u32 ((a.toNat : Int) % 4294967296 * 16777216 % 4294967296) ((b.toNat : Int) % 4294967296 * 65536 % 4294967296)) ((c.toNat : Int) % 4294967296 * 256 % 4294967296)) ((d.toNat : Int) % 4294967296) =
    ((((a.toNat * 256 + b.toNat) * 256 + c.toNat) * 256 + d.toNat : Nat) : Int) := by
  have h1 := a.toNat_lt
  have h2 := b.toNat_lt
  have h3 := c.toNat_lt
  have h4 := d.toNat_lt
  generalize a.toNat = a at *
  generalize b.toNat = b at *
  generalize c.toNat = c at *
  generalize d.toNat = d at *
  obtain ⟨A, hA⟩ : ∃ A, A = a * 16777216 := ⟨_, rfl⟩
  have e1 : (a : Int) % 4294967296 * 16777216 % 4294967296 = (A : Int) := by omega
  have e2 : (b : Int) % 4294967296 * 65536 % 4294967296 = ((b * 65536 : Nat) : Int) := by omega
  have e3 : (c : Int) % 4294967296 * 256 % 4294967296 = ((c * 256 : Nat) : Int) := by omega
  have e4 : (d : Int) % 4294967296 = (d : Int) := by omega
  rw [e1, e2, e3, e4, or_sum 24 A (b * 65536) (by omega) (by omega) (by omega) (by omega), or_sum 16 (A + b * 65536) (c * 256) (by omega) (by omega) (by omega) (by omega), or_sum 8 (A + b * 65536 + c * 256) d (by omega) (by omega) (by omega) (by omega)]
  congr 1
  omega

/-- What Get answers. -/
def getI (l : List UInt8) (at_ : Int) : Nat := if 0 ≤ at_ ∧ at_ + 4 ≤ l.length then numB ((l.drop at_.toNat).take 4) else 0
theorem getI_lt (l : List UInt8) (i : Int) : getI l i < 4294967296 := by
  unfold getI
  split
  · exact numB_lt4 _ _
  · omega

section
variable {w : World} {A : Option Addr} {n c : Nat} {l : List UInt8}
set_option maxHeartbeats 400000 in
theorem get_no (hn : n ≤ 9223372036854775807) (i : Int) (h : i < 0 ∨ (n : Int) < i + 4) (hi : i ≤ 9223372036854775807) :
    Calls Try.prog 101 #[.slice A n c, .int .i64 i] w fun e w' => e = .returned (.int .u32 0) ∧ w = w' := by
  by_cases h0 : i < 0
  · go_enter Try.func101, Try.ntmps101
    go_wp2_with fail
    go_ret
    exact ⟨rfl, rfl⟩
  · have h1 : (n : Int) - 4 < i := by omega
    have h2 : 0 ≤ i := by omega
    have hd : decide (i < 0) = false := by simpa using h0
    clear h
    go_enter Try.func101, Try.ntmps101
    go_wp2_with fail
    go_ret
    exact ⟨rfl, rfl⟩
set_option maxHeartbeats 400000 in
theorem get_yes (hl : l.length = n) (hs : Src w A (bts l)) (hn : n ≤ 9223372036854775807) (hsp : 0 < n → ∀ ad, A = some ad → ad.spot = none) (k : Nat) (hk : k + 4 ≤ n) (hnc : n ≤ c) (hc : c ≤ 9223372036854775807) :
    Calls Try.prog 101 #[.slice A n c, .int .i64 (k : Int)] w fun e w' => e = .returned (.int .u32 (numB ((l.drop k).take 4) : Nat)) ∧ w = w' := by
  have HL := Lib.hid hl
  have HS := Lib.hid hsp
  clear hl hsp
  obtain ⟨⟨b, o, s⟩, rfl, _, hx⟩ := hs (by rw [bts_len, HL.out]; omega)
  obtain rfl : s = none := HS.out (by omega) _ rfl
  go_enter Try.func101, Try.ntmps101
  go_wp2_with fail
  go_loop [5, 23] (fun h i => ∃ j : Nat, j ≤ 4 ∧ i = .int .i64 (j : Int) ∧ h = .int .u32 ((numB ((l.drop k).take j) : Nat) : Int)) (fun _ i => 4 - (intOf i).toNat)
  case atStart => exact ⟨0, by omega, rfl, rfl⟩
  case round =>
    obtain ⟨j, hj, rfl, rfl⟩ := hrel
    by_cases hlt : j < 4
    · have hkl : k + j < l.length := by rw [HL.out]; omega
      have hx1 := hx (k + j) _ (bts_get l (k + j) hkl)
      rw [add_plain] at hx1
      unfold B8 at hx1
      have hnx := numB_next l k j hkl
      have hgl := numB_ltj l k j hlt
      clear hx
      generalize l[k + j] = q at hx1 hnx
      have hob := or_byte _ q hgl
      rw [← hnx] at hob
      clear hnx
      generalize numB ((l.drop k).take j) = g at hob hgl
      have hob2 := Lib.hid hob
      clear hob hgl
      have hx2 : w.cell? ⟨b, o + k + j, none⟩ = some (.int .u8 (q.toNat : Int)) := by rw [← hx1, Nat.add_assoc]
      clear hx1
      go_wp2_with fail
      go_round
      case rel => exact ⟨j + 1, by omega, by go_num, by rw [hob2.out]⟩
      case measure => simp [intOf]; omega
    · obtain rfl : j = 4 := by omega
      go_wp2_with fail
      go_ret
      exact ⟨rfl, rfl⟩
set_option maxHeartbeats 400000 in
theorem rget_no (hn : n ≤ 9223372036854775807) (i : Int) (h : i < 0 ∨ (n : Int) < i + 4) (hi : i ≤ 9223372036854775807) :
    Calls Try.prog 136 #[.slice A n c, .int .i64 i] w fun e w' => e = .returned (.int .u32 0) ∧ w = w' := by
  by_cases h0 : i < 0
  · go_enter Try.func136, Try.ntmps136
    go_wp2_with fail
    go_ret
    exact ⟨rfl, rfl⟩
  · have h1 : (n : Int) - 4 < i := by omega
    have h2 : 0 ≤ i := by omega
    have hd : decide (i < 0) = false := by simpa using h0
    clear h
    go_enter Try.func136, Try.ntmps136
    go_wp2_with fail
    go_ret
    exact ⟨rfl, rfl⟩
set_option maxHeartbeats 1000000 in
theorem rget_yes (hl : l.length = n) (hs : Src w A (bts l)) (hn : n ≤ 9223372036854775807) (hsp : 0 < n → ∀ ad, A = some ad → ad.spot = none) (k : Nat) (hk : k + 4 ≤ n) :
    Calls Try.prog 136 #[.slice A n c, .int .i64 (k : Int)] w fun e w' => e = .returned (.int .u32 (numB ((l.drop k).take 4) : Nat)) ∧ Chg [] w w' := by
  have HL := Lib.hid hl
  have HS := Lib.hid hsp
  clear hl hsp
  obtain ⟨⟨b, o, s⟩, rfl, _, hx⟩ := hs (by rw [bts_len, HL.out]; omega)
  obtain rfl : s = none := HS.out (by omega) _ rfl
  have x0 := hx (k + 0) _ (bts_get l (k + 0) (by rw [HL.out]; omega))
  have x1 := hx (k + 1) _ (bts_get l (k + 1) (by rw [HL.out]; omega))
  have x2 := hx (k + 2) _ (bts_get l (k + 2) (by rw [HL.out]; omega))
  have x3 := hx (k + 3) _ (bts_get l (k + 3) (by rw [HL.out]; omega))
  have e0 := numB_next l k 0 (by rw [HL.out]; omega)
  have e1 := numB_next l k 1 (by rw [HL.out]; omega)
  have e2 := numB_next l k 2 (by rw [HL.out]; omega)
  have e3 := numB_next l k 3 (by rw [HL.out]; omega)
  have e00 : numB ((l.drop k).take 0) = 0 := rfl
  clear hx
  rw [add_plain] at x0 x1 x2 x3
  unfold B8 at x0 x1 x2 x3
  generalize l[k + 0]'(by rw [HL.out]; omega) = q0 at x0 e0
  generalize l[k + 1]'(by rw [HL.out]; omega) = q1 at x1 e1
  generalize l[k + 2]'(by rw [HL.out]; omega) = q2 at x2 e2
  generalize l[k + 3]'(by rw [HL.out]; omega) = q3 at x3 e3
  have ho := or_four q0 q1 q2 q3
  rw [show ((q0.toNat * 256 + q1.toNat) * 256 + q2.toNat) * 256 + q3.toNat = numB ((l.drop k).take 4) by rw [e3, e2, e1, e0, e00]; omega] at ho
  have HO := Lib.hid ho
  clear ho e0 e1 e2 e3 e00
  rw [Nat.add_zero] at x0
  rw [← Nat.add_assoc] at x1 x2 x3
  have b1 : (0 : Int) ≤ (k : Int) := by omega
  have b2 : (k : Int) + 1 < (n : Int) := by omega
  have b3 : (k : Int) + 2 < (n : Int) := by omega
  have b4 : (k : Int) + 3 < (n : Int) := by omega
  have b5 : (k : Int) < (n : Int) := by omega
  have m1 : IntKind.i64.wrap ((k : Int) + 1) = (k : Int) + 1 := IntWalk.i64_in _ (by omega)
  have m2 : IntKind.i64.wrap ((k : Int) + 2) = (k : Int) + 2 := IntWalk.i64_in _ (by omega)
  have m3 : IntKind.i64.wrap ((k : Int) + 3) = (k : Int) + 3 := IntWalk.i64_in _ (by omega)
  have n1 : ((k : Int) + 1).toNat = k + 1 := by omega
  have n2 : ((k : Int) + 2).toNat = k + 2 := by omega
  have n3 : ((k : Int) + 3).toNat = k + 3 := by omega
  have p1 : (0 : Int) ≤ (k : Int) + 1 := by omega
  have p2 : (0 : Int) ≤ (k : Int) + 2 := by omega
  have p3 : (0 : Int) ≤ (k : Int) + 3 := by omega
  rw [Nat.add_assoc] at x1 x2 x3
  go_enter Try.func136, Try.ntmps136
  go_wp2_with fail
  go_quiet (fail)
  go_wp2_with fail
  go_ret
  exact ⟨ret_int HO.out, (Chg.refl _ _).drewN _⟩
end
end Go.Proofs.Ytlhkmbcjgdjegaa
namespace Go.Proofs.Ytlhkmbcjgdjegaa
open Go.RowKit
section
variable {w : World} {A : Option Addr} {n c : Nat} {l : List UInt8}
theorem sum_b (h : Bs w A n c l) : Calls Try.prog 133 #[.slice A n c] w fun e w' => e = .returned (.int .u32 (sumL 2166136261 l)) ∧ w = w' := sum_any h.len h.src h.le h.spot
theorem rsum_b (h : Bs w A n c l) : Calls Try.prog 107 #[.slice A n c] w fun e w' => e = .returned (.int .u32 (sumL 2166136261 l)) ∧ w = w' := rsum_any h.len h.src h.le h.spot
theorem put_b (h : Bs w A n c l) (k : Nat) (hk : k < 4294967296) (hn : n + 4 ≤ 140737488355328) : Calls Try.prog 102 #[.slice A n c, .int .u32 (k : Int)] w (BytesPost w (l ++ be4 k)) := put_any k hk h.len h.src hn
theorem rput_b (h : Bs w A n c l) (k : Nat) (hk : k < 4294967296) (hn : n + 4 ≤ 140737488355328) : Calls Try.prog 106 #[.slice A n c, .int .u32 (k : Int)] w (BytesPost w (l ++ be4 k)) := rput_any k hk h.len h.src hn
theorem get_b (h : Bs w A n c l) (i : Int) (hi : i ≤ 9223372036854775807) : Calls Try.prog 101 #[.slice A n c, .int .i64 i] w fun e w' => e = .returned (.int .u32 (getI l i : Nat)) ∧ w = w' := by
  unfold getI
  split
  · rename_i hc
    obtain ⟨k, rfl⟩ := Int.eq_ofNat_of_zero_le hc.1
    rw [Int.toNat_natCast]
    exact get_yes h.len h.src h.le h.spot k (by have := h.len; omega) h.cap h.max
  · rename_i hc
    exact get_no h.le i (by have := h.len; omega) hi
theorem rget_b (h : Bs w A n c l) (i : Int) (hi : i ≤ 9223372036854775807) : Calls Try.prog 136 #[.slice A n c, .int .i64 i] w fun e w' => e = .returned (.int .u32 (getI l i : Nat)) ∧ Chg [] w w' := by
  unfold getI
  split
  · rename_i hc
    obtain ⟨k, rfl⟩ := Int.eq_ofNat_of_zero_le hc.1
    rw [Int.toNat_natCast]
    exact rget_yes h.len h.src h.le h.spot k (by have := h.len; omega)
  · rename_i hc
    refine (rget_no h.le i (by have := h.len; omega) hi).mono ?_
    rintro e w' ⟨rfl, rfl⟩
    exact ⟨rfl, Chg.refl _ _⟩
end
end Go.Proofs.Ytlhkmbcjgdjegaa
namespace Go.Proofs.Ytlhkmbcjgdjegaa
open Go.RowKit

def stpN (h : Nat) (b : UInt8) : Nat := (h ^^^ b.toNat) * 16777619 % 4294967296
def sumN (h : Nat) (l : List UInt8) : Nat := l.foldl stpN h
theorem xor_lt (h : Nat) (b : UInt8) (hh : h < 4294967296) : h ^^^ b.toNat < 4294967296 := by
  have := b.toNat_lt
  exact Nat.xor_lt_two_pow (n := 32) hh (by omega)
theorem stp_nat (h : Nat) (b : UInt8) (hh : h < 4294967296) : stp (h : Int) b = (stpN h b : Nat) := by
  have hb := b.toNat_lt
  have e1 : ((b.toNat : Nat) : Int) % 4294967296 = ((b.toNat : Nat) : Int) := by omega
  unfold stp stpN
  rw [e1, u32_xor_nat h b.toNat hh (by omega)]
  generalize h ^^^ b.toNat = y
  omega
theorem stpN_lt (h : Nat) (b : UInt8) : stpN h b < 4294967296 := by unfold stpN; omega
theorem sum_nat : ∀ (l : List UInt8) (h : Nat), h < 4294967296 → sumL (h : Int) l = (sumN h l : Nat)
  | [], h, _ => rfl
  | b :: l, h, hh => by
    have e1 : sumL (h : Int) (b :: l) = sumL (stp (h : Int) b) l := rfl
    have e2 : sumN h (b :: l) = sumN (stpN h b) l := rfl
    rw [e1, e2, stp_nat h b hh]
    exact sum_nat l _ (stpN_lt h b)
theorem sumN_lt : ∀ (l : List UInt8) (h : Nat), h < 4294967296 → sumN h l < 4294967296
  | [], _, hh => hh
  | b :: l, h, _ => by
    have e2 : sumN h (b :: l) = sumN (stpN h b) l := rfl
    rw [e2]
    exact sumN_lt l _ (stpN_lt h b)
theorem sumL_lt (l : List UInt8) : 0 ≤ sumL 2166136261 l ∧ sumL 2166136261 l < 4294967296 := by
  have h := sum_nat l 2166136261 (by omega)
  have h2 := sumN_lt l 2166136261 (by omega)
  have e : ((2166136261 : Nat) : Int) = 2166136261 := rfl
  rw [e] at h
  rw [h]
  omega
theorem mul_back (x : Nat) (hx : x < 4294967296) : x * 16777619 % 4294967296 * 899433627 % 4294967296 = x := by
  have e1 : x * 16777619 % 4294967296 * 899433627 % 4294967296 = x * 16777619 * 899433627 % 4294967296 := by rw [Nat.mul_mod, Nat.mod_mod, ← Nat.mul_mod]
  have e2 : 16777619 * 899433627 = 3513497 * 4294967296 + 1 := by decide
  rw [e1, Nat.mul_assoc, e2, Nat.mul_add, Nat.mul_one, ← Nat.mul_assoc, Nat.add_comm, Nat.add_mul_mod_self_right]
  exact Nat.mod_eq_of_lt hx
theorem mul_inj (x y : Nat) (hx : x < 4294967296) (hy : y < 4294967296) (h : x * 16777619 % 4294967296 = y * 16777619 % 4294967296) : x = y := by
  rw [← mul_back x hx, h, mul_back y hy]
theorem xor_inj_r (h : Nat) (a b : Nat) (e : h ^^^ a = h ^^^ b) : a = b := by
  have : h ^^^ (h ^^^ a) = h ^^^ (h ^^^ b) := by rw [e]
  rwa [← Nat.xor_assoc, ← Nat.xor_assoc, Nat.xor_self, Nat.zero_xor, Nat.zero_xor] at this
theorem xor_inj_l (h k a : Nat) (e : h ^^^ a = k ^^^ a) : h = k := by
  rw [Nat.xor_comm h a, Nat.xor_comm k a] at e
  exact xor_inj_r a h k e
theorem stpN_inj_b (h : Nat) (a b : UInt8) (hh : h < 4294967296) (e : stpN h a = stpN h b) : a = b := by
  have := mul_inj _ _ (xor_lt h a hh) (xor_lt h b hh) e
  exact UInt8.toNat_inj.1 (xor_inj_r h _ _ this)
theorem stpN_inj_h (h k : Nat) (a : UInt8) (hh : h < 4294967296) (hk : k < 4294967296) (e : stpN h a = stpN k a) : h = k := by
  have := mul_inj _ _ (xor_lt h a hh) (xor_lt k a hk) e
  exact xor_inj_l h k _ this
theorem sumN_inj : ∀ (l : List UInt8) (h k : Nat), h < 4294967296 → k < 4294967296 → sumN h l = sumN k l → h = k
  | [], _, _, _, _, e => e
  | b :: l, h, k, hh, hk, e => stpN_inj_h h k b hh hk (sumN_inj l _ _ (stpN_lt h b) (stpN_lt k b) e)
theorem sumN_app (h : Nat) (l m : List UInt8) : sumN h (l ++ m) = sumN (sumN h l) m := by simp [sumN]
/-- A byte that is turned turns the sum. -/
theorem sum_turn (l : List UInt8) (k : Nat) (hk : k < l.length) (d : UInt8) (hd : d ≠ l[k]) : sumL 2166136261 (l.set k d) ≠ sumL 2166136261 l := by
  have e0 : ((2166136261 : Nat) : Int) = 2166136261 := rfl
  rw [← e0, sum_nat _ _ (by omega), sum_nat _ _ (by omega)]
  intro he
  have he : sumN 2166136261 (l.set k d) = sumN 2166136261 l := by omega
  have el : l = l.take k ++ l[k] :: l.drop (k + 1) := by simp
  have es : l.set k d = l.take k ++ d :: l.drop (k + 1) := by rw [List.set_eq_take_append_cons_drop, if_pos hk]
  rw [es] at he
  generalize hP : l.take k = P at *
  generalize hS : l.drop (k + 1) = S at *
  generalize l[k] = b at *
  rw [el, sumN_app, sumN_app] at he
  have hp := sumN_lt P 2166136261 (by omega)
  have := sumN_inj S (stpN (sumN 2166136261 P) d) (stpN (sumN 2166136261 P) b) (stpN_lt _ _) (stpN_lt _ _) he
  exact hd (stpN_inj_b _ d b hp this)
/-- c turned by an odd byte. -/
theorem turned (c t : UInt8) : ∃ d : UInt8, bits .xor .u8 (c.toNat : Int) (bits .or .u8 (t.toNat : Int) 1) = (d.toNat : Int) ∧ d ≠ c := by
  have hc := c.toNat_lt
  have ht := t.toNat_lt
  have e1 : bits .or .u8 (t.toNat : Int) 1 = ((t.toNat ||| 1 : Nat) : Int) := u8_or_nat t.toNat 1 (by omega) (by omega)
  have h1 : t.toNat ||| 1 < 256 := Nat.or_lt_two_pow (n := 8) (by omega) (by omega)
  have e2 : bits .xor .u8 (c.toNat : Int) ((t.toNat ||| 1 : Nat) : Int) = ((c.toNat ^^^ (t.toNat ||| 1) : Nat) : Int) := u8_xor_nat _ _ (by omega) h1
  have h2 : c.toNat ^^^ (t.toNat ||| 1) < 256 := Nat.xor_lt_two_pow (n := 8) (by omega) h1
  refine ⟨UInt8.ofNat (c.toNat ^^^ (t.toNat ||| 1)), ?_, ?_⟩
  · rw [e1, e2, UInt8.toNat_ofNat']
    omega
  · intro he
    have h3 : (UInt8.ofNat (c.toNat ^^^ (t.toNat ||| 1))).toNat = c.toNat := by rw [he]
    rw [UInt8.toNat_ofNat', Nat.mod_eq_of_lt h2] at h3
    have h4 : c.toNat ^^^ (t.toNat ||| 1) = c.toNat ^^^ 0 := by rw [h3, Nat.xor_zero]
    have h5 := xor_inj_r _ _ _ h4
    have h6 : (t.toNat ||| 1).testBit 0 = true := by simp
    rw [h5] at h6
    simp at h6
end Go.Proofs.Ytlhkmbcjgdjegaa
namespace Go.Proofs.Ytlhkmbcjgdjegaa
open Go.RowKit
section
variable {w : World} {A : Option Addr} {n c : Nat} {l : List UInt8}
theorem Bs.take (h : Bs w A n c l) {m : Nat} (hm : m ≤ n) : Bs w A m c (l.take m) :=
  ⟨by rw [List.length_take, h.len]; omega, src_pre m h.src, Nat.le_trans hm h.cap, h.max, fun h0 => h.spot (by omega)⟩
where
  src_pre (m : Nat) {w : World} {A : Option Addr} {l : List UInt8} (hs : Src w A (bts l)) : Src w A (bts (l.take m)) := fun hp => by
    obtain ⟨ad, e, hb, hx⟩ := hs (by simp [bts] at hp ⊢; omega)
    refine ⟨ad, e, hb, fun j v hj => hx j v ?_⟩
    unfold bts at hj ⊢
    rw [List.map_take, List.getElem?_take] at hj
    split at hj
    · exact hj
    · cases hj

end
theorem bts_app (l m : List UInt8) : bts (l ++ m) = bts l ++ bts m := by simp [bts]
theorem add0 (A : Option Addr) : Option.map (fun x : Addr => x.add 0) A = A := by cases A <;> simp [Addr.add]
/-- An own row that is not empty: its block, whole. -/
theorem own_whole {w : World} {B n : Nat} {e : TypeId} {v : Value} {xs : List Value} (h : w.ownsRow B e 1 v n xs) (hn : 0 < n) :
    ∃ g r, v = .slice (some ⟨g, 0, none⟩) n (n + r.length) ∧ B ≤ g ∧ Whole w g e (xs ++ r) ∧ n + r.length ≤ maxLen := by
  rcases h.2 with ⟨_, h0⟩ | ⟨g, cap, cur, rfl, hb, hg, hc, hm, hs, ht⟩
  · omega
  · have hl : cur.toList.length = cap := by rw [Array.length_toList]; omega
    have h1 : n * 1 = n := Nat.mul_one n
    rw [h1] at ht
    have e1 : cap = n + (cur.toList.drop n).length := by rw [List.length_drop, hl]; omega
    refine ⟨g, cur.toList.drop n, by rw [← e1], hb, ?_, by omega⟩
    unfold Whole
    rw [← ht, List.take_append_drop]
    exact hg

end Go.Proofs.Ytlhkmbcjgdjegaa
namespace Go.Proofs.Ytlhkmbcjgdjegaa
open Go.RowKit

/-- The sum of bytes, as a number. -/
def sumK (l : List UInt8) : Nat := sumN 2166136261 l
theorem sumK_lt (l : List UInt8) : sumK l < 4294967296 := sumN_lt l _ (by omega)
theorem sumL_K (l : List UInt8) : sumL 2166136261 l = (sumK l : Nat) := by
  have h := sum_nat l 2166136261 (by omega)
  have e : ((2166136261 : Nat) : Int) = 2166136261 := rfl
  rw [e] at h
  exact h

theorem numB_of_be4 (k : Nat) (hk : k < 4294967296) : numB (be4 k) = k := by
  simp only [numB, be4, List.foldl_cons, List.foldl_nil, UInt8.toNat_ofNat']
  omega
theorem be4_of_numB (l : List UInt8) (h : l.length = 4) : be4 (numB l) = l := by
  match l, h with
  | [a, b, c, d], _ =>
    have h1 := a.toNat_lt
    have h2 := b.toNat_lt
    have h3 := c.toNat_lt
    have h4 := d.toNat_lt
    simp only [numB, List.foldl_cons, List.foldl_nil, be4, List.cons.injEq, and_true]
    refine ⟨?_, ?_, ?_, ?_⟩ <;> apply UInt8.toNat_inj.1 <;> rw [UInt8.toNat_ofNat'] <;> omega
theorem getI_put (l m : List UInt8) (k : Nat) (hk : k < 4294967296) (i : Int) (hi : i = l.length) : getI (l ++ (be4 k ++ m)) i = k := by
  subst hi
  unfold getI
  rw [if_pos ⟨by omega, by simp only [List.length_append, be4_len]; omega⟩, Int.toNat_natCast, List.drop_left, List.take_left' (be4_len k), numB_of_be4 k hk]
theorem getI_is {l : List UInt8} {i : Nat} (h : i + 4 ≤ l.length) : getI l (i : Int) = numB ((l.drop i).take 4) := by
  unfold getI
  rw [if_pos ⟨by omega, by omega⟩, Int.toNat_natCast]
theorem getI_take {l : List UInt8} {i k : Nat} (h : i + 4 ≤ k) (hk : k ≤ l.length) : getI (l.take k) (i : Int) = getI l (i : Int) := by
  rw [getI_is (by rw [List.length_take]; omega), getI_is (by omega), List.drop_take, List.take_take, Nat.min_eq_left (by omega)]
theorem getI_same {l m : List UInt8} {i : Nat} (hl : i + 4 ≤ l.length) (hm : i + 4 ≤ m.length) (h : getI l (i : Int) = getI m (i : Int)) (k : Nat) (h1 : i ≤ k) (h2 : k < i + 4) : l[k]? = m[k]? := by
  rw [getI_is hl, getI_is hm] at h
  have h3 := congrArg be4 h
  rw [be4_of_numB _ (by rw [List.length_take, List.length_drop]; omega), be4_of_numB _ (by rw [List.length_take, List.length_drop]; omega)] at h3
  have h4 := congrArg (fun x : List UInt8 => x[k - i]?) h3
  simp only [List.getElem?_take, List.getElem?_drop] at h4
  rw [if_pos (by omega), if_pos (by omega), show i + (k - i) = k by omega] at h4
  exact h4
theorem getI_set {l : List UInt8} {i k : Nat} {d : UInt8} (h : i + 4 ≤ l.length) (hk : k < i ∨ i + 4 ≤ k) : getI (l.set k d) (i : Int) = getI l (i : Int) := by
  rw [getI_is (by rw [List.length_set]; exact h), getI_is h]
  congr 1
  apply List.ext_getElem?
  intro j
  simp only [List.getElem?_take, List.getElem?_drop]
  split
  · rw [List.getElem?_set_ne (by omega)]
  · rfl

theorem sumK_turn (l : List UInt8) (k : Nat) (hk : k < l.length) (d : UInt8) (hd : d ≠ l[k]) : sumK (l.set k d) ≠ sumK l := by
  intro h
  have := sum_turn l k hk d hd
  rw [sumL_K, sumL_K, h] at this
  exact this rfl
end Go.Proofs.Ytlhkmbcjgdjegaa
namespace Go.Proofs.Ytlhkmbcjgdjegaa
open Go.RowKit
def markL : List UInt8 := [69, 78, 71, 49]
def headR (a b c : Nat) : List UInt8 := markL ++ be4 a ++ be4 b ++ be4 c
def rootL (a b c : Nat) : List UInt8 := headR a b c ++ be4 (sumK (headR a b c)) ++ zeros 44
theorem headR_len (a b c : Nat) : (headR a b c).length = 16 := rfl
theorem rootL_len (a b c : Nat) : (rootL a b c).length = 64 := by
  unfold rootL
  rw [List.length_append, List.length_append, headR_len, be4_len, zeros_len]
section
variable (a b c : Nat)
theorem root_get (ha : a < 4294967296) (hb : b < 4294967296) (hc : c < 4294967296) :
    getI (rootL a b c) ((4 : Nat) : Int) = a ∧ getI (rootL a b c) ((8 : Nat) : Int) = b ∧ getI (rootL a b c) ((12 : Nat) : Int) = c ∧ getI (rootL a b c) ((16 : Nat) : Int) = sumK (headR a b c) ∧ (rootL a b c).take 16 = headR a b c := by
  refine ⟨?_, ?_, ?_, ?_, ?_⟩
  · have e : rootL a b c = markL ++ (be4 a ++ (be4 b ++ be4 c ++ be4 (sumK (headR a b c)) ++ zeros 44)) := by
      simp only [rootL, headR, List.append_assoc]
    rw [e]; exact getI_put _ _ a ha _ rfl
  · have e : rootL a b c = (markL ++ be4 a) ++ (be4 b ++ (be4 c ++ be4 (sumK (headR a b c)) ++ zeros 44)) := by
      simp only [rootL, headR, List.append_assoc]
    rw [e]; exact getI_put _ _ b hb _ rfl
  · have e : rootL a b c = (markL ++ be4 a ++ be4 b) ++ (be4 c ++ (be4 (sumK (headR a b c)) ++ zeros 44)) := by
      simp only [rootL, headR, List.append_assoc]
    rw [e]; exact getI_put _ _ c hc _ rfl
  · have e : rootL a b c = headR a b c ++ (be4 (sumK (headR a b c)) ++ zeros 44) := by
      simp only [rootL, List.append_assoc]
    rw [e]; exact getI_put _ _ _ (sumK_lt _) _ (by rw [headR_len])
  · have e : rootL a b c = headR a b c ++ (be4 (sumK (headR a b c)) ++ zeros 44) := by
      simp only [rootL, List.append_assoc]
    rw [e]; exact List.take_left' (headR_len _ _ _)
theorem root_mark : (rootL a b c).take 4 = markL := by
  have e : rootL a b c = markL ++ (be4 a ++ be4 b ++ be4 c ++ be4 (sumK (headR a b c)) ++ zeros 44) := by
    simp only [rootL, headR, List.append_assoc]
  rw [e]; exact List.take_left' rfl
end
/-- The bytes are a root: of these numbers. -/
def isRoot (l : List UInt8) : Prop := getI l 4 ≤ 2147483647 ∧ getI l 8 ≤ 2147483647 ∧ l = rootL (getI l 4) (getI l 8) (getI l 12)
instance (l : List UInt8) : Decidable (isRoot l) := by unfold isRoot; exact inferInstance
theorem root_is (a b c : Nat) (ha : a ≤ 2147483647) (hb : b ≤ 2147483647) (hc : c < 4294967296) : isRoot (rootL a b c) ∧ getI (rootL a b c) 4 = a ∧ getI (rootL a b c) 8 = b ∧ getI (rootL a b c) 12 = c := by
  obtain ⟨h4, h8, h12, _, _⟩ := root_get a b c (by omega) (by omega) hc
  have h4' : getI (rootL a b c) 4 = a := h4
  have h8' : getI (rootL a b c) 8 = b := h8
  have h12' : getI (rootL a b c) 12 = c := h12
  refine ⟨⟨by omega, by omega, by rw [h4', h8', h12']⟩, h4', h8', h12'⟩
theorem isRoot_len {l : List UInt8} (h : isRoot l) : l.length = 64 := by rw [h.2.2, rootL_len]
theorem isRoot_mark {l : List UInt8} (h : isRoot l) : l.take 4 = markL := by rw [h.2.2, root_mark]
theorem root_turned (a b c : Nat) (ha : a ≤ 2147483647) (hb : b ≤ 2147483647) (hc : c < 4294967296) (k : Nat) (hk : k < 20) (d : UInt8) (hd : some d ≠ (rootL a b c)[k]?) : ¬ isRoot ((rootL a b c).set k d) := by
  intro h
  obtain ⟨_, _, h3⟩ := h
  have hm := root_mark a b c
  obtain ⟨f4, f8, f12, f16, ft⟩ := root_get a b c (by omega) (by omega) hc
  have hl := rootL_len a b c
  generalize rootL a b c = f at *
  have q4 := getI_lt (f.set k d) 4
  have q8 := getI_lt (f.set k d) 8
  have q12 := getI_lt (f.set k d) 12
  have hm2 := root_mark (getI (f.set k d) 4) (getI (f.set k d) 8) (getI (f.set k d) 12)
  obtain ⟨_, _, _, g16, gt⟩ := root_get (getI (f.set k d) 4) (getI (f.set k d) 8) (getI (f.set k d) 12) q4 q8 q12
  rw [← h3] at hm2 g16 gt
  have hls : (f.set k d).length = f.length := List.length_set
  have hne : (f.set k d)[k]? ≠ f[k]? := by
    rw [List.getElem?_set_self (by omega)]
    exact hd
  rcases Nat.lt_or_ge k 4 with h4 | h4
  · apply hne
    have e := congrArg (fun x : List UInt8 => x[k]?) (hm2.trans hm.symm)
    simpa [List.getElem?_take, h4] using e
  rcases Nat.lt_or_ge k 16 with h5 | h5
  · have e1 : getI (f.set k d) ((16 : Nat) : Int) = getI f ((16 : Nat) : Int) := getI_set (by omega) (by omega)
    rw [e1, f16, ← gt, List.take_set, ← ft] at g16
    have hkl : k < (f.take 16).length := by rw [List.length_take]; omega
    refine sumK_turn (f.take 16) k hkl d ?_ g16.symm
    intro e
    apply hd
    rw [e, List.getElem_take, List.getElem?_eq_getElem (by omega)]
  · rw [List.take_set_of_le (by omega)] at gt
    rw [← gt, ft] at g16
    exact hne (getI_same (i := 16) (by omega) (by omega) (g16.trans f16.symm) k h5 (by omega))
/-- What Right asks. -/
def rightR (L P E s : Int) : Bool := decide (1 ≤ L ∧ L ≤ 64 ∧ 1 ≤ P ∧ P ≤ 64 ∧ 2 + L + P ≤ s ∧ 1 ≤ E)
theorem rightR_true {L P E s : Int} : rightR L P E s = true ↔ (1 ≤ L ∧ L ≤ 64 ∧ 1 ≤ P ∧ P ≤ 64 ∧ 2 + L + P ≤ s ∧ 1 ≤ E) := by unfold rightR; exact decide_eq_true_iff
theorem rightR_false {L P E s : Int} : rightR L P E s = false ↔ ¬ (1 ≤ L ∧ L ≤ 64 ∧ 1 ≤ P ∧ P ≤ 64 ∧ 2 + L + P ≤ s ∧ 1 ≤ E) := by unfold rightR; exact decide_eq_false_iff_not
/-- The numbers of a root. -/
structure RV where
  log : Nat
  pages : Nat
  epoch : Nat
def RV.zero : RV := ⟨0, 0, 0⟩
/-- The best so far and one more. -/
def bestStep (n : Int) (o : RV) (l : List UInt8) : RV :=
  if isRoot l ∧ rightR (getI l 4) (getI l 8) (getI l 12) n = true ∧ o.epoch < getI l 12 then ⟨getI l 4, getI l 8, getI l 12⟩ else o
def bestOf (n : Int) (a b : List UInt8) : RV := bestStep n (bestStep n RV.zero a) b
theorem bestStep_lt {n : Int} {o : RV} {l : List UInt8} (h : o.log < 4294967296 ∧ o.pages < 4294967296 ∧ o.epoch < 4294967296) : (bestStep n o l).log < 4294967296 ∧ (bestStep n o l).pages < 4294967296 ∧ (bestStep n o l).epoch < 4294967296 := by
  unfold bestStep
  split
  · exact ⟨getI_lt _ _, getI_lt _ _, getI_lt _ _⟩
  · exact h
/-- The i-th sector of S, or none. -/
def sectL (S : List UInt8) (n i : Nat) : List UInt8 := if i < n then (S.drop (i * 64)).take 64 else []
theorem nil_no : ¬ isRoot [] := fun h => by have := isRoot_len h; simp at this
end Go.Proofs.Ytlhkmbcjgdjegaa
namespace Go.Proofs.Ytlhkmbcjgdjegaa
open Go.RowKit
theorem str_ne {l m : List UInt8} : ((strOf l).toList == (strOf m).toList) = decide (l = m) := by
  rw [ByteArray.toList_eq, ByteArray.toList_eq]
  show (l == m) = decide (l = m)
  by_cases h : l = m
  · subst h; simp
  · rw [decide_eq_false h, beq_eq_false_iff_ne]; exact h
section
variable {w : World} {A A2 : Option Addr} {n c n2 c2 : Nat}
set_option maxHeartbeats 1000000 in
theorem bequal_any {l m : List UInt8} (h : Bs w A n c l) (h2 : Bs w A2 n2 c2 m) :
    Calls Try.prog 67 #[.slice A n c, .slice A2 n2 c2] w fun e w' => e = .returned (.bool (decide (l = m))) ∧ w = w' := by
  have v1 := h.str (P := Try.prog) 22 5 9 Try.underlying22 Try.underlying5 Try.underlying9
  have v2 := h2.str (P := Try.prog) 22 5 9 Try.underlying22 Try.underlying5 Try.underlying9
  have HE := Lib.hid (str_ne (l := l) (m := m))
  go_enter Try.func67, Try.ntmps67
  go_wp2_with fail
  go_ret
  exact ⟨by rw [← HE.out]; rfl, rfl⟩
end
end Go.Proofs.Ytlhkmbcjgdjegaa
namespace Go.Proofs.Ytlhkmbcjgdjegaa
open Go.RowKit
theorem zeroCells_one (z : Value) (n : Nat) : Builtin.zeroCells #[z] n = (List.replicate n z).toArray := by
  apply Array.ext
  · simp [Builtin.zeroCells]
  · intro i h1 h2
    simp [Builtin.zeroCells, Nat.mod_one]
theorem run_append_zeros {P : Program} (w : World) (base : Nat) (t tn ty e : TypeId) (i : TypeInfo) (z : Value) (bytes : Nat) (kn : IntKind) (ht : P.underlying t = some (.slice e)) (htn : P.underlying tn = some (.int kn)) (hi : P.info? e = some i) (hz : i.zero = some z)
    (hsize : i.size = 1) (hby : i.bytes = bytes) (hzc : z.cells = #[z]) (hz1 : z.oneCell' = true)
    (g n cap : Nat) (xs : List Value) (hown : w.ownsRow base e 1 (.slice (some ⟨g, 0, none⟩) n cap) n xs)
    (k : Nat) (h63 : n + k ≤ maxLen) (hbytes : (n + k) * bytes ≤ 140737488355328) (hbase : base ≤ w.heap.size) :
    ∃ g' cap' w', (Builtin.append_ #[t, tn] ty #[.slice (some ⟨g, 0, none⟩) n cap, .int .i64 (k : Int)]).run P w = .ok (.slice (some ⟨g', 0, none⟩) (n + k) cap') w' ∧
      w'.ownsRow base e 1 (.slice (some ⟨g', 0, none⟩) (n + k) cap') (n + k) (xs ++ List.replicate k z) ∧ w.grownBy w' (some g) ∧ (g' = g ∨ g' = w.heap.size) := by
  have hsmall : n + k ≤ 9223372036854775807 := by simpa only [maxLen] using h63
  have hw : IntKind.i64.wrap (k : Int) = k := by rw [IntKind.wrap_i64]; omega
  have hneg : ¬ ((k : Int) < 0) := by omega
  have h48 : k * bytes ≤ 281474976710656 := by have : k * bytes ≤ (n + k) * bytes := Nat.mul_le_mul_right _ (by omega); omega
  have h48i : ¬ (281474976710656 < (k : Int) * (i.bytes : Int)) := by rw [hby, ← Int.natCast_mul]; omega
  have hlx := hown.1
  rcases hown.2 with ⟨h, _⟩ | ⟨g', cap', cur, h, hbg, hg, hnc, hcm, hcs, htake⟩
  · simp at h
  · simp only [Value.slice.injEq, Option.some.injEq, Addr.mk.injEq, and_true, true_and] at h
    obtain ⟨rfl, rfl⟩ := h
    rw [Nat.mul_one] at hcs htake hlx
    by_cases hk0 : k = 0
    · subst hk0
      refine ⟨g, cap, w, ?_, by simpa using hown, World.grownBy.refl w _, .inl rfl⟩
      have hw0 : IntKind.i64.wrap 0 = 0 := by decide
      simp [Builtin.append_, run_underlying ht, run_underlying htn, sizeOf, typeInfo, hi, asInt, asIntOf, storeCells, hnc, hw0]
    · have hns : ¬ (k * i.size = 0) := by rw [hsize]; omega
      by_cases hroom : n + k ≤ cap
      · have hfit : n + (List.replicate k z).length ≤ cur.size := by rw [List.length_replicate]; omega
        have hst := run_storeCells_at P g n e (List.replicate k z) 0 cur w hg (by simpa using hfit) (fun u hu => by rw [(List.mem_replicate.1 hu).2]; exact hz1)
        simp only [Nat.add_zero] at hst
        rw [List.length_replicate] at hst
        have hr : (Builtin.append_ #[t, tn] ty #[.slice (some ⟨g, 0, none⟩) n cap, .int .i64 (k : Int)]).run P w = .ok (.slice (some ⟨g, 0, none⟩) (n + k) cap) (w.setRow g (cur.toList.take n ++ List.replicate k z ++ cur.toList.drop (n + k)).toArray) := by
          simp [Builtin.append_, run_underlying ht, run_underlying htn, sizeOf, typeInfo, zeroValue, hi, hz, asInt, asIntOf, hw, hneg, h48i, hk0, hroom, hsize, hzc, zeroCells_one, Addr.add_lit, hst]
        refine ⟨_, _, _, hr, ⟨by simp [hlx], .inr ⟨g, cap, _, rfl, hbg, setRow_heap w g cur _ e _ hg, hroom, hcm, ?_, ?_⟩⟩, ⟨rfl, rfl, rfl, by simp, fun j _ hj => setRow_other w g j _ (fun e => hj (by simp [e]))⟩, .inl rfl⟩
        · simp only [List.size_toArray, List.length_append, List.length_take, List.length_drop, Array.length_toList, List.length_replicate]
          omega
        · rw [htake, Nat.mul_one]
          have e1 : (xs ++ List.replicate k z).length = n + k := by rw [List.length_append, List.length_replicate, hlx]
          rw [← e1]
          exact List.take_left
      · have hf := run_firstCells_some (P := P) w.drew i.size n ⟨g, 0, none⟩ n cap xs (by rw [hsize, Nat.mul_one]; exact hlx) (fun j u hj => hown.cells (g := g) rfl j u hj)
        have hr := Lib.run_append_grow_zeros (P := P) w t tn ty e i z .i64 kn ht htn hi hz (some ⟨g, 0, none⟩) n cap xs hf k (by omega) (by omega) (by omega) (by omega) (by rw [hby]; exact h48) (by rw [hby]; exact growslice_fits (by omega) hbytes)
        rw [hzc, zeroCells_one, zeroCells_one] at hr
        have hge := grownCap_ge w (n + k) cap e
        have hcm2 : grownCap w (n + k) cap e ≤ maxLen := grownCap_le_maxLen w (n + k) cap e h63
        refine ⟨_, _, _, hr, ⟨by simp [hlx], .inr ⟨w.heap.size, _, _, rfl, hbase, heap_alloc_new w.drew _, hge, hcm2, ?_, ?_⟩⟩, ⟨rfl, rfl, rfl, by simp, fun j hj _ => Below.heap_alloc w.drew _ j hj⟩, .inr rfl⟩
        · simp only [Array.size_append, List.size_toArray, List.length_replicate, hlx]
          omega
        · simp only [Array.toList_append, Nat.mul_one]
          have e1 : (xs ++ List.replicate k z).length = n + k := by rw [List.length_append, List.length_replicate, hlx]
          rw [← e1]
          exact List.take_left
end Go.Proofs.Ytlhkmbcjgdjegaa
namespace Go.Proofs.Ytlhkmbcjgdjegaa
open Go.RowKit
theorem root_cells {W : World} {g : Nat} {x y z : Value} (h : Whole W g 26 [x, y, z]) : W.cell? ⟨g, 0, none⟩ = some x ∧ W.cell? ⟨g, 1, none⟩ = some y ∧ W.cell? ⟨g, 2, none⟩ = some z ∧ W.frozen? ⟨g, 0, none⟩ = false ∧ W.frozen? ⟨g, 1, none⟩ = false ∧ W.frozen? ⟨g, 2, none⟩ = false :=
  ⟨h.cell 0, h.cell 1, h.cell 2, h.frozen 0, h.frozen 1, h.frozen 2⟩
def homeI (L P page : Int) : Int := if page < 0 ∨ P ≤ page then -1 else wrap64 (wrap64 (2 + L) + page)
section
variable {w : World}
set_option maxHeartbeats 1000000 in
theorem rright_any (L P E s : Int) : Calls Try.prog 99 #[rootV L P E, .int .i64 s] w (BoolPost (rightR L P E s) w) := by
  unfold rootV
  by_cases h1 : L < 1
  · have HF := Lib.hid (show rightR L P E s = false from rightR_false.2 (by omega))
    have hd : decide (L < 1) = true := by simpa using h1
    go_enter Try.func99, Try.ntmps99
    go_wp2_with fail
    go_ret
    exact ⟨by rw [HF.out]; rfl, (Chg.refl _ _).alloc _⟩
  have hd1 : decide (L < 1) = false := by simpa using h1
  by_cases h2 : 64 < L
  · have HF := Lib.hid (show rightR L P E s = false from rightR_false.2 (by omega))
    go_enter Try.func99, Try.ntmps99
    go_wp2_with fail
    go_ret
    exact ⟨by rw [HF.out]; rfl, (Chg.refl _ _).alloc _⟩
  have hd2 : decide (64 < L) = false := by simpa using h2
  by_cases h3 : P < 1
  · have HF := Lib.hid (show rightR L P E s = false from rightR_false.2 (by omega))
    go_enter Try.func99, Try.ntmps99
    go_wp2_with fail
    go_ret
    exact ⟨by rw [HF.out]; rfl, (Chg.refl _ _).alloc _⟩
  have hd3 : decide (P < 1) = false := by simpa using h3
  by_cases h4 : 64 < P
  · have HF := Lib.hid (show rightR L P E s = false from rightR_false.2 (by omega))
    go_enter Try.func99, Try.ntmps99
    go_wp2_with fail
    go_ret
    exact ⟨by rw [HF.out]; rfl, (Chg.refl _ _).alloc _⟩
  have hd4 : decide (64 < P) = false := by simpa using h4
  have b1 : 1 ≤ L := by omega
  have b2 : L ≤ 64 := by omega
  have b3 : 1 ≤ P := by omega
  have b4 : P ≤ 64 := by omega
  by_cases h5 : 2 + L + P ≤ s
  · have hd5 : decide (2 + L + P ≤ s) = true := by simpa using h5
    have HF := Lib.hid (show rightR L P E s = decide (1 ≤ E) from by unfold rightR; congr 1; apply propext; omega)
    go_enter Try.func99, Try.ntmps99
    go_wp2_with fail
    go_ret
    exact ⟨by rw [HF.out]; rfl, (Chg.refl _ _).alloc _⟩
  · have hd5 : decide (2 + L + P ≤ s) = false := by simpa using h5
    have HF := Lib.hid (show rightR L P E s = false from rightR_false.2 (by omega))
    go_enter Try.func99, Try.ntmps99
    go_wp2_with fail
    go_ret
    exact ⟨by rw [HF.out]; rfl, (Chg.refl _ _).alloc _⟩
set_option maxHeartbeats 1000000 in
theorem rrright_any (L P E s : Int) : Calls Try.prog 49 #[rootV L P E, .int .i64 s] w (BoolPost (rightR L P E s) w) := by
  unfold rootV
  by_cases h1 : 1 ≤ L
  rotate_left
  · have HF := Lib.hid (show rightR L P E s = false from rightR_false.2 (by omega))
    have hd : decide (1 ≤ L) = false := by simpa using h1
    go_enter Try.func49, Try.ntmps49
    go_wp2_with fail
    go_ret
    exact ⟨by rw [HF.out]; rfl, (Chg.refl _ _).alloc _⟩
  by_cases h2 : L ≤ 64
  rotate_left
  · have HF := Lib.hid (show rightR L P E s = false from rightR_false.2 (by omega))
    have hd : decide (L ≤ 64) = false := by simpa using h2
    go_enter Try.func49, Try.ntmps49
    go_wp2_with fail
    go_ret
    exact ⟨by rw [HF.out]; rfl, (Chg.refl _ _).alloc _⟩
  by_cases h3 : 1 ≤ P
  rotate_left
  · have HF := Lib.hid (show rightR L P E s = false from rightR_false.2 (by omega))
    have hd : decide (1 ≤ P) = false := by simpa using h3
    go_enter Try.func49, Try.ntmps49
    go_wp2_with fail
    go_ret
    exact ⟨by rw [HF.out]; rfl, (Chg.refl _ _).alloc _⟩
  by_cases h4 : P ≤ 64
  rotate_left
  · have HF := Lib.hid (show rightR L P E s = false from rightR_false.2 (by omega))
    have hd : decide (P ≤ 64) = false := by simpa using h4
    go_enter Try.func49, Try.ntmps49
    go_wp2_with fail
    go_ret
    exact ⟨by rw [HF.out]; rfl, (Chg.refl _ _).alloc _⟩
  by_cases h5 : 2 + L + P ≤ s
  · have hd5 : decide (2 + L + P ≤ s) = true := by simpa using h5
    have HF := Lib.hid (show rightR L P E s = decide (1 ≤ E) from by unfold rightR; congr 1; apply propext; omega)
    go_enter Try.func49, Try.ntmps49
    go_wp2_with fail
    go_ret
    exact ⟨by rw [HF.out]; rfl, (Chg.refl _ _).alloc _⟩
  · have hd5 : decide (2 + L + P ≤ s) = false := by simpa using h5
    have HF := Lib.hid (show rightR L P E s = false from rightR_false.2 (by omega))
    go_enter Try.func49, Try.ntmps49
    go_wp2_with fail
    go_ret
    exact ⟨by rw [HF.out]; rfl, (Chg.refl _ _).alloc _⟩
set_option maxHeartbeats 1000000 in
theorem home_any (L P E page : Int) : Calls Try.prog 59 #[rootV L P E, .int .i64 page] w fun e w' => e = .returned (.int .i64 (homeI L P page)) ∧ Chg [] w w' := by
  unfold rootV
  by_cases h1 : page < 0
  · have HF := Lib.hid (show homeI L P page = -1 by unfold homeI; rw [if_pos (.inl h1)])
    go_enter Try.func59, Try.ntmps59
    go_wp2_with fail
    go_ret
    exact ⟨ret_int' HF.out.symm, (Chg.refl _ _).alloc _⟩
  have hd1 : decide (page < 0) = false := by simpa using h1
  by_cases h2 : P ≤ page
  · have HF := Lib.hid (show homeI L P page = -1 by unfold homeI; rw [if_pos (.inr h2)])
    go_enter Try.func59, Try.ntmps59
    go_wp2_with fail
    go_ret
    exact ⟨ret_int' HF.out.symm, (Chg.refl _ _).alloc _⟩
  · have hd2 : decide (P ≤ page) = false := by simpa using h2
    have HF := Lib.hid (show homeI L P page = wrap64 (wrap64 (2 + L) + page) by unfold homeI; rw [if_neg (by omega)])
    go_enter Try.func59, Try.ntmps59
    go_wp2_with fail
    go_ret
    exact ⟨ret_int' HF.out.symm, (Chg.refl _ _).alloc _⟩
set_option maxHeartbeats 1000000 in
theorem rhome_any (L P E page : Int) : Calls Try.prog 51 #[rootV L P E, .int .i64 page] w fun e w' => e = .returned (.int .i64 (homeI L P page)) ∧ Chg [] w w' := by
  unfold rootV
  by_cases h1 : page < 0
  · have HF := Lib.hid (show homeI L P page = -1 by unfold homeI; rw [if_pos (.inl h1)])
    go_enter Try.func51, Try.ntmps51
    go_wp2_with fail
    go_ret
    exact ⟨ret_int' HF.out.symm, (Chg.refl _ _).alloc _⟩
  have hd1 : decide (page < 0) = false := by simpa using h1
  by_cases h2 : P ≤ page
  · have HF := Lib.hid (show homeI L P page = -1 by unfold homeI; rw [if_pos (.inr h2)])
    go_enter Try.func51, Try.ntmps51
    go_wp2_with fail
    go_ret
    exact ⟨ret_int' HF.out.symm, (Chg.refl _ _).alloc _⟩
  · have hd2 : decide (P ≤ page) = false := by simpa using h2
    have HF := Lib.hid (show homeI L P page = wrap64 (wrap64 (2 + L) + page) by unfold homeI; rw [if_neg (by omega)])
    go_enter Try.func51, Try.ntmps51
    go_wp2_with fail
    go_ret
    exact ⟨ret_int' HF.out.symm, (Chg.refl _ _).alloc _⟩
end
end Go.Proofs.Ytlhkmbcjgdjegaa
namespace Go.Proofs.Ytlhkmbcjgdjegaa
open Go.RowKit
set_option maxHeartbeats 400000 in
theorem dsector_any {w : World} {g n c : Nat} (k : Nat) (h : 64 * (k + 1) ≤ n) (hc : n ≤ c) (hn : c ≤ 1000000) :
    Calls Try.prog 98 #[.slice (some ⟨g, 0, none⟩) n c, .int .i64 (k : Int)] w fun e w' => e = .returned (.slice (some ⟨g, k * 64, none⟩) 64 (c - k * 64)) ∧ w = w' := by
  go_enter Try.func98, Try.ntmps98
  go_wp2_with fail
  go_ret
  exact ⟨by show Ending.returned (.slice _ ((k + 1) * 64 - k * 64) _) = _; rw [show (k + 1) * 64 - k * 64 = 64 by omega], rfl⟩

section
variable {w : World} {p bL bS bW : Nat} {L S : List UInt8} {V : List Bool}
set_option maxHeartbeats 400000 in
theorem image_any (h : Dsk w p bL bS bW L S V) :
    Calls Try.prog 95 #[.pointer (some ⟨p, 0, none⟩)] w fun e w' => e = .returned (.slice (some ⟨w.heap.size, 0, none⟩) L.length L.length) ∧ Whole w' w.heap.size 5 (bts L) ∧ Chg [] w w' := by
  have c0 := h.rec_.cell 0
  have hb := h.lenL
  have hv := h.le
  have hlt : L.length ≤ 1000000 := by omega
  clear hb
  go_enter Try.func95, Try.ntmps95
  go_wp2_with (go_at_call 60; refine (fresh_any (bts_len L) (Src.of_all h.last) (bts_one L) hlt).mono ?_; rintro e w1 ⟨rfl, HB, HC⟩)
  go_ret
  exact ⟨rfl, HB, HC⟩
set_option maxHeartbeats 400000 in
theorem seen_any (h : Dsk w p bL bS bW L S V) :
    Calls Try.prog 23 #[.pointer (some ⟨p, 0, none⟩)] w fun e w' => e = .returned (.slice (some ⟨w.heap.size, 0, none⟩) S.length S.length) ∧ Whole w' w.heap.size 5 (bts S) ∧ Chg [] w w' := by
  have c0 := h.rec_.cell 1
  have hb := h.lenS
  have hv := h.le
  have hlt : S.length ≤ 1000000 := by omega
  clear hb
  go_enter Try.func23, Try.ntmps23
  go_wp2_with (go_at_call 60; refine (fresh_any (bts_len S) (Src.of_all h.seen) (bts_one S) hlt).mono ?_; rintro e w1 ⟨rfl, HB, HC⟩)
  go_ret
  exact ⟨rfl, HB, HC⟩
end
end Go.Proofs.Ytlhkmbcjgdjegaa
namespace Go.Proofs.Ytlhkmbcjgdjegaa
open Go.RowKit
section
variable {w : World} {p bL bS bW : Nat} {L S : List UInt8} {V : List Bool}

set_option maxHeartbeats 400000 in
theorem write_no (h : Dsk w p bL bS bW L S V) (i : Int) (A : Option Addr) (n c : Nat) (hi : i < 0 ∨ (V.length : Int) ≤ i ∨ n ≠ 64) :
    Calls Try.prog 58 #[.pointer (some ⟨p, 0, none⟩), .int .i64 i, .slice A n c] w fun e w' => e = .returned (.bool false) ∧ w = w' := by
  by_cases hok : 0 ≤ i ∧ i < V.length
  · obtain ⟨h0, h1⟩ := hok
    have hd : ((n : Int) != 64) = true := by simp; omega
    clear hi
    go_enter Try.func58, Try.ntmps58
    go_wp2_with (go_at_call 97; refine (has_yes h i h0 h1).mono ?_; rintro e w' ⟨rfl, rfl⟩)
    go_ret
    exact ⟨rfl, rfl⟩
  · have h2 : i < 0 ∨ (V.length : Int) ≤ i := by omega
    clear hi hok
    go_enter Try.func58, Try.ntmps58
    go_wp2_with (go_at_call 97; refine (has_no h i h2).mono ?_; rintro e w' ⟨rfl, rfl⟩)
    go_ret
    exact ⟨rfl, rfl⟩

theorem write_end {w2 : World} {k : Nat} {x : List UInt8} (h : Dsk w p bL bS bW L S V) (hk : k < V.length) (hx : x.length = 64) (HC : Chg [bS] w w2) (HG : Whole w2 bS 5 (splice (bts S) (k * 64) (bts x))) :
    Dsk (w2.setCell ⟨bW, k, none⟩ (.bool true)) p bL bS bW L (splice S (k * 64) x) (V.set k true) ∧ Chg [bS, bW] w (w2.setCell ⟨bW, k, none⟩ (.bool true)) := by
  have s1 : 64 * (k + 1) ≤ S.length := by have := h.lenS; omega
  have eS : (splice S (k * 64) x).length = S.length := length_splice _ _ _ (by omega)
  rw [bts_splice] at HG
  have d0 := h.rec_.ne_ h.seen (by decide)
  have d1 := h.rec_.ne_ h.wait (by decide)
  have d2 := h.last.ne_ h.wait (by decide)
  have d3 := h.seen.ne_ h.wait (by decide)
  have V2 := h.wait.chg HC (by simpa using fun e => d3 e.symm)
  have hw : Whole (w2.setCell ⟨bW, k, none⟩ (.bool true)) bW 4 (bls (V.set k true)) := by
    have := V2.set_ k (.bool true)
    rwa [bls_set] at this
  refine ⟨⟨?_, (h.last.chg HC (by simpa using h.ne)).far d2 _, HG.far d3 _, hw, by rw [List.length_set]; exact h.lenL, by rw [eS, List.length_set]; exact h.lenS, by rw [List.length_set]; exact h.pos, by rw [List.length_set]; exact h.le, h.ne⟩, ?_⟩
  · rw [eS, List.length_set]
    exact (h.rec_.chg HC (by simpa using d0)).far d1 _
  · exact (HC.sub (T' := [bS, bW]) (by simp)).setCell (by simp) _

set_option maxHeartbeats 1000000 in
theorem write_yes (h : Dsk w p bL bS bW L S V) (k : Nat) (hk : k < V.length) {A : Option Addr} {c : Nat} {x : List UInt8} (hx : x.length = 64) (hs : Src w A (bts x)) :
    Calls Try.prog 58 #[.pointer (some ⟨p, 0, none⟩), .int .i64 (k : Int), .slice A 64 c] w fun e w' => e = .returned (.bool true) ∧
      Dsk w' p bL bS bW L (splice S (k * 64) x) (V.set k true) ∧ Chg [bS, bW] w w' := by
  have c1 := h.rec_.cell 1
  have hS := h.lenS
  have hv := h.le
  have s1 : 64 * (k + 1) ≤ S.length := by omega
  have s2 : S.length ≤ 1000000 := by omega
  clear hS
  have hfit : k * 64 + (bts x).length ≤ (bts S).length := by rw [bts_len, bts_len]; omega
  have Hn := Lib.hid (show (bts x).length = Nat.min 64 64 by rw [bts_len, hx]; rfl)
  have Hx := Lib.hid hx
  have b1 := bts_one x
  have n2 := Lib.hid (show p ∉ [bS] by simpa using h.rec_.ne_ h.seen (by decide))
  have n3 := Lib.hid (show bW ∉ [bS] by simpa using h.wait.ne_ h.seen (by decide))
  obtain ⟨Y, hY⟩ : ∃ Y, Y = bts x := ⟨_, rfl⟩
  have HY := Lib.hid hY
  rw [← hY] at hfit Hn b1 hs
  clear hx hY
  go_enter Try.func58, Try.ntmps58
  go_wp2_with (first
    | (go_at_call 97; refine (has_yes h _ (by omega) (by omega)).mono ?_; rintro e w' ⟨rfl, rfl⟩)
    | (go_at_call 98; refine (dsector_any k s1 (Nat.le_refl _) s2).mono ?_; rintro e w' ⟨rfl, rfl⟩)
    | (with_reducible refine wpList_copy_chg rfl (.tmp 21) (.tmp 22) _ _ rfl 5 Try.underlying22 size_u8 (some ⟨bS, k * 64, none⟩) A 64 (S.length - k * 64) 64 c rfl rfl bS (k * 64) 5 (bts S) Y h.seen Hn.out (fun _ => rfl) hs hfit b1 ?_
       intro w2 HG HC
       have R2 := h.rec_.chg HC n2.out
       have V2 := h.wait.chg HC n3.out
       have c2 := R2.cell 2
       have c4 := (V2.cell k).trans (bls_get V k hk)
       have c5 := V2.frozen k))
  go_ret
  rw [HY.out] at HG
  exact ⟨rfl, write_end h hk Hx.out HC HG⟩

set_option maxHeartbeats 400000 in
theorem read_no (h : Dsk w p bL bS bW L S V) (i : Int) (hi : i < 0 ∨ (V.length : Int) ≤ i) :
    Calls Try.prog 56 #[.pointer (some ⟨p, 0, none⟩), .int .i64 i] w fun e w' => e = .returned (.tuple #[.slice none 0 0, .bool false]) ∧ w = w' := by
  go_enter Try.func56, Try.ntmps56
  go_wp2_with (go_at_call 97; refine (has_no h i hi).mono ?_; rintro e w' ⟨rfl, rfl⟩)
  go_ret2
  exact ⟨rfl, rfl⟩

set_option maxHeartbeats 1000000 in
theorem read_yes (h : Dsk w p bL bS bW L S V) (k : Nat) (hk : k < V.length) :
    Calls Try.prog 56 #[.pointer (some ⟨p, 0, none⟩), .int .i64 (k : Int)] w fun e w' => e = .returned (.tuple #[.slice (some ⟨w.heap.size, 0, none⟩) 64 64, .bool true]) ∧
      Whole w' w.heap.size 5 (bts ((S.drop (k * 64)).take 64)) ∧ Chg [] w w' := by
  have c1 := h.rec_.cell 1
  have hS := h.lenS
  have hv := h.le
  have s1 : 64 * (k + 1) ≤ S.length := by omega
  have s2 : S.length ≤ 1000000 := by omega
  clear hS
  have hl : (bts ((S.drop (k * 64)).take 64)).length = 64 := by rw [bts_len, List.length_take, List.length_drop]; omega
  have Hl := Lib.hid hl
  have hsr : Src w (some ⟨bS, k * 64, none⟩) (bts ((S.drop (k * 64)).take 64)) := by rw [← bts_cut]; exact Src.of_whole h.seen _ _
  have b1 := bts_one ((S.drop (k * 64)).take 64)
  obtain ⟨Y, hY⟩ : ∃ Y, Y = bts ((S.drop (k * 64)).take 64) := ⟨_, rfl⟩
  rw [← hY] at Hl hsr b1
  rw [← hY]
  clear hl hY
  go_enter Try.func56, Try.ntmps56
  go_wp2_with (first
    | (go_at_call 97; refine (has_yes h _ (by omega) (by omega)).mono ?_; rintro e w' ⟨rfl, rfl⟩)
    | (go_at_call 98; refine (dsector_any k s1 (Nat.le_refl _) s2).mono ?_; rintro e w' ⟨rfl, rfl⟩)
    | (go_at_call 60; refine (fresh_any Hl.out hsr b1 (by omega)).mono ?_; rintro e w2 ⟨rfl, HB, HC⟩))
  go_ret2
  exact ⟨rfl, HB, HC⟩
end
end Go.Proofs.Ytlhkmbcjgdjegaa
namespace Go.Proofs.Ytlhkmbcjgdjegaa
open Go.RowKit

def sizeI (L : Int) : Int := if L < 1 ∨ 64 < L then 0 else L * 64
def leftI (L u : Int) : Int := max (sizeI L - max u 0) 0
def fitsB (L u n : Int) : Bool := decide (0 < needI n) && decide (needI n ≤ leftI L u)
def mostI (L P : Int) : Int := if P < 0 ∨ L < 1 ∨ 64 < L then -1 else min (min P 64) ((64 * L - 18) / 66)
theorem needI_bd (n : Int) : 0 ≤ needI n ∧ needI n ≤ 4242 := by unfold needI; split <;> omega
theorem sizeI_bd (L : Int) : 0 ≤ sizeI L ∧ sizeI L ≤ 4096 := by unfold sizeI; split <;> omega
theorem leftI_bd (L u : Int) : 0 ≤ leftI L u ∧ leftI L u ≤ 4096 := by unfold leftI; have := sizeI_bd L; omega
theorem fits_most (L n : Int) (h0 : 0 ≤ n) : fitsB L 0 n = true ↔ (1 ≤ L ∧ L ≤ 64 ∧ n ≤ 64 ∧ n ≤ (64 * L - 18) / 66) := by
  unfold fitsB leftI sizeI needI
  simp only [Bool.and_eq_true, decide_eq_true_eq]
  split <;> split <;> omega
section
variable {w : World}
set_option maxHeartbeats 400000 in
theorem size_any (L P E : Int) (hL : L ≤ 9223372036854775807) : Calls Try.prog 81 #[rootV L P E] w fun e w' => e = .returned (.int .i64 (sizeI L)) ∧ Chg [] w w' := by
  unfold rootV
  by_cases h0 : L < 1
  · go_enter Try.func81, Try.ntmps81
    go_wp2_with fail
    go_ret
    exact ⟨ret_int' (by unfold sizeI; rw [if_pos (.inl h0)]), (Chg.refl _ _).alloc _⟩
  · have hd : decide (L < 1) = false := by simpa using h0
    by_cases h1 : 64 < L
    · go_enter Try.func81, Try.ntmps81
      go_wp2_with fail
      go_ret
      exact ⟨ret_int' (by unfold sizeI; rw [if_pos (.inr h1)]), (Chg.refl _ _).alloc _⟩
    · have h2 : 1 ≤ L := by omega
      have h3 : L ≤ 64 := by omega
      go_enter Try.func81, Try.ntmps81
      go_wp2_with fail
      go_ret
      exact ⟨ret_int' (by unfold sizeI; rw [if_neg (by omega)]), (Chg.refl _ _).alloc _⟩
theorem root_load {W : World} {g : Nat} {L P E : Int} (h : Whole W g 26 [.int .i64 L, .int .i64 P, .int .u32 E]) :
    W.cell? ⟨g, 0, none⟩ = some (.int .i64 L) ∧ W.cell? ⟨g, 1, none⟩ = some (.int .i64 P) ∧ W.cell? ⟨g, 2, none⟩ = some (.int .u32 E) := ⟨h.cell 0, h.cell 1, h.cell 2⟩

theorem most_iff (L P k : Int) (h0 : 0 ≤ k) (h1 : k ≤ P) (h2 : k ≤ 64) : fitsB L 0 k = true ↔ k ≤ mostI L P := by
  rw [fits_most L k h0]
  unfold mostI
  split <;> omega
theorem most_bd (L P : Int) : -1 ≤ mostI L P ∧ mostI L P ≤ max P (-1) ∧ mostI L P ≤ 64 := by
  unfold mostI
  split <;> omega

end
end Go.Proofs.Ytlhkmbcjgdjegaa
namespace Go.Proofs.Ytlhkmbcjgdjegaa
open Go.RowKit
/-- The log's bytes, or none. -/
def logL (s : St) (L P E : Int) : List UInt8 := if rightR L P E s.V.length = true then logB s L.toNat else []
section
variable {w : World} {p bL bS bW : Nat} {s : St}
set_option maxHeartbeats 1000000 in
set_option maxRecDepth 100000 in
theorem parts_any (h : DskS w p bL bS bW s) (L P E : Int) :
    Calls Try.prog 80 #[.pointer (some ⟨p, 0, none⟩), rootV L P E] w (BoolPost (rightR L P E s.V.length) w) := by
  have hr0 : rootV L P E = .agg #[.int .i64 L, .int .i64 P, .int .u32 E] := rfl
  rw [hr0]
  go_enter Try.func80, Try.ntmps80
  go_wp2_with fail
  have hR := Whole.new w 26 [.int .i64 L, .int .i64 P, .int .u32 E]
  have hc1 : Chg [] w (w.alloc (.cells #[.int .i64 L, .int .i64 P, .int .u32 E] 26)) := (Chg.refl [] w).alloc _
  obtain ⟨g, hg⟩ : ∃ g, g = w.heap.size := ⟨_, rfl⟩
  rw [← hg] at hR ⊢
  generalize w.alloc (.cells #[.int .i64 L, .int .i64 P, .int .u32 E] 26) = w1 at hc1 hR ⊢
  clear hg
  have hld := fun (W : World) (hW : Chg [] w1.drew W) => root_cells (hR.drew.keep hW)
  have kd : ∀ W, Chg [] w1.drew W → DskS W p bL bS bW s := fun W hW => (Dsk.keep h hc1.drew).keep hW
  refine wp_flow (by kernel_rfl) plainT plainT_ok (by kernel_rfl) ?_
  refine flow_move_out plainT_ok rfl rfl rfl ?_
  refine flow2 (r := .bool true) plainT_ok rfl (.inn rfl) (.const _) rfl (fun ev W he e1 e2 => by go_simp) ?_
  refine flow_move plainT_ok rfl (keeps_isV _) (.inr (keeps_isV _)) rfl ?_
  refine flow1h (r := rootV L P E) plainT_ok rfl (.out rfl rfl) rfl (fun ev W he hW e1 => by obtain ⟨c0, c1, c2, _, _, _⟩ := hld W hW; go_simp) ?_
  refine flow_move_out plainT_ok rfl rfl rfl ?_
  refine flow_callv (.int .i64 (s.V.length : Int)) (by kernel_rfl) rfl (.cons (.inn rfl) .nil) (fun W hW => (len_any (kd W hW)).mono ?_) ?_
  · rintro e w' ⟨rfl, rfl⟩; exact ⟨rfl, Chg.refl _ _⟩
  refine flow_callv (.bool (rightR L P E s.V.length)) (by kernel_rfl) rfl (.cons (.inn rfl) (.cons (.inn rfl) .nil)) (fun W hW => (rright_any _ _ _ _).mono ?_) ?_
  · rintro e w' ⟨rfl, hc⟩; exact ⟨rfl, hc⟩
  refine flow_and plainT_ok rfl rfl rfl ?_
  refine flow_assign plainT_ok rfl (keeps_isV _) (.inr (keeps_isV _)) rfl ?_
  intro vs W hW hF
  have e4 : vs 4 = .bool (rightR L P E s.V.length) := hF 4 _ rfl rfl
  simp only [putAll, Act.put, List.setIfInBounds_toArray, List.set_cons_zero, List.set_cons_succ, e4]
  have HCW := Lib.hid (hc1.new (wdrew hW))
  clear hW hF hld hR hc1 kd e4
  go_wp2_with fail
  go_ret
  exact ⟨rfl, HCW.out⟩
set_option maxHeartbeats 1000000 in
theorem parts_nil (L P E : Int) : Calls Try.prog 80 #[.pointer none, rootV L P E] w (BoolPost false w) := by
  have hr0 : rootV L P E = .agg #[.int .i64 L, .int .i64 P, .int .u32 E] := rfl
  rw [hr0]
  go_enter Try.func80, Try.ntmps80
  go_wp2_with fail
  have hc1 : Chg [] w (w.alloc (.cells #[.int .i64 L, .int .i64 P, .int .u32 E] 26)) := (Chg.refl [] w).alloc _
  generalize w.alloc (.cells #[.int .i64 L, .int .i64 P, .int .u32 E] 26) = w1 at hc1 ⊢
  refine wp_flow (by kernel_rfl) plainT plainT_ok (by kernel_rfl) ?_
  refine flow_move_out plainT_ok rfl rfl rfl ?_
  refine flow2 (r := .bool false) plainT_ok rfl (.inn rfl) (.const _) rfl (fun ev W he e1 e2 => by go_simp) ?_
  refine flow_move plainT_ok rfl (keeps_isV _) (.inr (keeps_isV _)) rfl ?_
  refine flow_skip rfl ?_
  refine flow_skip rfl ?_
  refine flow_skip rfl ?_
  refine flow_skip rfl ?_
  refine flow_and_false plainT_ok rfl rfl rfl ?_
  refine flow_assign plainT_ok rfl (keeps_isV _) (.inr (keeps_isV _)) rfl ?_
  intro vs W hW hF
  have e4 : vs 4 = .bool false := hF 4 _ rfl rfl
  simp only [putAll, Act.put, List.setIfInBounds_toArray, List.set_cons_zero, List.set_cons_succ, e4]
  have HCW := Lib.hid (hc1.new (wdrew hW))
  clear hW hF hc1 e4
  go_wp2_with fail
  go_ret
  exact ⟨rfl, HCW.out⟩
set_option maxHeartbeats 1000000 in
set_option maxRecDepth 100000 in
theorem rbytes_any (h : DskS w p bL bS bW s) (L P E : Int) :
    Calls Try.prog 39 #[.pointer (some ⟨p, 0, none⟩), rootV L P E] w (BytesPost w (logL s L P E)) := by
  obtain ⟨iu, hui, huz, hus, hub⟩ := info_parts info_byte
  have hr0 : rootV L P E = .agg #[.int .i64 L, .int .i64 P, .int .u32 E] := rfl
  have H := Lib.hid h
  clear h
  rw [hr0]
  go_enter Try.func39, Try.ntmps39
  go_wp2_with fail
  have hR := Whole.new w 26 [.int .i64 L, .int .i64 P, .int .u32 E]
  have hc1 : Chg [] w (w.alloc (.cells #[.int .i64 L, .int .i64 P, .int .u32 E] 26)) := (Chg.refl [] w).alloc _
  obtain ⟨g, hg⟩ : ∃ g, g = w.heap.size := ⟨_, rfl⟩
  rw [← hg] at hR ⊢
  generalize w.alloc (.cells #[.int .i64 L, .int .i64 P, .int .u32 E] 26) = w1 at hc1 hR ⊢
  clear hg
  obtain ⟨c0, c1, c2, _, _, _⟩ := root_cells hR
  go_wp2_with fail
  refine (parts_any (Dsk.keep H.out hc1) L P E).mono ?_
  rintro e w2 ⟨rfl, hc2⟩
  have HC2 := Lib.hid (hc1.new hc2)
  have HR2 := Lib.hid (hR.keep hc2)
  clear hc1 hc2 hR c0 c1 c2
  cases hrr : rightR L P E s.V.length with
  | false =>
    have HF := Lib.hid (show logL s L P E = [] by unfold logL; rw [if_neg (by rw [hrr]; simp)])
    go_wp2_with fail
    go_ret
    rw [HF.out]
    exact ⟨_, rfl, own_nil _ _ _, HC2.out⟩
  | true =>
    have hrt := rightR_true.1 hrr
    obtain ⟨l, rfl⟩ := Int.eq_ofNat_of_zero_le (show 0 ≤ L by omega)
    have hl1 : 1 ≤ l := by omega
    have hl64 : l ≤ 64 := by omega
    have hlV : 2 + l ≤ s.V.length := by omega
    have HF := Lib.hid (show logL s l P E = logB s l by unfold logL; rw [if_pos hrr, Int.toNat_natCast])
    have HS := Lib.hid H.out.lenS
    obtain ⟨N, hN⟩ : ∃ N, N = l * 64 := ⟨_, rfl⟩
    have hNm := Lib.hid hN
    have hN4 : N ≤ 4096 := by omega
    have hmk : ∀ W : World, (Instr.makeSlice 22 (.int .i64 0) (.int .i64 (N : Int))).run Try.prog W = .ok (.slice (some ⟨W.heap.size, 0, none⟩) 0 N) (W.alloc (.cells (bts (zeros N)).toArray 5)) := by
      intro W
      rw [bts_zeros]
      exact run_make0 (P := Try.prog) 22 5 iu _ rfl Try.underlying22 hui huz hus N (by rw [hub]; omega) (by omega) W
    have hsz : sizeI (l : Int) = (N : Int) := by unfold sizeI; rw [if_neg (by omega), hN]; omega
    obtain ⟨c0, c1, c2, _, _, _⟩ := root_cells HR2.out
    clear hN hrt
    go_wp2_with fail
    refine (size_any (l : Int) P E (by omega)).mono ?_
    rintro e w3 ⟨rfl, hc3⟩
    rw [hsz]
    have HC3 := Lib.hid (HC2.out.new hc3)
    have HR3 := Lib.hid (HR2.out.keep hc3)
    clear hc3 c0 c1 c2 hsz
    obtain ⟨c0, c1, c2, _, _, _⟩ := root_cells HR3.out
    have d0 := cell_keep c0 ((Chg.refl [] w3).alloc (.cells (bts (zeros N)).toArray 5))
    go_wp2_with fail
    have hW := Whole.new w3 5 (bts (zeros N))
    have hal : Chg [] w3 (w3.alloc (.cells (bts (zeros N)).toArray 5)) := (Chg.refl [] w3).alloc _
    have ho0 : (w3.alloc (.cells (bts (zeros N)).toArray 5)).ownsRow w3.heap.size 5 1 (.slice (some ⟨w3.heap.size, 0, none⟩) 0 N) 0 [] := by
      have := own_of_whole (B := w3.heap.size) (n := 0) (c := N) hW (Nat.le_refl _) (by rw [bts_len, zeros_len]) (by omega) (by unfold maxLen; omega)
      simpa using this
    have HAL := Lib.hid hal
    have HR4 := Lib.hid (HR3.out.keep hal)
    have HC4 := Lib.hid (HC3.out.new hal)
    generalize w3.alloc (.cells (bts (zeros N)).toArray 5) = w4 at ho0 HR4 HC4 HAL ⊢
    obtain ⟨B3, hB3⟩ : ∃ B, B = w3.heap.size := ⟨_, rfl⟩
    rw [← hB3] at ho0 ⊢
    have HB3 := Lib.hid (show B3 ≤ w4.heap.size ∧ w.heap.size ≤ B3 by rw [hB3]; exact ⟨HAL.out.size, HC3.out.size⟩)
    clear hW hal hB3 c0 c1 c2 d0 HAL hmk

    go_loopw [5, 18] (fun v i wr => ∃ k : Nat, k ≤ l ∧ i = .int .i64 (k : Int) ∧ (∃ n, Hid (n = k * 64) ∧ wr.ownsRow B3 5 1 v n (bts (logB s k))) ∧ Hid (B3 ≤ wr.heap.size) ∧ Hid (Chg [] w wr)) (fun _ i _ => l - (intOf i).toNat)
    case atStart => exact ⟨0, by omega, rfl, ⟨0, Lib.hid rfl, by unfold logB; simpa [bts] using ho0⟩, Lib.hid HB3.out.1, HC4⟩
    case round =>
      obtain ⟨k, hk, rfl, ⟨n, Hn, hown⟩, HBr, HCr⟩ := hrel
      obtain ⟨Av, cv, rfl, hvl, hvc, _⟩ := own_slice hown
      by_cases hlt : k < l
      · have hkI : (k : Int) < (l : Int) := by omega
        obtain ⟨q, hq⟩ : ∃ q : Nat, (2 : Int) + (k : Int) = (q : Int) := ⟨2 + k, by omega⟩
        have HQ := Lib.hid (show q = 2 + k by omega)
        have hqV : q < s.V.length := by omega
        go_wp2_with fail
        refine (read_yes (Dsk.keep H.out HCr.out) q hqV).mono ?_
        rintro e w5 ⟨rfl, hW5, hc5⟩
        have hl5 : ((s.S.drop (q * 64)).take 64).length = 64 := by rw [List.length_take, List.length_drop, HS.out]; omega
        have HNX := Lib.hid (show logB s (k + 1) = logB s k ++ (s.S.drop (q * 64)).take 64 by rw [logB_next, HQ.out])
        have HS5 := Lib.hid (Src.of_all hW5)
        have hx1 := Lib.hid (show (bts ((s.S.drop (q * 64)).take 64)).length = 64 by rw [bts_len, hl5])
        have how := own_keep hown hc5
        have hn4 : n ≤ 4096 := by rw [Hn.out]; omega
        have hx2 := Lib.hid (show n + 64 ≤ maxLen by unfold maxLen; omega)
        have hx3 := Lib.hid (show (n + 64) * 1 ≤ 140737488355328 by omega)
        have hx4 := Lib.hid (show B3 ≤ w5.heap.size by have := HBr.out; have := hc5.size; omega)
        have HC5 := Lib.hid (HCr.out.new hc5)
        have h1 := bts_one ((s.S.drop (q * 64)).take 64)
        generalize (s.S.drop (q * 64)).take 64 = Z at hW5 HNX HS5 hx1 h1
        obtain ⟨g5, hg5⟩ : ∃ g, g = wr.heap.size := ⟨_, rfl⟩
        rw [← hg5] at HS5 ⊢
        clear hg5 hW5 hl5 hc5 hown
        go_wp2_with (at_builtin
                     refine wpList_append_src rfl (.tmp 28) (.tmp 29) 22 rfl B3 5 iu _ 1 Try.underlying22 hui huz hus hub cells_u8 (.slice Av n cv) n (bts (logB s k)) rfl how (some ⟨g5, 0, none⟩) 64 64 (bts Z) rfl hx1.out HS5.out h1 hx2.out hx3.out hx4.out ?_
                     intro v6 w6 ho6 hg6 _)
        have hc6 := HC5.out.own how HB3.out.2 hg6
        go_roundw
        case rel => exact ⟨k + 1, by omega, by go_num, ⟨n + 64, Lib.hid (by rw [Hn.out]; omega), by rw [HNX.out, bts_app]; exact ho6⟩, Lib.hid (Nat.le_trans hx4.out hg6.size), Lib.hid hc6⟩
        case measure => simp [intOf]; omega
      · have hkI : ¬ (k : Int) < (l : Int) := by omega
        have HK := Lib.hid (show k = l by omega)
        have HLen := Lib.hid (show (logB s l).length = n by rw [logB_len (by rw [HS.out]; omega), Hn.out, HK.out])
        clear hlt hk
        go_wp2_with fail
        go_ret
        rw [HF.out]
        refine ⟨_, rfl, ?_, HCr.out⟩
        rw [HLen.out, ← HK.out]
        exact own_more hown HB3.out.2
/-- May so many bytes go in? -/
def canA (s : St) (L P E at_ : Int) (n : Nat) : Prop := rightR L P E s.V.length = true ∧ 0 ≤ at_ ∧ at_ ≤ L * 64 ∧ (n : Int) ≤ L * 64 - at_
/-- What Append does. -/
def AppPost (w : World) (p bL bS bW : Nat) (s : St) (L P E at_ : Int) (l : List UInt8) (e : Ending) (w' : World) : Prop :=
  (canA s L P E at_ l.length ∧ e = .returned (.bool true) ∧ DskS w' p bL bS bW (apS s (128 + at_.toNat) l) ∧ Chg [bS, bW] w w') ∨
  (¬ canA s L P E at_ l.length ∧ e = .returned (.bool false) ∧ Chg [] w w')
set_option maxHeartbeats 2000000 in
set_option maxRecDepth 100000 in
theorem append_any (h : DskS w p bL bS bW s) (L P E at_ : Int) (hL0 : -9223372036854775808 ≤ at_) (hL1 : at_ ≤ 9223372036854775807) {A : Option Addr} {n c : Nat} {l : List UInt8} (hx : Bs w A n c l) (hA : 0 < n → ∀ ad, A = some ad → ad.block ≠ bS ∧ ad.block ≠ bW) :
    Calls Try.prog 37 #[.pointer (some ⟨p, 0, none⟩), rootV L P E, .int .i64 at_, .slice A n c] w (AppPost w p bL bS bW s L P E at_ l) := by
  have hr0 : rootV L P E = .agg #[.int .i64 L, .int .i64 P, .int .u32 E] := rfl
  have H := Lib.hid h
  have HX := Lib.hid hx
  have hln := hx.len
  have HA := Lib.hid hA
  have hnm := hx.le
  clear h hx hA
  rw [hr0]
  go_enter Try.func37, Try.ntmps37
  go_wp2_with fail
  have hR := Whole.new w 26 [.int .i64 L, .int .i64 P, .int .u32 E]
  have hc1 : Chg [] w (w.alloc (.cells #[.int .i64 L, .int .i64 P, .int .u32 E] 26)) := (Chg.refl [] w).alloc _
  obtain ⟨g, hg⟩ : ∃ g, g = w.heap.size := ⟨_, rfl⟩
  rw [← hg] at hR ⊢
  generalize w.alloc (.cells #[.int .i64 L, .int .i64 P, .int .u32 E] 26) = w1 at hc1 hR ⊢
  clear hg
  obtain ⟨c0, c1, c2, _, _, _⟩ := root_cells hR
  go_wp2_with fail
  refine (parts_any (Dsk.keep H.out hc1) L P E).mono ?_
  rintro e w2 ⟨rfl, hc2⟩
  have HC2 := Lib.hid (hc1.new hc2)
  have HR2 := Lib.hid (hR.keep hc2)
  clear hc1 hc2 hR c0 c1 c2
  have HLN := Lib.hid hln
  clear hln
  cases hrr : rightR L P E s.V.length with
  | false =>
    have HF := Lib.hid (show ¬ canA s L P E at_ l.length from fun h => by have := h.1; rw [hrr] at this; cases this)
    go_wp2_with fail
    go_ret
    exact .inr ⟨HF.out, rfl, HC2.out⟩
  | true =>
    have hrt := rightR_true.1 hrr
    have hl1 : 1 ≤ L := hrt.1
    have hl64 : L ≤ 64 := hrt.2.1
    have hlV := Lib.hid (show 2 + L + P ≤ s.V.length ∧ 1 ≤ P from ⟨hrt.2.2.2.2.1, hrt.2.2.1⟩)
    have HCA := Lib.hid (show canA s L P E at_ l.length ↔ (0 ≤ at_ ∧ at_ ≤ L * 64 ∧ (n : Int) ≤ L * 64 - at_) by unfold canA; rw [hrr, HLN.out]; simp)
    have hsz : sizeI L = L * 64 := by unfold sizeI; rw [if_neg (by omega)]
    clear hrt
    by_cases ha0 : at_ < 0
    · have HF := Lib.hid (show ¬ canA s L P E at_ l.length from fun h => by have := (HCA.out.1 h).1; omega)
      go_wp2_with fail
      go_ret
      exact .inr ⟨HF.out, rfl, HC2.out⟩
    obtain ⟨a, rfl⟩ := Int.eq_ofNat_of_zero_le (show 0 ≤ at_ by omega)
    have ha0' : ¬ ((a : Int) < 0) := ha0
    clear ha0 hL0
    obtain ⟨c0, c1, c2, _, _, _⟩ := root_cells HR2.out
    go_wp2_with fail
    refine (size_any L P E (by omega)).mono ?_
    rintro e w3 ⟨rfl, hc3⟩
    rw [hsz]
    have HC3 := Lib.hid (HC2.out.new hc3)
    have HR3 := Lib.hid (HR2.out.keep hc3)
    clear hc3 c0 c1 c2
    obtain ⟨N, hN, hN4⟩ : ∃ N : Nat, L * 64 = (N : Int) ∧ N ≤ 4096 := ⟨(L * 64).toNat, by omega, by omega⟩
    rw [hN]
    rw [hN] at hsz HCA
    have HNN := Lib.hid hN
    clear hN
    by_cases ha1 : (N : Int) < (a : Int)
    · have HF := Lib.hid (show ¬ canA s L P E a l.length from fun h => by have := (HCA.out.1 h).2.1; omega)
      go_wp2_with fail
      go_ret
      exact .inr ⟨HF.out, rfl, HC3.out⟩
    have haN : a ≤ N := by omega
    obtain ⟨c0, c1, c2, _, _, _⟩ := root_cells HR3.out
    go_wp2_with fail
    refine (size_any L P E (by omega)).mono ?_
    rintro e w4 ⟨rfl, hc4⟩
    rw [hsz]
    have HC4 := Lib.hid (HC3.out.new hc4)
    clear hc4 c0 c1 c2 hsz
    by_cases hn1 : (N : Int) - (a : Int) < (n : Int)
    · have HF := Lib.hid (show ¬ canA s L P E a l.length from fun h => by have := (HCA.out.1 h).2.2; omega)
      go_wp2_with fail
      go_ret
      exact .inr ⟨HF.out, rfl, HC4.out⟩
    have hnN : a + n ≤ N := by omega
    have HY := Lib.hid (HCA.out.2 ⟨by omega, by omega, by omega⟩)
    have HDs := Lib.hid (show 128 + N ≤ s.S.length ∧ s.S.length = 64 * s.V.length by have := H.out.lenS; have := hlV.out; have := HNN.out; omega)
    have h0 : apS s (128 + a) (l.take 0) = s := by rw [List.take_zero]; exact apS_nil s _ (by have := HDs.out; omega)
    have HD4 : Hid (DskS w4 p bL bS bW (apS s (128 + a) (l.take 0))) := Lib.hid (by rw [h0]; exact Dsk.keep H.out HC4.out)
    have HX4 : Hid (Bs w4 A (n - 0) c (l.drop 0)) := Lib.hid (HX.out.keep HC4.out)
    have HC4' := Lib.hid (HC4.out.sub (T' := [bS, bW]) (by simp))
    have hlt4 := Lib.hid (show bS < w4.heap.size ∧ bW < w4.heap.size by have hd : Dsk w4 p bL bS bW _ _ _ := HD4.out; exact ⟨hd.seen.lt, hd.wait.lt⟩)
    have hd1 : decide ((a : Int) < 0) = false := decide_eq_false (by omega)
    have hd2 : decide ((N : Int) < (a : Int)) = false := decide_eq_false (by omega)
    have hd3 : decide (N < a) = false := decide_eq_false (by omega)
    have hd4 : decide ((N : Int) - (a : Int) < (n : Int)) = false := decide_eq_false (by omega)
    clear h0 haN
    go_wp2_with fail
    go_loopw [2, 3] (fun v b wr => ∃ k : Nat, k ≤ n ∧ v = .int .i64 ((a + k : Nat) : Int) ∧ (∃ A' c', b = .slice A' (n - k) c' ∧ Hid (Bs wr A' (n - k) c' (l.drop k)) ∧ Hid (0 < n → ∀ ad, A' = some ad → ad.block ≠ bS ∧ ad.block ≠ bW)) ∧ Hid (DskS wr p bL bS bW (apS s (128 + a) (l.take k))) ∧ Hid (Chg [bS, bW] w wr)) (fun v _ _ => a + n - (intOf v).toNat)
    case atStart => exact ⟨0, by omega, rfl, ⟨_, _, rfl, HX4, HA⟩, HD4, HC4'⟩
    case round =>
      obtain ⟨k, hk, rfl, ⟨A', c', rfl, HXk, HAk⟩, HDk, HCk⟩ := hrel
      clear HD4 HX4 HC4'
      by_cases hlt : k < n
      · obtain ⟨m, hm, hm0⟩ : ∃ m, m = n - k ∧ 0 < m := ⟨_, rfl, by omega⟩
        rw [← hm] at HXk ⊢
        have HM := Lib.hid hm
        have hm0I : (0 : Int) < (m : Int) := by omega
        have hm5 : m ≤ 4096 := by omega
        obtain ⟨ad, rfl, _, _⟩ := HXk.out.src (by rw [bts_len, HXk.out.len]; omega)
        obtain ⟨bb, oo, sb⟩ := ad
        obtain rfl : sb = none := HXk.out.spot hm0 _ rfl
        obtain ⟨x, hx, hxN⟩ : ∃ x, x = a + k ∧ x < 4096 := ⟨_, rfl, by omega⟩
        rw [← hx]
        have HXe := Lib.hid hx
        obtain ⟨q0, hq0⟩ : ∃ q0, q0 = x / 64 := ⟨_, rfl⟩
        obtain ⟨f, hf, hf64⟩ : ∃ f, f = x % 64 ∧ f < 64 := ⟨_, rfl, Nat.mod_lt _ (by omega)⟩
        have hdiv : (x : Int).tdiv 64 = (q0 : Int) := by rw [Int.tdiv_eq_ediv_of_nonneg (by omega)]; omega
        have hmod : (x : Int).tmod 64 = (f : Int) := by rw [Int.tmod_eq_emod_of_nonneg (by omega)]; omega
        obtain ⟨q, hq⟩ : ∃ q : Nat, (2 : Int) + (q0 : Int) = (q : Int) := ⟨2 + q0, by omega⟩
        have HQ := Lib.hid (show q * 64 + f = 128 + a + k by omega)
        have hqV : q < (apS s (128 + a) (l.take k)).V.length := by rw [apS_V]; have := HDs.out; omega
        have hq063 : q0 ≤ 63 := by omega
        clear hq0 hf hm hx
        go_wp2_with fail
        refine (read_yes HDk.out q hqV).mono ?_
        rintro e w5 ⟨rfl, hW5, hc5⟩
        have hSl : (apS s (128 + a) (l.take k)).S.length = s.S.length := splice_len _ _ _ (by rw [List.length_take]; have := HDs.out; have := HLN.out; omega)
        have hl5 : (((apS s (128 + a) (l.take k)).S.drop (q * 64)).take 64).length = 64 := by rw [List.length_take, List.length_drop, hSl]; rw [apS_V] at hqV; have := HDs.out; omega
        obtain ⟨n', hn', hn'1, hn'2, hn'3⟩ : ∃ n', n' = min m (64 - f) ∧ n' ≤ m ∧ f + n' ≤ 64 ∧ 0 < n' := ⟨_, rfl, by omega, by omega, by omega⟩
        have hHl : 128 + a + l.length ≤ s.S.length := by have := HDs.out; have := HLN.out; omega
        have HSA := Lib.hid (sect_app (S := s.S) (b := l) (a := 128 + a) (k := k) (m := n') (q := q) (f := f) hHl (by rw [HLN.out]; have := HM.out; omega) HQ.out hn'2 (by rw [apS_V] at hqV; have := HDs.out; omega))
        have HST := Lib.hid (apS_step (s := s) (a := 128 + a) (b := l) (k := k) (k' := k + n') (q := q) HDs.out.2 hHl (by omega) (by rw [HLN.out]; have := HM.out; omega) (by have := HQ.out; omega) (by have := HQ.out; omega) (by have := HQ.out; omega) rfl)
        have hcl := Lib.hid (show (bts ((l.drop k).take n')).length = n' by rw [bts_len, List.length_take, List.length_drop, HLN.out]; have := HM.out; omega)
        have hff : f + (bts ((l.drop k).take n')).length ≤ (bts (((apS s (128 + a) (l.take k)).S.drop (q * 64)).take 64)).length := by rw [bts_len, bts_len, hl5, List.length_take]; omega
        have hs5 : Src w5 (some ⟨bb, oo, none⟩) (bts ((l.drop k).take n')) := by have := ((HXk.out.keep hc5).take (m := n') hn'1).src; exact this
        have h1 := bts_one ((l.drop k).take n')
        have hspl := Lib.hid (show splice (bts (((apS s (128 + a) (l.take k)).S.drop (q * 64)).take 64)) f (bts ((l.drop k).take n')) = bts (((splice s.S (128 + a) (l.take (k + n'))).drop (q * 64)).take 64) by rw [bts_splice, ← HSA.out]; rfl)
        have hxl := Lib.hid (show (((splice s.S (128 + a) (l.take (k + n'))).drop (q * 64)).take 64).length = 64 by rw [List.length_take, List.length_drop, splice_len _ _ _ (by rw [List.length_take]; have := HLN.out; have := HM.out; omega)]; rw [apS_V] at hqV; have := HDs.out; omega)
        have HDk5 := Lib.hid (Dsk.keep HDk.out hc5)
        have HXk5 := Lib.hid (HXk.out.keep hc5)
        have HCk5 := Lib.hid (HCk.out.trans (hc5.sub (by simp)))
        have HW5 := hW5
        generalize bts (((apS s (128 + a) (l.take k)).S.drop (q * 64)).take 64) = Y5 at HW5 hff hspl
        generalize bts ((l.drop k).take n') = Z5 at hcl hff hs5 h1 hspl
        obtain ⟨g5, hg5⟩ : ∃ g, g = wr.heap.size := ⟨_, rfl⟩
        rw [← hg5] at HW5 ⊢
        have HG5 := Lib.hid hg5
        have hz5 := Lib.hid (show wr.heap.size < w5.heap.size from hg5 ▸ HW5.lt)
        have hc64 : ¬ (64 : Nat) = f := by omega
        clear hg5 hW5 hc5 hSl hl5 HSA
        have hcl2 := Lib.hid (show Z5.length = Nat.min m (64 - f) by rw [hcl.out, hn'])
        have HN' := Lib.hid hn'
        clear hn'
        go_wp2_with (with_reducible refine wpList_copy_chg rfl (.tmp 53) (.tmp 54) _ _ rfl 5 Try.underlying22 size_u8 (some ⟨g5, f, none⟩) (some ⟨bb, oo, none⟩) (64 - f) (64 - f) m c' rfl rfl g5 f 5 Y5 Z5 HW5 hcl2.out (fun _ => rfl) hs5 hff h1 ?_
                     intro w6 HG6 HC6)
        rw [hspl.out] at HG6
        have hd5 : Dsk w5 p bL bS bW _ _ _ := HDk5.out
        have hne : p ≠ g5 ∧ bL ≠ g5 ∧ bS ≠ g5 ∧ bW ≠ g5 := by
          have hd : Dsk wr p bL bS bW _ _ _ := HDk.out
          have h1 := hd.rec_.lt; have h2 := hd.last.lt; have h3 := hd.seen.lt; have h4 := hd.wait.lt
          have := HG5.out
          exact ⟨by omega, by omega, by omega, by omega⟩
        have HD6 : Hid (DskS w6 p bL bS bW (apS s (128 + a) (l.take k))) := Lib.hid (hd5.away HC6 (by simp; exact hne.1) (by simp; exact hne.2.1) (by simp; exact hne.2.2.1) (by simp; exact hne.2.2.2))
        have hbg : bb ≠ g5 := by
          obtain ⟨ad, e, hb, _⟩ := HXk.out.src (by rw [bts_len, HXk.out.len]; exact hm0)
          injection e with e
          have := HG5.out
          rw [← e] at hb
          have hb' : bb < wr.heap.size := hb
          omega
        have HX6 := Lib.hid (show Bs w6 (some ⟨bb, oo, none⟩) m c' (l.drop k) from ⟨HXk5.out.len, HXk5.out.src.chg HC6 (fun _ ad e => by injection e with e; subst e; simp; exact hbg), HXk5.out.cap, HXk5.out.max, HXk5.out.spot⟩)
        have HC6' := Lib.hid (show Chg [bS, bW] w w6 from HCk5.out.then_ HC6 fun i hi hlt => by
          simp only [List.mem_cons, List.not_mem_nil, or_false] at hi
          have h1 := HG5.out
          have h2 := HCk.out.size
          omega)
        have hs6 := Lib.hid (Src.of_all HG6)
        have hZl : (Z5.length : Int) = (n' : Int) := by rw [hcl.out]
        rw [hZl]
        clear hd5 hne hbg HG6 HC6 hs5 hff h1 hspl HW5 hZl HDk5 HXk5 HCk5
        refine (write_yes HD6.out q hqV hxl.out hs6.out).mono ?_
        rintro e w7 ⟨rfl, hD7, hc7⟩
        have HD7 : Hid (DskS w7 p bL bS bW (apS s (128 + a) (l.take (k + n')))) := Lib.hid (by rw [← HST.out]; exact hD7)
        have HC7 := Lib.hid (HC6'.out.trans hc7)
        have HX7 := Lib.hid (show Bs w7 (some ⟨bb, oo, none⟩) m c' (l.drop k) from ⟨HX6.out.len, HX6.out.src.chg hc7 (fun _ ad e => by have := HAk.out (by omega) ad e; exact not2' this.1 this.2), HX6.out.cap, HX6.out.max, HX6.out.spot⟩)
        have hcut := HX7.out.cut (lo := n') (hi := m) hn'1 (Nat.le_refl _)
        rw [show ((l.drop k).drop n').take (m - n') = (l.drop k).drop n' from List.take_of_length_le (by rw [List.length_drop, HX7.out.len]; exact Nat.le_refl _)] at hcut
        have hcap' := HX7.out.cap
        have hmc : ¬ c' < m := by omega
        have hmc2 : ¬ m < n' := by omega
        have hmI : (n' : Int) ≤ (m : Int) := by omega
        have hwx : IntKind.i64.wrap ((x : Int) + (n' : Int)) = (x : Int) + (n' : Int) := by simp [IntKind.wrap, IntKind.signed, IntKind.bits]; omega
        clear hD7 hc7 hqV
        by_cases hcc : c' = n'
        · rw [if_pos hcc] at hcut
          have HXc := Lib.hid hcut
          clear hcut
          go_wp2_with fail
          refine wp_flow (by kernel_rfl) plainT plainT_ok (by kernel_rfl) ?_
          refine flow_move_out plainT_ok rfl rfl rfl ?_
          refine flow_move_out plainT_ok rfl rfl rfl ?_
          refine flow2 (r := .int .i64 ((x + n' : Nat) : Int)) plainT_ok rfl (.inn rfl) (.inn rfl) rfl (fun ev W he e1 e2 => by go_simp) ?_
          refine flow_move_out plainT_ok rfl rfl rfl ?_
          refine flow_move_out plainT_ok rfl rfl rfl ?_
          refine flow_slice_lo (r := .slice (some ⟨bb, oo, none⟩) (m - n') (c' - n')) plainT_ok (.inn rfl) (.inn rfl) (fun ev W he e1 e2 => by go_simp) rfl ?_
          refine flow_assign plainT_ok rfl (keeps_isV _) (.inr (keeps_isV _)) rfl ?_
          refine flow_assign plainT_ok rfl (keeps_isV _) (.inr (keeps_isV _)) rfl ?_
          intro vs W hW hF
          have e2 : vs 2 = .int .i64 ((x + n' : Nat) : Int) := hF 2 _ rfl rfl
          have e3 : vs 3 = .slice (some ⟨bb, oo, none⟩) (m - n') (c' - n') := hF 3 _ rfl rfl
          simp only [putAll, Act.put, List.setIfInBounds_toArray, List.set_cons_zero, List.set_cons_succ, e2, e3]
          have HCW := Lib.hid (wdrew hW)
          clear hW hF e2 e3
          go_wp2_with fail
          go_roundw
          case rel =>
            have hc := HM.out
            refine ⟨k + n', by omega, by rw [HXe.out, Nat.add_assoc], ⟨_, _, by rw [show n - (k + n') = m - n' by omega], Lib.hid ?_, Lib.hid ?_⟩, Lib.hid (Dsk.keep HD7.out HCW.out), Lib.hid (HC7.out.trans (HCW.out.sub (by simp)))⟩
            · have := HXc.out.keep HCW.out
              rw [List.drop_drop] at this
              rw [show n - (k + n') = m - n' by omega]
              exact this
            · intro h0 ad e; injection e with e; subst e; exact HAk.out h0 ⟨bb, oo, none⟩ rfl
          case measure => have := HM.out; have := HXe.out; simp [intOf]; omega
        · rw [if_neg hcc, Option.map_some, add_plain] at hcut
          have HXc := Lib.hid hcut
          clear hcut
          go_wp2_with fail
          refine wp_flow (by kernel_rfl) plainT plainT_ok (by kernel_rfl) ?_
          refine flow_move_out plainT_ok rfl rfl rfl ?_
          refine flow_move_out plainT_ok rfl rfl rfl ?_
          refine flow2 (r := .int .i64 ((x + n' : Nat) : Int)) plainT_ok rfl (.inn rfl) (.inn rfl) rfl (fun ev W he e1 e2 => by go_simp) ?_
          refine flow_move_out plainT_ok rfl rfl rfl ?_
          refine flow_move_out plainT_ok rfl rfl rfl ?_
          refine flow_slice_lo (r := .slice (some ⟨bb, oo + n', none⟩) (m - n') (c' - n')) plainT_ok (.inn rfl) (.inn rfl) (fun ev W he e1 e2 => by go_simp) rfl ?_
          refine flow_assign plainT_ok rfl (keeps_isV _) (.inr (keeps_isV _)) rfl ?_
          refine flow_assign plainT_ok rfl (keeps_isV _) (.inr (keeps_isV _)) rfl ?_
          intro vs W hW hF
          have e2 : vs 2 = .int .i64 ((x + n' : Nat) : Int) := hF 2 _ rfl rfl
          have e3 : vs 3 = .slice (some ⟨bb, oo + n', none⟩) (m - n') (c' - n') := hF 3 _ rfl rfl
          simp only [putAll, Act.put, List.setIfInBounds_toArray, List.set_cons_zero, List.set_cons_succ, e2, e3]
          have HCW := Lib.hid (wdrew hW)
          clear hW hF e2 e3
          go_wp2_with fail
          go_roundw
          case rel =>
            have hc := HM.out
            refine ⟨k + n', by omega, by rw [HXe.out, Nat.add_assoc], ⟨_, _, by rw [show n - (k + n') = m - n' by omega], Lib.hid ?_, Lib.hid ?_⟩, Lib.hid (Dsk.keep HD7.out HCW.out), Lib.hid (HC7.out.trans (HCW.out.sub (by simp)))⟩
            · have := HXc.out.keep HCW.out
              rw [List.drop_drop] at this
              rw [show n - (k + n') = m - n' by omega]
              exact this
            · intro h0 ad e; injection e with e; subst e; exact HAk.out h0 ⟨bb, oo, none⟩ rfl
          case measure => have := HM.out; have := HXe.out; simp [intOf]; omega
      · have hk0 : ¬ (0 : Int) < ((n - k : Nat) : Int) := by omega
        have HK := Lib.hid (show l.take k = l from List.take_of_length_le (by rw [HLN.out]; omega))
        obtain ⟨m, hm⟩ : ∃ m, m = n - k := ⟨_, rfl⟩
        rw [← hm] at hk0 ⊢
        clear hm hlt
        go_wp2_with fail
        go_ret
        refine .inl ⟨HY.out, rfl, ?_, HCk.out⟩
        have := HDk.out
        rw [HK.out] at this
        rw [Int.toNat_natCast]
        exact this
end
end Go.Proofs.Ytlhkmbcjgdjegaa
namespace Go.Proofs.Ytlhkmbcjgdjegaa
open Go.RowKit
/-- Slices of bytes of our own, one for each list. -/
def Rows (B : Nat) (w : World) (vs : List Value) (rs : List (List UInt8)) : Prop :=
  vs.length = rs.length ∧ ∀ (i : Nat) (v : Value) (l : List UInt8), vs[i]? = some v → rs[i]? = some l → w.ownsRow B 5 1 v l.length (bts l)
theorem Rows.keep {B : Nat} {w w' : World} {vs : List Value} {rs : List (List UInt8)} (h : Rows B w vs rs) (hc : Chg [] w w') : Rows B w' vs rs :=
  ⟨h.1, fun i v l hv hl => own_keep (h.2 i v l hv hl) hc⟩
theorem Rows.nil (B : Nat) (w : World) : Rows B w [] [] := ⟨rfl, fun i v l hv => by simp at hv⟩
theorem Rows.snoc {B : Nat} {w : World} {vs : List Value} {rs : List (List UInt8)} (h : Rows B w vs rs) {v : Value} {l : List UInt8} (ho : w.ownsRow B 5 1 v l.length (bts l)) : Rows B w (vs ++ [v]) (rs ++ [l]) := by
  refine ⟨by simp [h.1], fun i u x hu hx => ?_⟩
  rcases Nat.lt_or_ge i vs.length with hi | hi
  · rw [List.getElem?_append_left hi] at hu
    rw [List.getElem?_append_left (by rw [← h.1]; exact hi)] at hx
    exact h.2 i u x hu hx
  · rw [List.getElem?_append_right hi] at hu
    rw [List.getElem?_append_right (by rw [← h.1]; exact hi)] at hx
    rw [← h.1] at hx
    cases hj : i - vs.length with
    | zero => rw [hj] at hu hx; simp at hu hx; subst hu; subst hx; exact ho
    | succ j => rw [hj] at hu; simp at hu
theorem own_grown {w w' : World} {B B2 n m : Nat} {e e2 : TypeId} {v v2 : Value} {xs ys : List Value} (h : w.ownsRow B e 1 v n xs) (h2 : w.ownsRow B2 e2 1 v2 m ys) (hne : e ≠ e2) (hg : w.grownBy w' v2.ownBlock) : w'.ownsRow B e 1 v n xs := by
  refine ⟨h.1, h.2.imp id ?_⟩
  rintro ⟨g, cap, cur, rfl, hb, hh, r⟩
  refine ⟨g, cap, cur, rfl, hb, ?_, r⟩
  rw [hg.block g ?_ ?_]
  · exact hh
  · rcases Nat.lt_or_ge g w.heap.size with hlt | hge
    · exact hlt
    · rw [Array.getElem?_eq_none hge] at hh; cases hh
  · intro hc
    rcases h2.2 with ⟨rfl, _⟩ | ⟨g2, cap2, cur2, rfl, hb2, hh2, _⟩
    · simp [Value.ownBlock] at hc
    · simp [Value.ownBlock] at hc
      subst hc
      rw [hh] at hh2
      simp at hh2
      exact hne hh2.2
theorem Rows.grown {B B2 m : Nat} {w w' : World} {vs : List Value} {rs : List (List UInt8)} (h : Rows B w vs rs) {v2 : Value} {ys : List Value} (h2 : w.ownsRow B2 22 1 v2 m ys) (hg : w.grownBy w' v2.ownBlock) : Rows B w' vs rs :=
  ⟨h.1, fun i v l hv hl => own_grown (h.2 i v l hv hl) h2 (by decide) hg⟩
theorem info_bytes : (Try.prog.info? 22).map (fun i => (i.zero, i.size, i.bytes)) = some (some (.slice none 0 0), 1, 24) := by kernel_rfl
theorem cells_slice : (Value.slice none 0 0).cells.size = 1 := rfl
end Go.Proofs.Ytlhkmbcjgdjegaa
namespace Go.Proofs.Ytlhkmbcjgdjegaa
open Go.RowKit
theorem sumk_b {w : World} {A : Option Addr} {n c : Nat} {l : List UInt8} (h : Bs w A n c l) : Calls Try.prog 133 #[.slice A n c] w fun e w' => e = .returned (.int .u32 (sumK l : Nat)) ∧ w = w' := by
  rw [← sumL_K]; exact sum_b h
theorem rsumk_b {w : World} {A : Option Addr} {n c : Nat} {l : List UInt8} (h : Bs w A n c l) : Calls Try.prog 107 #[.slice A n c] w fun e w' => e = .returned (.int .u32 (sumK l : Nat)) ∧ w = w' := by
  rw [← sumL_K]; exact rsum_b h
end Go.Proofs.Ytlhkmbcjgdjegaa
namespace Go.Proofs.Ytlhkmbcjgdjegaa
open Go.RowKit

def headL (ep sq : Nat) (l : List UInt8) : List UInt8 := be4 ep ++ be4 sq ++ be4 (l.length % 4294967296) ++ l
def frameL (ep sq : Nat) (l : List UInt8) : List UInt8 := headL ep sq l ++ be4 (sumK (headL ep sq l))
theorem headL_len (ep sq : Nat) (l : List UInt8) : (headL ep sq l).length = 12 + l.length := by simp only [headL, List.length_append, be4_len]
theorem frameL_len (ep sq : Nat) (l : List UInt8) : (frameL ep sq l).length = 16 + l.length := by simp only [frameL, List.length_append, be4_len, headL_len]; omega

/-- The first k of some numbers, as bytes. -/
def preL (N : List Nat) (k : Nat) : List UInt8 := (N.take k).flatMap be4
theorem preL_next (N : List Nat) (k : Nat) (h : k < N.length) : preL N (k + 1) = preL N k ++ be4 N[k] := by
  unfold preL
  rw [List.take_succ_eq_append_getElem h, List.flatMap_append]
  simp
theorem preL_len (N : List Nat) (k : Nat) (h : k ≤ N.length) : (preL N k).length = 4 * k := by
  induction k with
  | zero => simp [preL]
  | succ k ih => rw [preL_next N k (by omega), List.length_append, be4_len, ih (by omega)]; omega
def u32s (N : List Nat) : List Value := N.map fun (q : Nat) => Value.int .u32 (q : Int)
section
variable {w : World} {A : Option Addr} {n c : Nat} {l : List UInt8}
theorem bytesPost_bs {w' : World} {e : Ending} (h : BytesPost w l e w') : ∃ A c, e = .returned (.slice A l.length c) ∧ Bs w' A l.length c l ∧ w'.ownsRow w.heap.size 5 1 (.slice A l.length c) l.length (bts l) ∧ Chg [] w w' := by
  obtain ⟨v, rfl, ho, hc⟩ := h
  obtain ⟨A, c, rfl, hB, _⟩ := Bs.of_own ho
  exact ⟨A, c, rfl, hB, ho, hc⟩

end
end Go.Proofs.Ytlhkmbcjgdjegaa
namespace Go.Proofs.Ytlhkmbcjgdjegaa
open Go.RowKit

/-- What Read answers. -/
def readOk (l : List UInt8) (ep sq : Nat) : Prop := 16 ≤ l.length ∧ getI l 0 = ep ∧ getI l 4 = sq ∧ getI l 8 ≤ l.length - 16 ∧ getI l ((12 + getI l 8 : Nat) : Int) = sumK (l.take (12 + getI l 8))
def recL (l : List UInt8) : List UInt8 := (l.drop 12).take (getI l 8)
theorem recL_len {l : List UInt8} {ep sq : Nat} (h : readOk l ep sq) : (recL l).length = getI l 8 := by
  have h1 := h.1
  have h2 := h.2.2.2.1
  unfold recL
  rw [List.length_take, List.length_drop]
  omega
def ReadPost (w : World) (l : List UInt8) (ep sq : Nat) (e : Ending) (w' : World) : Prop :=
  (readOk l ep sq ∧ ∃ v, e = .returned (.tuple #[v, .int .i64 ((16 + getI l 8 : Nat) : Int), .bool true]) ∧ w'.ownsRow w.heap.size 5 1 v (recL l).length (bts (recL l)) ∧ Chg [] w w') ∨
  (¬ readOk l ep sq ∧ e = .returned (.tuple #[.slice none 0 0, .int .i64 0, .bool false]) ∧ Chg [] w w')
theorem make_u32 (q : Nat) (hq : q ≤ 281474976710656) (W : World) :
    (Instr.makeSlice 22 (.int .u32 (q : Int)) (.int .u32 (q : Int))).run Try.prog W = .ok (.slice (some ⟨W.heap.size, 0, none⟩) q q) (W.alloc (.cells (bts (zeros q)).toArray 5)) := by
  obtain ⟨i, hi, hz, hs1, hb⟩ := info_parts info_byte
  have hb' : (i.bytes : Int) * (q : Int) ≤ 281474976710656 := by rw [hb]; omega
  have h := run_make (P := Try.prog) W 22 5 i _ Try.underlying22 hi hz .u32 .u32 (q : Int) (q : Int) (by omega) (Int.le_refl _) hb' (by omega)
  have h1 : (Value.int .u8 0).cells = #[Value.int .u8 0] := rfl
  rw [h, hs1, h1, made_one, bts_zeros]
  simp
theorem size_byte : (Try.prog.info? 5).map (·.size) = some 1 := by kernel_rfl
theorem bne_f {a b : Int} (h : a = b) : (a != b) = false := by simpa using h
theorem bne_t {a b : Int} (h : a ≠ b) : (a != b) = true := by simpa using h

section
variable {w : World} {A : Option Addr} {n c : Nat} {l : List UInt8}
set_option maxHeartbeats 2000000 in
theorem read_any' (h : Bs w A n c l) (ep sq : Nat) (hn : n ≤ 140737488355328) :
    Calls Try.prog 120 #[.slice A n c, .int .u32 (ep : Int), .int .u32 (sq : Int)] w (ReadPost w l ep sq) := by
  have hl := h.len
  by_cases h16 : n < 16
  · have hno : ¬ readOk l ep sq := fun hr => by have := hr.1; omega
    have HNO := Lib.hid hno
    clear hno hl
    go_enter Try.func120, Try.ntmps120
    go_wp2_with fail
    go_ret3
    exact .inr ⟨HNO.out, rfl, Chg.refl _ _⟩
  have hd16 : decide ((n : Int) < 16) = false := by simp; omega
  have HL := Lib.hid hl
  clear hl
  by_cases h0 : getI l 0 = ep
  rotate_left
  · have HNO := Lib.hid (show ¬ readOk l ep sq from fun hr => h0 hr.2.1)
    have hb := bne_t (show ((getI l 0 : Nat) : Int) ≠ (ep : Int) by omega)
    clear h0
    go_enter Try.func120, Try.ntmps120
    go_wp2_with fail
    refine (get_b h 0 (by omega)).mono ?_
    rintro e w' ⟨rfl, rfl⟩
    go_wp2_with fail
    go_ret3
    exact .inr ⟨HNO.out, rfl, Chg.refl _ _⟩
  by_cases h4 : getI l 4 = sq
  rotate_left
  · have HNO := Lib.hid (show ¬ readOk l ep sq from fun hr => h4 hr.2.2.1)
    have hb := bne_t (show ((getI l 4 : Nat) : Int) ≠ (sq : Int) by omega)
    have hb0 := bne_f (show ((getI l 0 : Nat) : Int) = (ep : Int) by omega)
    clear h4 h0
    go_enter Try.func120, Try.ntmps120
    go_wp2_with fail
    refine (get_b h 0 (by omega)).mono ?_
    rintro e w' ⟨rfl, rfl⟩
    go_wp2_with fail
    refine (get_b h 4 (by omega)).mono ?_
    rintro e w' ⟨rfl, rfl⟩
    go_wp2_with fail
    go_ret3
    exact .inr ⟨HNO.out, rfl, Chg.refl _ _⟩
  have hb0 := bne_f (show ((getI l 0 : Nat) : Int) = (ep : Int) by omega)
  have hb4 := bne_f (show ((getI l 4 : Nat) : Int) = (sq : Int) by omega)
  have H0 := Lib.hid h0
  have H4 := Lib.hid h4
  clear h0 h4
  have hq := getI_lt l 8
  by_cases h8 : getI l 8 ≤ n - 16
  rotate_left
  · have HNO := Lib.hid (show ¬ readOk l ep sq from fun hr => h8 (by have := hr.2.2.2.1; rw [HL.out] at this; exact this))
    have hgt : (n : Int) - 16 < ((getI l 8 : Nat) : Int) := by omega
    go_enter Try.func120, Try.ntmps120
    go_wp2_with fail
    refine (get_b h 0 (by omega)).mono ?_
    rintro e w' ⟨rfl, rfl⟩
    go_wp2_with fail
    refine (get_b h 4 (by omega)).mono ?_
    rintro e w' ⟨rfl, rfl⟩
    go_wp2_with fail
    refine (get_b h 8 (by omega)).mono ?_
    rintro e w' ⟨rfl, rfl⟩
    go_wp2_with fail
    go_ret3
    exact .inr ⟨HNO.out, rfl, Chg.refl _ _⟩
  have hle : ((getI l 8 : Nat) : Int) ≤ (n : Int) - 16 := by omega
  go_enter Try.func120, Try.ntmps120
  go_wp2_with fail
  refine (get_b h 0 (by omega)).mono ?_
  rintro e w' ⟨rfl, rfl⟩
  go_wp2_with fail
  refine (get_b h 4 (by omega)).mono ?_
  rintro e w' ⟨rfl, rfl⟩
  go_wp2_with fail
  refine (get_b h 8 (by omega)).mono ?_
  rintro e w' ⟨rfl, rfl⟩
  go_wp2_with fail
  obtain ⟨q, hqe⟩ : ∃ q, q = getI l 8 := ⟨_, rfl⟩
  rw [← hqe] at hq h8 hle ⊢
  have ECAST := Lib.hid (show (12 : Int) + (q : Int) = ((12 + q : Nat) : Int) by omega)
  have e1 : ((12 : Int) + (q : Int)).toNat = 12 + q := by omega
  have e2 : (0 : Int) ≤ 12 + (q : Int) := by omega
  have hcap := h.cap
  have e3 : ¬ (c : Int) < 12 + (q : Int) := by omega
  have e4 : ¬ c < 12 + q := by omega
  have hA0 : Option.map (fun x : Addr => x.add 0) A = A := by cases A <;> simp [Addr.add]
  have HE := Lib.hid hqe
  have hT := h.take (m := 12 + q) (by omega)
  clear hqe
  have kp : ∀ W, Chg [] w.drew W → Chg [] w W := fun W hW => (Chg.refl [] w).drew.new hW
  obtain ⟨b, hbt⟩ : ∃ b : Bool, b = (((getI l (12 + (q : Int)) : Nat) : Int) != ((sumK (l.take (12 + q)) : Nat) : Int)) := ⟨_, rfl⟩
  refine wp_flow (by kernel_rfl) plainT plainT_ok (by kernel_rfl) ?_
  refine flow_move_out plainT_ok rfl rfl rfl ?_
  refine flow_move_out plainT_ok rfl rfl rfl ?_
  refine flow_callv (.int .u32 ((getI l (12 + (q : Int)) : Nat) : Int)) (by kernel_rfl) rfl (.cons (.inn rfl) (.cons (.inn rfl) .nil)) (fun W hW => (get_b (h.keep (kp W hW)) (12 + (q : Int)) (by omega)).mono ?_) ?_
  · rintro e w' ⟨rfl, rfl⟩; exact ⟨rfl, Chg.refl _ _⟩
  refine flow_move_out plainT_ok rfl rfl rfl ?_
  refine flow_move_out plainT_ok rfl rfl rfl ?_
  refine flow_slice_hi (r := .slice A (12 + q) c) plainT_ok (.inn rfl) (.inn rfl) (fun ev W he e1 e2 => by go_simp) rfl ?_
  refine flow_callv (.int .u32 ((sumK (l.take (12 + q)) : Nat) : Int)) (by kernel_rfl) rfl (.cons (.inn rfl) .nil) (fun W hW => (sumk_b (hT.keep (kp W hW))).mono ?_) ?_
  · rintro e w' ⟨rfl, rfl⟩; exact ⟨rfl, Chg.refl _ _⟩
  refine flow2 (r := .bool b) plainT_ok rfl (.inn rfl) (.inn rfl) rfl (fun ev W he e1 e2 => by rw [hbt]; go_simp) ?_
  intro vs W hW hF
  have e46 : vs 46 = .bool b := hF 46 _ rfl rfl
  have hcW := kp W hW
  simp only [putAll, Act.put, List.setIfInBounds_toArray, List.set_cons_zero, List.set_cons_succ, e46]
  cases b with
  | true =>
    have hne : getI l (12 + (q : Int)) ≠ sumK (l.take (12 + q)) := fun hc => by rw [hc] at hbt; simp at hbt
    have HNO := Lib.hid (show ¬ readOk l ep sq from fun hr => hne (by have := hr.2.2.2.2; rw [← HE.out, ← ECAST.out] at this; exact this))
    clear hbt hne
    go_wp2_with fail
    go_ret3
    exact .inr ⟨HNO.out, rfl, hcW⟩
  | false =>
    have heq : getI l (12 + (q : Int)) = sumK (l.take (12 + q)) := by
      have h2 := hbt.symm
      simp only [bne_eq_false_iff_eq] at h2
      omega
    have HOK := Lib.hid (show readOk l ep sq from ⟨by rw [HL.out]; omega, H0.out, H4.out, by rw [← HE.out, HL.out]; exact h8, by rw [← HE.out, ← ECAST.out]; exact heq⟩)
    clear hbt heq
    have hmk := make_u32 q (by omega)
    have hC := (h.keep hcW).cut (lo := 12) (hi := 12 + q) (by omega) (by omega)
    have hc12 : ¬ c = 12 := by omega
    rw [if_neg hc12, show 12 + q - 12 = q by omega] at hC
    have e5 : ¬ 12 + q < 12 := by omega
    have e6 : 12 + q - 12 = q := by omega
    obtain ⟨⟨b0, o0, s0⟩, rfl, _, _⟩ := h.src (by rw [bts_len, HL.out]; omega)
    obtain rfl : s0 = none := h.spot (by omega) _ rfl
    simp only [Option.map_some, add_plain] at hC
    obtain ⟨X, hX⟩ : ∃ X, X = (l.drop 12).take q := ⟨_, rfl⟩
    rw [← hX] at hC
    have hXl := Lib.hid (show (bts X).length = Nat.min q q by rw [bts_len, hC.len]; simp)
    have hsp := Lib.hid (show splice (bts (zeros q)) 0 (bts X) = bts X by rw [splice_all]; rw [bts_len, bts_len, zeros_len, hC.len])
    have hfit : 0 + (bts X).length ≤ (bts (zeros q)).length := by rw [bts_len, bts_len, zeros_len, hC.len]; omega
    have HX := Lib.hid hX
    have hXq := Lib.hid hC.len
    clear hX
    have HFIT := Lib.hid hfit
    clear hfit
    have hsX := hC.src
    clear hC
    go_wp2_with (with_reducible refine wpList_copy_chg rfl (.tmp 49) (.tmp 52) _ _ rfl 5 Try.underlying22 size_byte (some ⟨W.heap.size, 0, none⟩) (some ⟨b0, o0 + 12, none⟩) q q q (c - 12) rfl rfl W.heap.size 0 5 (bts (zeros q)) (bts X) (Whole.new W _ _) hXl.out (fun _ => rfl) (hsX.keep ((Chg.refl _ _).alloc _)) HFIT.out (bts_one X) ?_
                 intro w1 HG HC
                 rw [hsp.out] at HG)
    go_ret3
    refine .inl ⟨HOK.out, .slice (some ⟨W.heap.size, 0, none⟩) q q, ?_, ?_, ?_⟩
    · rw [← HE.out]
      have e7 : (16 : Int) + (q : Int) = ((16 + q : Nat) : Int) := by omega
      rw [← e7]; rfl
    · have hr : recL l = X := by rw [recL, ← HE.out, HX.out]
      rw [hr, hXq.out]
      have := own_of_whole (B := w.heap.size) (n := q) (c := q) HG hcW.size (by rw [bts_len, hXq.out]) (Nat.le_refl _) (by unfold maxLen; omega)
      rwa [List.take_of_length_le (by rw [bts_len, hXq.out]; exact Nat.le_refl _)] at this
    · exact (hcW.alloc (.cells (bts (zeros q)).toArray 5)).then_ HC (by have := hcW.size; simp; omega)
end
end Go.Proofs.Ytlhkmbcjgdjegaa
namespace Go.Proofs.Ytlhkmbcjgdjegaa
open Go.RowKit

/-- One record more, if there is one. -/
noncomputable def stepS (l : List UInt8) (ep : Nat) (s : List (List UInt8) × Nat) : List (List UInt8) × Nat :=
  open Classical in if readOk (l.drop s.2) ep s.1.length then (s.1 ++ [recL (l.drop s.2)], s.2 + 16 + getI (l.drop s.2) 8) else s
noncomputable def itS (l : List UInt8) (ep : Nat) : Nat → List (List UInt8) × Nat
  | 0 => ([], 0)
  | k + 1 => stepS l ep (itS l ep k)
/-- What Scan answers. -/
noncomputable def scanS (l : List UInt8) (ep : Nat) : List (List UInt8) × Nat := itS l ep (l.length + 1)
theorem stepS_yes {l : List UInt8} {ep : Nat} {s : List (List UInt8) × Nat} (h : readOk (l.drop s.2) ep s.1.length) : stepS l ep s = (s.1 ++ [recL (l.drop s.2)], s.2 + 16 + getI (l.drop s.2) 8) := by
  unfold stepS; rw [if_pos h]
theorem stepS_no {l : List UInt8} {ep : Nat} {s : List (List UInt8) × Nat} (h : ¬ readOk (l.drop s.2) ep s.1.length) : stepS l ep s = s := by
  unfold stepS; rw [if_neg h]
theorem itS_stay {l : List UInt8} {ep k : Nat} (h : ¬ readOk (l.drop (itS l ep k).2) ep (itS l ep k).1.length) (j : Nat) : itS l ep (k + j) = itS l ep k := by
  induction j with
  | zero => rfl
  | succ j ih => show stepS l ep (itS l ep (k + j)) = _; rw [ih, stepS_no h]
theorem scanS_is {l : List UInt8} {ep k : Nat} (h : ¬ readOk (l.drop (itS l ep k).2) ep (itS l ep k).1.length) (hk : k ≤ l.length + 1) : scanS l ep = itS l ep k := by
  unfold scanS
  have e : l.length + 1 = k + (l.length + 1 - k) := by omega
  rw [e, itS_stay h]

def ScanPost (w : World) (l : List UInt8) (ep : Nat) (e : Ending) (w' : World) : Prop :=
  ∃ v vs, e = .returned (.tuple #[v, .int .i64 ((scanS l ep).2 : Nat)]) ∧ w'.ownsRow w.heap.size 22 1 v (scanS l ep).1.length vs ∧ Rows w.heap.size w' vs (scanS l ep).1 ∧ Chg [] w w'

/-- Behind k records. -/
structure At (l : List UInt8) (ep k : Nat) (rs : List (List UInt8)) (a : Nat) : Prop where
  it : itS l ep k = (rs, a)
  len : rs.length = k
  low : 16 * k ≤ a
  top : a ≤ l.length
theorem At.zero (l : List UInt8) (ep : Nat) : At l ep 0 [] 0 := ⟨rfl, rfl, by omega, by omega⟩
theorem At.next {l : List UInt8} {ep k : Nat} {rs : List (List UInt8)} {a : Nat} (h : At l ep k rs a) (hr : readOk (l.drop a) ep k) : At l ep (k + 1) (rs ++ [recL (l.drop a)]) (a + (16 + getI (l.drop a) 8)) := by
  have h1 := hr.1
  have h2 := hr.2.2.2.1
  rw [List.length_drop] at h1 h2
  refine ⟨?_, by simp [h.len], by have := h.low; omega, by have := h.top; omega⟩
  show stepS l ep (itS l ep k) = _
  rw [h.it, stepS_yes (by simpa [h.len] using hr)]
  simp only [Nat.add_assoc]
theorem At.last {l : List UInt8} {ep k : Nat} {rs : List (List UInt8)} {a : Nat} (h : At l ep k rs a) (hr : ¬ readOk (l.drop a) ep k) : scanS l ep = (rs, a) := by
  have h1 := h.low
  have h2 := h.top
  rw [scanS_is (k := k) (by rw [h.it]; simpa [h.len] using hr) (by omega), h.it]
section
variable {w : World} {A : Option Addr} {n c : Nat} {l : List UInt8}
set_option maxHeartbeats 1000000 in
theorem scan_any (h : Bs w A n c l) (ep : Nat) (hn : n ≤ 2147483648) :
    Calls Try.prog 108 #[.slice A n c, .int .u32 (ep : Int)] w (ScanPost w l ep) := by
  obtain ⟨i, hi, hz, hs1, hb⟩ := info_parts info_bytes
  go_enter Try.func108, Try.ntmps108
  go_wp2_with fail
  go_loopw [6, 7] (fun v a wr => ∃ k : Nat, ∃ m : Nat, ∃ rs vs, At l ep k rs m ∧ a = .int .i64 (m : Int) ∧ wr.ownsRow w.heap.size 22 1 v k vs ∧ Rows w.heap.size wr vs rs ∧ Chg [] w wr) (fun _ a _ => n - (intOf a).toNat)
  case atStart => exact ⟨0, 0, [], [], At.zero l ep, rfl, own_nil _ _ _, Rows.nil _ _, Chg.refl _ _⟩
  case round =>
    obtain ⟨k, m, rs, vs, hat, rfl, hown, hrows, hcr⟩ := hrel
    obtain ⟨Av, cv, rfl, hvl, hvc, _⟩ := own_slice hown
    have hm := hat.top
    have hk := hat.low
    have hl := h.len
    have hcap := h.cap
    rw [hl] at hm
    have hB := (h.keep hcr).cut (lo := m) (hi := n) hm (Nat.le_refl _)
    have hdr : (l.drop m).take (n - m) = l.drop m := List.take_of_length_le (by rw [List.length_drop]; omega)
    rw [hdr] at hB
    have e1 : (k : Int) % 4294967296 = (k : Int) := by omega
    have e2 : ¬ n < m := by omega
    have e3 : ¬ c < n := by omega
    have hnx : readOk (l.drop m) ep k → m + (16 + getI (l.drop m) 8) ≤ n := fun hr => by have := (hat.next hr).top; omega
    clear hdr hl
    rcases Decidable.em (m = c) with hcm | hcm
    · have hok : ¬ readOk (l.drop m) ep k := fun hr => by have := hnx hr; omega
      have hnm : n = m := by omega
      rw [if_pos hcm.symm] at hB
      subst hcm
      subst hnm
      rw [Nat.sub_self] at hB
      clear hnx
      go_wp2_with fail
      refine (read_any' hB ep k (by omega)).mono ?_
      rintro e w2 (⟨hyes, _⟩ | ⟨_, rfl, hc2⟩)
      · exact absurd hyes hok
      go_wp2_with fail
      go_ret2
      rw [ScanPost, hat.last hok]
      exact ⟨_, vs, rfl, by rw [hat.len]; exact own_keep hown hc2, hrows.keep hc2, hcr.new hc2⟩
    · rw [if_neg (Ne.symm hcm)] at hB
      have e4 : ¬ c = m := Ne.symm hcm
      by_cases hok : readOk (l.drop m) ep k
      · have hnk := hnx hok
        go_wp2_with fail
        refine (read_any' hB ep k (by omega)).mono ?_
        rintro e w2 (⟨_, v2, rfl, ho2, hc2⟩ | ⟨hno, _⟩)
        rotate_left
        · exact absurd hok hno
        obtain ⟨A2, c2, rfl, _⟩ := own_slice ho2
        have how := own_keep hown hc2
        have hrw := hrows.keep hc2
        have hx1 := Lib.hid (show k + 1 ≤ maxLen by unfold maxLen; omega)
        have hx2 := Lib.hid (show (k + 1) * 24 ≤ 140737488355328 by omega)
        have hx3 := Lib.hid (show w.heap.size ≤ w2.heap.size from Nat.le_trans hcr.size hc2.size)
        go_wp2_with (at_builtin
                     refine wpList_append_src rfl (.tmp 27) (.tmp 29) 30 rfl w.heap.size 22 i _ 24 Try.underlying30 hi hz hs1 hb cells_slice (.slice Av k cv) k vs rfl (own_keep how ((Chg.refl _ _).alloc _)) (some ⟨w2.heap.size, 0, none⟩) 1 1 [.slice A2 (recL (l.drop m)).length c2] rfl rfl (Src.of_all (Whole.new w2 22 [.slice A2 (recL (l.drop m)).length c2])) (fun u hu => by simp at hu; rw [hu]; rfl) hx1.out hx2.out (by simp; have := hx3.out; omega) ?_
                     intro v4 w4 ho4 hg4 _)
        have hch4 : Chg [] w w4 := ((hcr.new hc2).alloc _).own (own_keep how ((Chg.refl _ _).alloc _)) (Nat.le_refl _) hg4
        go_roundw
        case rel =>
          refine ⟨k + 1, m + (16 + getI (l.drop m) 8), _, _, hat.next hok, by go_num, ho4, ?_, hch4⟩
          exact ((hrw.keep ((Chg.refl _ _).alloc _)).snoc (own_more (own_keep ho2 ((Chg.refl _ _).alloc _)) hcr.size)).grown (own_keep how ((Chg.refl _ _).alloc _)) hg4
        case measure => simp [intOf]; omega
      · go_wp2_with fail
        refine (read_any' hB ep k (by omega)).mono ?_
        rintro e w2 (⟨hyes, _⟩ | ⟨_, rfl, hc2⟩)
        · exact absurd hyes hok
        go_wp2_with fail
        go_ret2
        rw [ScanPost, hat.last hok]
        exact ⟨_, vs, rfl, by rw [hat.len]; exact own_keep hown hc2, hrows.keep hc2, hcr.new hc2⟩
end
end Go.Proofs.Ytlhkmbcjgdjegaa
namespace Go.Proofs.Ytlhkmbcjgdjegaa
open Go.RowKit
/-- A change as it lies in memory: two cells, one of them a slice. -/
structure ChV where
  page : Int
  bA : Option Addr
  bn : Nat
  bc : Nat
  B : List UInt8
def chC (a : ChV) : List Value := [.int .i64 a.page, .slice a.bA a.bn a.bc]
structure ChOk (w : World) (a : ChV) : Prop where
  p0 : -9223372036854775808 ≤ a.page
  p1 : a.page ≤ 9223372036854775807
  bs : Bs w a.bA a.bn a.bc a.B
/-- The slice at A reads as the changes l. -/
structure Chs (w : World) (A : Option Addr) (l : List ChV) : Prop where
  cells : 0 < l.length → ∃ g o, A = some ⟨g, o, none⟩ ∧ g < w.heap.size ∧ ∀ k a, l[k]? = some a → w.cell? ⟨g, o + k * 2, none⟩ = some (.int .i64 a.page) ∧ w.cell? ⟨g, o + k * 2 + 1, none⟩ = some (.slice a.bA a.bn a.bc)
  ok : ∀ a ∈ l, ChOk w a
/-- A change that Bytes can write. -/
def Small (a : ChV) : Prop := 0 ≤ a.page ∧ a.page < 65536 ∧ a.bn = 64
theorem ChOk.keep {w w' : World} {a : ChV} (h : ChOk w a) (hc : Chg [] w w') : ChOk w' a := { h with bs := h.bs.keep hc }
theorem Chs.nil (w : World) (A : Option Addr) : Chs w A [] := ⟨fun h => absurd h (by simp), fun a ha => by simp at ha⟩
theorem Chs.keep {w w' : World} {A : Option Addr} {l : List ChV} (h : Chs w A l) (hc : Chg [] w w') : Chs w' A l := by
  refine ⟨fun h0 => ?_, fun a ha => (h.ok a ha).keep hc⟩
  obtain ⟨g, o, e, hg, hx⟩ := h.cells h0
  refine ⟨g, o, e, Nat.lt_of_lt_of_le hg hc.size, fun k a ha => ?_⟩
  obtain ⟨h1, h2⟩ := hx k a ha
  have hk : ∀ j, w'.cell? ⟨g, j, none⟩ = w.cell? ⟨g, j, none⟩ := fun j => World.cell?_of_block (w := w) (hc.block g hg (by simp))
  exact ⟨(hk _).trans h1, (hk _).trans h2⟩
/-- append as a step of a region that draws. -/
theorem step_append_src {P : Program} {w : World} {ops : Array Oper} {o : Oper} {a : Act} {K : Act → World → Prop} {Q : Exit → Act → World → Prop} {E : Prop} (hgd : o.guard = none) (s x : Operand) (t : TypeId)
    (ho : o.op = .call { callee := .builtin .append, args := #[s, x], argTypes := #[t, t] })
    (base : Nat) (e : TypeId) (i : TypeInfo) (z : Value) (bytes : Nat) (ht : P.underlying t = some (.slice e)) (hi : P.info? e = some i) (hz : i.zero = some z)
    (hsize : i.size = 1) (hby : i.bytes = bytes) (hzs : z.cells.size = 1)
    (v : Value) (n : Nat) (xs : List Value) (hse : a.eval s = v) (hown : w.ownsRow base e 1 v n xs)
    (A : Option Addr) (m c : Nat) (news : List Value) (hxe : a.eval x = .slice A m c) (hl : news.length = m) (hs : Src w A news) (h1 : ∀ u ∈ news, u.oneCell' = true)
    (h63 : n + m ≤ maxLen) (hbytes : (n + m) * bytes ≤ 140737488355328) (hbase : base ≤ w.heap.size)
    (h : ∀ v' w', w'.ownsRow base e 1 v' (n + m) (xs ++ news) → w.grownBy w' v.ownBlock → K (a.put o.dst v') w') :
    if Region.wanted o (yielded ops a.tmps) = true then Oper.wp P o a w K Q else E := by
  have hw : Region.wanted o (yielded ops a.tmps) = true := by simp [Region.wanted, hgd]
  rw [if_pos hw]
  obtain ⟨v', w', hrun, h2, h3, _⟩ := run_append_src (P := P) w base t o.type e i z bytes ht hi hz hsize hby hzs v n xs hown A m c news hl hs h1 h63 hbytes hbase
  unfold Oper.wp execOp
  simp only [ho, resolve, invoke, builtin, Sem.run_bind, Sem.run_pure, Result.andThen_ok, List.map_toArray, List.map_cons, List.map_nil, hse, hxe, hrun]
  exact h v' w' h2 h3
/-- Two bytes, the higher one first. -/
def be2 (k : Nat) : List UInt8 := [UInt8.ofNat (k / 256), UInt8.ofNat k]
theorem bts_be2 (k : Nat) (hk : k < 65536) : bts (be2 k) = [.int .u8 ((k : Int) / 256), .int .u8 ((k : Int) % 256)] := by
  unfold be2 bts
  simp only [List.map_cons, List.map_nil, B8, UInt8.toNat_ofNat']
  have h1 : k / 256 % 2 ^ 8 = k / 256 := Nat.mod_eq_of_lt (by omega)
  rw [h1]
  congr 2
/-- What of Right is asked of the pages, one behind the other. -/
def rightS (last pages : Int) : List ChV → Bool
  | [] => true
  | a :: l => !(decide (a.page ≤ last) || decide (pages ≤ a.page) || decide (a.bn ≠ 64)) && rightS a.page pages l
def rightB (pages : Int) (l : List ChV) : Bool := decide (pages ≤ 64) && rightS (-1) pages l
section
variable {w : World} {A : Option Addr} {n c : Nat}
set_option maxHeartbeats 2000000 in
set_option maxRecDepth 100000 in
theorem right_any {l : List ChV} (h : Chs w A l) (hl : l.length = n) (hn : n ≤ 9223372036854775807) (pages : Int) :
    Calls Try.prog 122 #[.slice A n c, .int .i64 pages] w (BoolPost (rightB pages l) w) := by
  have H := Lib.hid h
  have HL := Lib.hid hl
  clear h hl
  by_cases hp : 64 < pages
  · have hd : decide (64 < pages) = true := by simp; omega
    have HR := Lib.hid (show rightB pages l = false by unfold rightB; rw [decide_eq_false (by omega)]; rfl)
    go_enter Try.func122, Try.ntmps122
    go_wp2_with fail
    go_ret
    exact ⟨by rw [HR.out]; rfl, Chg.refl _ _⟩
  · have hd : decide (64 < pages) = false := by simp; omega
    have HR := Lib.hid (show rightB pages l = rightS (-1) pages l by unfold rightB; rw [decide_eq_true (by omega)]; rfl)
    go_enter Try.func122, Try.ntmps122
    go_wp2_with fail
    go_loopw [5, 12] (fun t i wr => ∃ k : Nat, k ≤ n ∧ i = .int .i64 (k : Int) ∧ (∃ last : Int, t = .int .i64 last ∧ Hid (rightB pages l = rightS last pages (l.drop k))) ∧ Chg [] w wr) (fun _ i _ => n - (intOf i).toNat)
    case atStart => exact ⟨0, Nat.zero_le _, rfl, ⟨-1, rfl, by rw [List.drop_zero]; exact HR⟩, Chg.refl _ _⟩
    case round =>
      obtain ⟨k, hk, rfl, ⟨last, rfl, HK⟩, hcr⟩ := hrel
      clear HR
      by_cases hlt : k < n
      · obtain ⟨a, ha⟩ : ∃ a, l[k]? = some a := ⟨_, List.getElem?_eq_getElem (by have := HL.out; omega)⟩
        obtain ⟨g, o, rfl, hg, hce⟩ := (H.out.keep hcr).cells (by have := HL.out; omega)
        obtain ⟨c0, c1⟩ := hce k a ha
        have HD := Lib.hid (show l.drop k = a :: l.drop (k + 1) by rw [List.drop_eq_getElem_cons (by have := HL.out; omega)]; congr 1; have := List.getElem?_eq_getElem (l := l) (i := k) (by have := HL.out; omega); rw [this] at ha; injection ha)
        have HC := Lib.hid hcr
        clear hce ha hcr
        obtain ⟨page, bA, bn, bc, B⟩ := a
        simp only at c0 c1
        have hkI : (k : Int) < (n : Int) := by omega
        by_cases h1 : page ≤ last
        · have hd1 : decide (page ≤ last) = true := by simp; omega
          have HF := Lib.hid (show rightB pages l = false by rw [HK.out, HD.out]; simp [rightS, h1])
          go_wp2_with fail
          go_ret
          exact ⟨by rw [HF.out]; rfl, HC.out.alloc _⟩
        · have hd1 : decide (page ≤ last) = false := by simp; omega
          by_cases h2 : pages ≤ page
          · have hd2 : decide (pages ≤ page) = true := by simp; omega
            have HF := Lib.hid (show rightB pages l = false by rw [HK.out, HD.out]; simp [rightS, h2])
            go_wp2_with fail
            go_ret
            exact ⟨by rw [HF.out]; rfl, HC.out.alloc _⟩
          · have hd2 : decide (pages ≤ page) = false := by simp; omega
            by_cases h3 : bn = 64
            · have HF := Lib.hid (show rightB pages l = rightS page pages (l.drop (k + 1)) by rw [HK.out, HD.out]; simp only [rightS]; rw [decide_eq_false h1, decide_eq_false h2, decide_eq_false (by simpa using h3)]; rfl)
              subst h3
              go_wp2_with fail
              go_roundw
              case rel => exact ⟨k + 1, by omega, by go_num, ⟨page, rfl, HF⟩, HC.out.alloc _⟩
              case measure => simp [intOf]; omega
            · have HF := Lib.hid (show rightB pages l = false by rw [HK.out, HD.out]; simp [rightS, h3])
              have hd3 : ((bn : Int) == 64) = false := by simp; omega
              have hd4 : (!((bn : Int) == 64)) = true := by simp; omega
              go_wp2_with fail
              go_ret
              exact ⟨by rw [HF.out]; rfl, HC.out.alloc _⟩
      · have HF := Lib.hid (show rightB pages l = true by rw [HK.out, List.drop_eq_nil_of_le (by have := HL.out; omega)]; rfl)
        have hkI : (n : Int) ≤ (k : Int) := by omega
        go_wp2_with fail
        go_ret
        exact ⟨by rw [HF.out]; rfl, hcr⟩
end
end Go.Proofs.Ytlhkmbcjgdjegaa
namespace Go.Proofs.Ytlhkmbcjgdjegaa
open Go.RowKit
/-- The cells of changes. -/
def chCs : List ChV → List Value
  | [] => []
  | a :: l => chC a ++ chCs l
theorem chCs_len : ∀ l, (chCs l).length = l.length * 2
  | [] => rfl
  | a :: l => by rw [chCs, List.length_append, chCs_len l]; simp [chC]; omega
theorem chCs_app : ∀ l m, chCs (l ++ m) = chCs l ++ chCs m
  | [], _ => rfl
  | a :: l, m => by rw [List.cons_append, chCs, chCs, chCs_app l m, List.append_assoc]
theorem chCs_one (a : ChV) : chCs [a] = chC a := by simp [chCs]
theorem chCs_get : ∀ (l : List ChV) (k : Nat) (a : ChV) (j : Nat), l[k]? = some a → j < 2 → (chCs l)[k * 2 + j]? = (chC a)[j]?
  | [], k, a, j, h, hj => by simp at h
  | b :: l, 0, a, j, h, hj => by
    simp at h; subst h
    rw [chCs, List.getElem?_append_left (by simp [chC]; omega)]
    congr 1; omega
  | b :: l, k + 1, a, j, h, hj => by
    simp at h
    rw [chCs, List.getElem?_append_right (by simp [chC]; omega)]
    rw [← chCs_get l k a j h hj]
    congr 1; simp [chC]; omega
/-- A change whose bytes lie in a block of their own, from B0 on. -/
structure MadeCh (w : World) (B0 : Nat) (a : ChV) : Prop where
  b : ∃ g, a.bA = some ⟨g, 0, none⟩ ∧ B0 ≤ g ∧ Whole w g 5 (bts a.B)
  bl : a.B.length = 64
  bn : a.bn = 64
  bc : a.bc = 64
  p : 0 ≤ a.page ∧ a.page < 65536
theorem MadeCh.ok {w : World} {B0 : Nat} {a : ChV} (h : MadeCh w B0 a) : ChOk w a := by
  obtain ⟨g, hg, _, hW⟩ := h.b
  refine ⟨by have := h.p; omega, by have := h.p; omega, ?_⟩
  rw [hg, h.bn, h.bc]
  have := Bs.of_all hW (by rw [h.bl]; omega)
  rwa [h.bl] at this
theorem MadeCh.small {w : World} {B0 : Nat} {a : ChV} (h : MadeCh w B0 a) : Small a := ⟨h.p.1, h.p.2, h.bn⟩
theorem MadeCh.chg {w w' : World} {B0 : Nat} {a : ChV} {T : List Nat} (h : MadeCh w B0 a) (hc : Chg T w w') (hT : ∀ i ∈ T, i < B0 ∨ w.heap.size ≤ i) : MadeCh w' B0 a := by
  obtain ⟨g, hg, hB, hW⟩ := h.b
  exact { h with b := ⟨g, hg, hB, hW.chg hc fun hm => by have := hT g hm; have := hW.lt; omega⟩ }
theorem MadeCh.grown {w w' : World} {B0 B2 m : Nat} {v2 : Value} {ys : List Value} {a : ChV} (h : MadeCh w B0 a) (h2 : w.ownsRow B2 53 2 v2 m ys) (hg : w.grownBy w' v2.ownBlock) : MadeCh w' B0 a := by
  obtain ⟨g, hg1, hB, hW⟩ := h.b
  exact { h with b := ⟨g, hg1, hB, whole_grown hW h2 (by decide) hg⟩ }
theorem rown_chg {w w' : World} {B n k : Nat} {e : TypeId} {v : Value} {xs : List Value} {T : List Nat} (h : w.ownsRow B e k v n xs) (hc : Chg T w w') (hT : ∀ i ∈ T, i < B ∨ w.heap.size ≤ i) : w'.ownsRow B e k v n xs := by
  refine ⟨h.1, h.2.imp id ?_⟩
  rintro ⟨g, cap, cur, rfl, hb, hg, r⟩
  refine ⟨g, cap, cur, rfl, hb, ?_, r⟩
  have hgl : g < w.heap.size := by
    rcases Nat.lt_or_ge g w.heap.size with hlt | hge
    · exact hlt
    · rw [Array.getElem?_eq_none hge] at hg; cases hg
  rw [hc.block g hgl (fun hm => by have := hT g hm; omega)]
  exact hg
/-- An own row of changes, as a list of changes is taken. -/
theorem chs_own {w : World} {B B0 n : Nat} {e : TypeId} {v : Value} {l : List ChV} (h : w.ownsRow B e 2 v n (chCs l)) (hok : ∀ a ∈ l, MadeCh w B0 a) :
    ∃ A c, v = .slice A n c ∧ l.length = n ∧ Chs w A l ∧ n ≤ 9223372036854775807 ∧ n ≤ c ∧ (∀ ad, A = some ad → ad.spot = none) := by
  have hl : l.length = n := by have := h.1; rw [chCs_len] at this; omega
  rcases h.2 with ⟨rfl, rfl⟩ | ⟨g, cap, cur, rfl, hb, hg, hn, hc, hs, ht⟩
  · exact ⟨none, 0, rfl, hl, ⟨fun h => absurd h (by omega), fun a ha => (hok a ha).ok⟩, by omega, Nat.le_refl _, fun ad e => by cases e⟩
  · have hgl : g < w.heap.size := by
      rcases Nat.lt_or_ge g w.heap.size with hlt | hge
      · exact hlt
      · rw [Array.getElem?_eq_none hge] at hg; cases hg
    refine ⟨_, cap, rfl, hl, ⟨fun _ => ⟨g, 0, rfl, hgl, fun k a ha => ?_⟩, fun a ha => (hok a ha).ok⟩, by unfold maxLen at hc; omega, hn, fun ad e => by injection e with e; subst e; rfl⟩
    have hx : ∀ j u, (chCs l)[j]? = some u → w.cell? ((⟨g, 0, none⟩ : Addr).add j) = some u := h.cells rfl
    have q : ∀ j, j < 2 → ∀ u, (chC a)[j]? = some u → w.cell? ⟨g, k * 2 + j, none⟩ = some u := fun j hj u hu => by
      have := hx (k * 2 + j) u ((chCs_get l k a j ha hj).trans hu)
      rwa [add_plain, Nat.zero_add] at this
    simp only [Nat.zero_add]
    exact ⟨q 0 (by omega) _ rfl, q 1 (by omega) _ rfl⟩
theorem info_change : (Try.prog.info? 53).map (fun i => (i.zero, i.size, i.bytes)) = some (some (.agg #[.int .i64 0, .slice none 0 0]), 2, 32) := by kernel_rfl
theorem cells_page (w : World) (xs : List Value) (t : Nat) : ∀ (j : Nat) (u : Value), xs[j]? = some u → (w.alloc (.cells xs.toArray t)).cell? ((⟨w.heap.size, 0, none⟩ : Addr).add j) = some u := fun j u hj => by
  rw [add_plain, Nat.zero_add, (Whole.new w t xs).cell]; exact hj
/-- A change whose bytes begin a block of their own, from B0 on. -/
structure RMade (w : World) (B0 : Nat) (a : ChV) : Prop where
  b : ∃ g r, a.bA = some ⟨g, 0, none⟩ ∧ B0 ≤ g ∧ Whole w g 5 (bts a.B ++ r) ∧ a.bc = 64 + r.length ∧ 64 + r.length ≤ 9223372036854775807
  bl : a.B.length = 64
  bn : a.bn = 64
  p : 0 ≤ a.page ∧ a.page < 65536
theorem RMade.ok {w : World} {B0 : Nat} {a : ChV} (h : RMade w B0 a) : ChOk w a := by
  obtain ⟨g, r, hg, _, hW, hc, hm⟩ := h.b
  refine ⟨by have := h.p; omega, by have := h.p; omega, ?_⟩
  rw [hg, h.bn, hc]
  exact Bs.of_whole hW h.bl (by rw [List.take_left' (by rw [bts_len, h.bl])]) (by omega) hm
theorem RMade.chg {w w' : World} {B0 : Nat} {a : ChV} {T : List Nat} (h : RMade w B0 a) (hc : Chg T w w') (hT : ∀ i ∈ T, i < B0 ∨ w.heap.size ≤ i) : RMade w' B0 a := by
  obtain ⟨g, r, hg, hB, hW, hr⟩ := h.b
  exact { h with b := ⟨g, r, hg, hB, hW.chg hc (fun hm => by have := hT g hm; have := hW.lt; omega), hr⟩ }
theorem RMade.grown {w w' : World} {B0 B2 m : Nat} {v2 : Value} {ys : List Value} {a : ChV} (h : RMade w B0 a) (h2 : w.ownsRow B2 53 2 v2 m ys) (hg : w.grownBy w' v2.ownBlock) : RMade w' B0 a := by
  obtain ⟨g, r, hg1, hB, hW, hr⟩ := h.b
  exact { h with b := ⟨g, r, hg1, hB, whole_grown hW h2 (by decide) hg, hr⟩ }
theorem chs_own' {w : World} {B n : Nat} {e : TypeId} {v : Value} {l : List ChV} (h : w.ownsRow B e 2 v n (chCs l)) (hok : ∀ a ∈ l, ChOk w a) :
    ∃ A c, v = .slice A n c ∧ l.length = n ∧ Chs w A l ∧ n ≤ 9223372036854775807 ∧ n ≤ c ∧ (∀ ad, A = some ad → ad.spot = none) := by
  have hl : l.length = n := by have := h.1; rw [chCs_len] at this; omega
  rcases h.2 with ⟨rfl, rfl⟩ | ⟨g, cap, cur, rfl, hb, hg, hn, hc, hs, ht⟩
  · exact ⟨none, 0, rfl, hl, ⟨fun h => absurd h (by omega), hok⟩, by omega, Nat.le_refl _, fun ad e => by cases e⟩
  · have hgl : g < w.heap.size := by
      rcases Nat.lt_or_ge g w.heap.size with hlt | hge
      · exact hlt
      · rw [Array.getElem?_eq_none hge] at hg; cases hg
    refine ⟨_, cap, rfl, hl, ⟨fun _ => ⟨g, 0, rfl, hgl, fun k a ha => ?_⟩, hok⟩, by unfold maxLen at hc; omega, hn, fun ad e => by injection e with e; subst e; rfl⟩
    have hx : ∀ j u, (chCs l)[j]? = some u → w.cell? ((⟨g, 0, none⟩ : Addr).add j) = some u := h.cells rfl
    have q : ∀ j, j < 2 → ∀ u, (chC a)[j]? = some u → w.cell? ⟨g, k * 2 + j, none⟩ = some u := fun j hj u hu => by
      have := hx (k * 2 + j) u ((chCs_get l k a j ha hj).trans hu)
      rwa [add_plain, Nat.zero_add] at this
    simp only [Nat.zero_add]
    exact ⟨q 0 (by omega) _ rfl, q 1 (by omega) _ rfl⟩
theorem MadeCh.rmade {w : World} {B0 : Nat} {a : ChV} (h : MadeCh w B0 a) : RMade w B0 a := by
  obtain ⟨g, hg, hB, hW⟩ := h.b
  exact ⟨⟨g, [], hg, hB, by rw [List.append_nil]; exact hW, by rw [h.bc]; rfl, by simp⟩, h.bl, h.bn, h.p⟩
end Go.Proofs.Ytlhkmbcjgdjegaa
namespace Go.Proofs.Ytlhkmbcjgdjegaa
open Go.RowKit
/-- r is a number of lo .. hi, and n itself where n is one. -/
def Into (n lo hi r : Int) : Prop := lo ≤ r ∧ r ≤ hi ∧ (lo ≤ n → n ≤ hi → r = n)
/-- What Within has done. -/
def WithinPost (n lo hi : Int) (w : World) (e : Ending) (w' : World) : Prop := ∃ r : Int, Into n lo hi r ∧ e = .returned (.int .i64 r) ∧ w = w'
/-- The number itself, or brought into lo .. hi. -/
def withinI (n lo hi : Int) : Int := if lo ≤ n ∧ n ≤ hi then n else if n.tmod (hi - lo + 1) < 0 then lo + (n.tmod (hi - lo + 1) + hi - lo + 1) else lo + n.tmod (hi - lo + 1)
theorem into_within (n lo hi : Int) (h1 : lo ≤ hi) : Into n lo hi (withinI n lo hi) := by
  have b1 := Int.tmod_lt_of_pos n (show 0 < hi - lo + 1 by omega)
  have b2 := Int.lt_tmod_of_pos n (show 0 < hi - lo + 1 by omega)
  unfold withinI
  split
  · rename_i h; exact ⟨h.1, h.2, fun _ _ => rfl⟩
  · rename_i h
    split
    · exact ⟨by omega, by omega, fun ha hb => absurd ⟨ha, hb⟩ h⟩
    · exact ⟨by omega, by omega, fun ha hb => absurd ⟨ha, hb⟩ h⟩
theorem ret_within {a b : Int} (h : a = b) : Ending.returned (.int .i64 a) = .returned (.int .i64 b) := by rw [h]
section
variable {w : World}
set_option maxHeartbeats 1000000 in
theorem within_is (n lo hi : Int) (h0 : -1000000 ≤ lo) (h1 : lo ≤ hi) (h2 : hi ≤ 1000000) (hn0 : -9223372036854775808 ≤ n) (hn1 : n ≤ 9223372036854775807) :
    Calls Try.prog 18 #[.int .i64 n, .int .i64 lo, .int .i64 hi] w fun e w' => e = .returned (.int .i64 (withinI n lo hi)) ∧ w = w' := by
  have b1 := Int.tmod_lt_of_pos n (show 0 < hi - lo + 1 by omega)
  have b2 := Int.lt_tmod_of_pos n (show 0 < hi - lo + 1 by omega)
  have hne : ((hi - lo + 1) == 0) = false := by simp; omega
  by_cases ha : lo ≤ n
  · by_cases hb : n ≤ hi
    · have HI := Lib.hid (show withinI n lo hi = n by unfold withinI; rw [if_pos ⟨ha, hb⟩])
      go_enter Try.func18, Try.ntmps18
      go_wp2_with fail
      go_ret
      exact ⟨ret_within HI.out.symm, rfl⟩
    · by_cases hm : n.tmod (hi - lo + 1) < 0
      · have HI := Lib.hid (show withinI n lo hi = lo + (n.tmod (hi - lo + 1) + hi - lo + 1) by unfold withinI; rw [if_neg (fun h => hb h.2), if_pos hm])
        go_enter Try.func18, Try.ntmps18
        go_wp2_with fail
        go_ret
        exact ⟨ret_within HI.out.symm, rfl⟩
      · have HI := Lib.hid (show withinI n lo hi = lo + n.tmod (hi - lo + 1) by unfold withinI; rw [if_neg (fun h => hb h.2), if_neg hm])
        go_enter Try.func18, Try.ntmps18
        go_wp2_with fail
        go_ret
        exact ⟨ret_within HI.out.symm, rfl⟩
  · have hd : decide (lo ≤ n) = false := by simp; omega
    by_cases hm : n.tmod (hi - lo + 1) < 0
    · have HI := Lib.hid (show withinI n lo hi = lo + (n.tmod (hi - lo + 1) + hi - lo + 1) by unfold withinI; rw [if_neg (fun h => ha h.1), if_pos hm])
      go_enter Try.func18, Try.ntmps18
      go_wp2_with fail
      go_ret
      exact ⟨ret_within HI.out.symm, rfl⟩
    · have HI := Lib.hid (show withinI n lo hi = lo + n.tmod (hi - lo + 1) by unfold withinI; rw [if_neg (fun h => ha h.1), if_neg hm])
      go_enter Try.func18, Try.ntmps18
      go_wp2_with fail
      go_ret
      exact ⟨ret_within HI.out.symm, rfl⟩
/-- A number of lo .. hi. -/
theorem within_any (n lo hi : Int) (h0 : -1000000 ≤ lo) (h1 : lo ≤ hi) (h2 : hi ≤ 1000000) (hn0 : -9223372036854775808 ≤ n) (hn1 : n ≤ 9223372036854775807) :
    Calls Try.prog 18 #[.int .i64 n, .int .i64 lo, .int .i64 hi] w (WithinPost n lo hi w) :=
  (within_is n lo hi h0 h1 h2 hn0 hn1).mono fun _ _ ⟨h1', h2'⟩ => ⟨_, into_within n lo hi h1, h1', h2'⟩
end
end Go.Proofs.Ytlhkmbcjgdjegaa
namespace Go.Proofs.Ytlhkmbcjgdjegaa
open Go.RowKit
/-- A tape as it lies in memory: its numbers, where it stands. -/
structure Tp (w : World) (p : Nat) (A : Option Addr) (n c : Nat) (l : List Int) (at_ : Nat) : Prop where
  rec_ : Whole w p 117 [.slice A n c, .int .i64 (at_ : Int)]
  len : l.length = n
  src : Src w A (nms l)
  spot : 0 < n → ∀ ad, A = some ad → ad.spot = none ∧ ad.block < p
  rng : ∀ x ∈ l, -9223372036854775808 ≤ x ∧ x ≤ 9223372036854775807
  le : at_ ≤ n
  max : n ≤ 9223372036854775807
theorem nms_at (l : List Int) (i : Nat) (h : i < l.length) : (nms l)[i]? = some (.int .i64 l[i]) := by simp [nms, h]
section
variable {w : World}
set_option maxHeartbeats 1000000 in
theorem within_big (n lo hi : Int) (h0 : -1000000 ≤ lo) (h1 : lo ≤ hi) (h2 : hi ≤ 2000000000) (hn0 : -9223372036854775808 ≤ n) (hn1 : n ≤ 9223372036854775807) :
    Calls Try.prog 18 #[.int .i64 n, .int .i64 lo, .int .i64 hi] w fun e w' => e = .returned (.int .i64 (withinI n lo hi)) ∧ w = w' := by
  have b1 := Int.tmod_lt_of_pos n (show 0 < hi - lo + 1 by omega)
  have b2 := Int.lt_tmod_of_pos n (show 0 < hi - lo + 1 by omega)
  have hne : ((hi - lo + 1) == 0) = false := by simp; omega
  by_cases ha : lo ≤ n
  · by_cases hb : n ≤ hi
    · have HI := Lib.hid (show withinI n lo hi = n by unfold withinI; rw [if_pos ⟨ha, hb⟩])
      go_enter Try.func18, Try.ntmps18
      go_wp2_with fail
      go_ret
      exact ⟨ret_within HI.out.symm, rfl⟩
    · by_cases hm : n.tmod (hi - lo + 1) < 0
      · have HI := Lib.hid (show withinI n lo hi = lo + (n.tmod (hi - lo + 1) + hi - lo + 1) by unfold withinI; rw [if_neg (fun h => hb h.2), if_pos hm])
        go_enter Try.func18, Try.ntmps18
        go_wp2_with fail
        go_ret
        exact ⟨ret_within HI.out.symm, rfl⟩
      · have HI := Lib.hid (show withinI n lo hi = lo + n.tmod (hi - lo + 1) by unfold withinI; rw [if_neg (fun h => hb h.2), if_neg hm])
        go_enter Try.func18, Try.ntmps18
        go_wp2_with fail
        go_ret
        exact ⟨ret_within HI.out.symm, rfl⟩
  · have hd : decide (lo ≤ n) = false := by simp; omega
    by_cases hm : n.tmod (hi - lo + 1) < 0
    · have HI := Lib.hid (show withinI n lo hi = lo + (n.tmod (hi - lo + 1) + hi - lo + 1) by unfold withinI; rw [if_neg (fun h => ha h.1), if_pos hm])
      go_enter Try.func18, Try.ntmps18
      go_wp2_with fail
      go_ret
      exact ⟨ret_within HI.out.symm, rfl⟩
    · have HI := Lib.hid (show withinI n lo hi = lo + n.tmod (hi - lo + 1) by unfold withinI; rw [if_neg (fun h => ha h.1), if_neg hm])
      go_enter Try.func18, Try.ntmps18
      go_wp2_with fail
      go_ret
      exact ⟨ret_within HI.out.symm, rfl⟩
end
section
variable {w w' : World} {p n c at_ : Nat} {A : Option Addr} {l : List Int}
theorem Tp.keep (h : Tp w p A n c l at_) (hc : Chg [] w w') : Tp w' p A n c l at_ := ⟨h.rec_.keep hc, h.len, h.src.keep hc, h.spot, h.rng, h.le, h.max⟩
theorem Tp.other (h : Tp w p A n c l at_) {g j : Nat} (hg : g ≠ p) (hA : ∀ ad, A = some ad → 0 < n → ad.block ≠ g) (u : Value) : Tp (w.setCell ⟨g, j, none⟩ u) p A n c l at_ := by
  refine ⟨h.rec_.far (by simpa using Ne.symm hg) u, h.len, fun hp => ?_, h.spot, h.rng, h.le, h.max⟩
  obtain ⟨ad, e, hb, hy⟩ := h.src hp
  have hn : 0 < n := by have := h.len; simp [nms] at hp; omega
  refine ⟨ad, e, by simpa [World.setCell] using hb, fun i v hi => ?_⟩
  have h1 := hy i v hi
  have e2 : (ad.add i).block = ad.block := by unfold Addr.add; split <;> rfl
  rw [← h1]
  exact World.cell?_of_block (w := w) (Below.heap_setCell w _ u _ (by rw [e2]; exact hA ad e hn))
theorem Tp.grown {B2 m k2 : Nat} {e2 : TypeId} {v2 : Value} {ys : List Value} (h : Tp w p A n c l at_) (h2 : w.ownsRow B2 e2 k2 v2 m ys) (hg : w.grownBy w' v2.ownBlock) (hne : 117 ≠ e2) (hB : p < B2) : Tp w' p A n c l at_ := by
  refine ⟨whole_grown h.rec_ h2 hne hg, h.len, fun hp => ?_, h.spot, h.rng, h.le, h.max⟩
  obtain ⟨ad, e, hb, hy⟩ := h.src hp
  have hn : 0 < n := by have := h.len; simp [nms] at hp; omega
  refine ⟨ad, e, Nat.lt_of_lt_of_le hb hg.size, fun i v hi => ?_⟩
  have h1 := hy i v hi
  have e3 : (ad.add i).block = ad.block := by unfold Addr.add; split <;> rfl
  rw [← h1]
  refine World.cell?_of_block (w := w) (hg.block _ (by rw [e3]; exact hb) (fun hc => ?_))
  rw [e3] at hc
  have := (h2.lt _ hc.symm).1
  have := (h.spot hn ad e).2
  omega
theorem chg_grown2 {T : List Nat} {a w w' : World} {row : Option Nat} (h : Chg T a w) (hg : w.grownBy w' row) (hr : ∀ g, row = some g → a.heap.size ≤ g) : Chg T a w' :=
  h.then_ (T' := row.toList) (Chg.of_grown hg fun g e _ => by simp [e]) fun i hi hlt => by
    have := hr i (by simpa using hi)
    omega
theorem Tp.lt (h : Tp w p A n c l at_) : p < w.heap.size := h.rec_.lt
/-- A number of 0 .. m - 1, and the tape one further. -/
def NextPost (w : World) (p : Nat) (A : Option Addr) (n c : Nat) (l : List Int) (m : Nat) (e : Ending) (w' : World) : Prop :=
  ∃ (r a' : Nat), r < m ∧ e = .returned (.int .i64 (r : Int)) ∧ Tp w' p A n c l a' ∧ Chg [p] w w'
set_option maxHeartbeats 4000000 in
set_option maxRecDepth 100000 in
theorem next_any (h : Tp w p A n c l at_) (m : Nat) (hm : 0 < m) (hm2 : m ≤ 1000000) :
    Calls Try.prog 74 #[.pointer (some ⟨p, 0, none⟩), .int .i64 (m : Int)] w (NextPost w p A n c l m) := by
  have c0 := h.rec_.cell 0
  have c1 := h.rec_.cell 1
  have f1 := h.rec_.frozen 1
  have hle := h.le
  have hmax := h.max
  have H := Lib.hid h
  clear h
  have hmd : ¬ (m : Int) < 1 := by omega
  have hmd1 : decide ((m : Int) < 1) = false := by simp; omega
  by_cases hlt : at_ < n
  · have hd1 : decide (n ≤ at_) = false := by simp; omega
    have hd2 : decide ((n : Int) ≤ (at_ : Int)) = false := by simp; omega
    obtain ⟨ad, rfl, _, hx⟩ := H.out.src (by simp [nms]; have := H.out.len; omega)
    have hx1 := hx at_ _ (nms_at l at_ (by have := H.out.len; omega))
    obtain ⟨b, o, s⟩ := ad
    obtain ⟨hs, hbp⟩ := H.out.spot (by omega) _ rfl
    simp only at hs hbp
    subst hs
    rw [add_plain] at hx1
    have hal : at_ < l.length := by have := H.out.len; omega
    have hrz := H.out.rng l[at_] (List.getElem_mem hal)
    generalize l[at_] = z at hx1 hrz
    obtain ⟨hz0, hz1⟩ := hrz
    clear hx
    go_enter Try.func74, Try.ntmps74
    go_wp2_with fail
    go_quiet (fail)
    go_wp2_with fail
    have hR3 := ((H.out.rec_.keep ((Chg.refl [] w).drewN nq)).set_ 1 (.int .i64 ((at_ : Int) + 1)))
    have hc3 : Chg [p] w ((w.drewN nq).setCell ⟨p, 1, none⟩ (.int .i64 ((at_ : Int) + 1))) := ((Chg.refl [p] w).drewN nq).setCell (by simp) _
    generalize (w.drewN nq).setCell ⟨p, 1, none⟩ (.int .i64 ((at_ : Int) + 1)) = w3 at hR3 hc3 ⊢
    have hs3 : Src w3 (some ⟨b, o, none⟩) (nms l) := fun hp => by
      obtain ⟨ad, e, hb, hy⟩ := H.out.src hp
      injection e with e
      subst e
      refine ⟨_, rfl, Nat.lt_of_lt_of_le hb hc3.size, fun j v hj => ?_⟩
      have := hy j v hj
      rw [add_plain] at this ⊢
      rw [← this]
      exact World.cell?_of_block (w := w) (hc3.block b hb (by simp; omega))
    have hT3 : Tp w3 p (some ⟨b, o, none⟩) n c l (at_ + 1) := ⟨by simpa using hR3, H.out.len, hs3, H.out.spot, H.out.rng, by omega, H.out.max⟩
    have k0 := hT3.rec_.cell 0
    have k1 := hT3.rec_.cell 1
    have k2 : w3.cell? ⟨b, o + at_, none⟩ = some (.int .i64 z) := by
      rw [← hx1]
      exact World.cell?_of_block (w := w) (hc3.block b (block_lt_of_cell hx1) (by simp; omega))
    clear hx1 c0 c1 f1 hR3 hs3
    obtain ⟨q, hq, hq2⟩ : ∃ q : Nat, withinI z 0 1073741824 = (q : Int) ∧ q ≤ 1073741824 := by
      have hin := into_within z 0 1073741824 (by omega)
      exact ⟨(withinI z 0 1073741824).toNat, by have := hin.1; omega, by have h1 := hin.1; have h2 := hin.2.1; omega⟩
    have hw : ∀ W : World, Calls Try.prog 18 #[.int .i64 z, .int .i64 0, .int .i64 1073741824] W fun e w' => e = .returned (.int .i64 (q : Int)) ∧ w' = W := fun W =>
      (within_big z 0 1073741824 (by omega) (by omega) (by omega) hz0 hz1).mono fun _ _ ⟨h1, h2⟩ => ⟨by rw [h1, hq], h2.symm⟩
    have HT := Lib.hid hT3
    have HW := Lib.hid hw
    have HC := Lib.hid hc3
    have hsub : IntKind.i64.wrap (at_ : Int) = (at_ : Int) := IntWalk.i64_in _ (by omega)
    have hatn : (at_ : Int).toNat = at_ := Int.toNat_natCast _
    have hat0 : (0 : Int) ≤ (at_ : Int) := by omega
    have htm : (q : Int).tmod (m : Int) = ((q % m : Nat) : Int) := rfl
    have hlast : q % m < m := Nat.mod_lt _ hm
    have hatI : (at_ : Int) < (n : Int) := by omega
    have hm0 : ((m : Int) == 0) = false := by simp; omega
    clear hT3 hw hc3 hq H
    go_quiet ((go_at_call 18; exact Calls.quiet_of_same (HW.out _)))
    go_wp2_with fail
    go_ret
    exact ⟨q % m, at_ + 1, hlast, rfl, HT.out.keep ((Chg.refl _ _).drewN _), HC.out.drewN _⟩
  · have hd1 : decide (n ≤ at_) = true := by simp; omega
    have hd2 : decide ((n : Int) ≤ (at_ : Int)) = true := by simp; omega
    go_enter Try.func74, Try.ntmps74
    go_wp2_with fail
    go_quiet (fail)
    go_wp2_with fail
    go_ret
    exact ⟨0, at_, hm, rfl, H.out.keep ((Chg.refl _ _).drewN _), (Chg.refl _ _).drewN _⟩
end
end Go.Proofs.Ytlhkmbcjgdjegaa
namespace Go.Proofs.Ytlhkmbcjgdjegaa
open Go.RowKit
/-- The number of two bytes. -/
def num2 (l : List UInt8) : Nat := (l.getD 0 0).toNat * 256 + (l.getD 1 0).toNat
theorem ofInt_small (a : Nat) (h : a < 65536) : (BitVec.ofInt 64 (a : Int)).toNat = a := by
  rw [BitVec.toNat_ofInt]
  omega
theorem or_two (x y : UInt8) : bits .or .i64 ((x.toNat : Int) * 256) (y.toNat : Int) = ((x.toNat * 256 + y.toNat : Nat) : Int) := by
  have hx := x.toNat_lt
  have hy := y.toNat_lt
  have e1 : (x.toNat : Int) * 256 = ((x.toNat * 256 : Nat) : Int) := by omega
  rw [e1]
  show IntKind.i64.wrap ((BitVec.ofInt 64 ((x.toNat * 256 : Nat) : Int) ||| BitVec.ofInt 64 (y.toNat : Int)).toNat : Int) = _
  rw [BitVec.toNat_or, ofInt_small _ (by omega), ofInt_small _ (by omega), nat_join 8 (x.toNat * 256) y.toNat (by omega) (by omega)]
  exact IntWalk.i64_in _ (by omega)
theorem ret_word {a b : Int} (h : a = b) : Ending.returned (.int .i64 a) = .returned (.int .i64 b) := by rw [h]
section
variable {w : World} {A : Option Addr} {n c : Nat} {l : List UInt8}
set_option maxHeartbeats 2000000 in
theorem dget_any (h : Bs w A n c l) (hn : 2 ≤ n) :
    Calls Try.prog 121 #[.slice A n c] w fun e w' => e = .returned (.int .i64 (num2 l : Nat)) ∧ Chg [] w w' := by
  obtain ⟨x, y, t, rfl⟩ : ∃ x y t, l = x :: y :: t := by
    match l, h.len with
    | [], h0 => simp at h0; omega
    | [_], h0 => simp at h0; omega
    | x :: y :: t, _ => exact ⟨x, y, t, rfl⟩
  obtain ⟨ad, rfl, _, hx⟩ := h.src (by simp [bts])
  obtain ⟨b, o, s⟩ := ad
  obtain rfl : s = none := h.spot (by omega) _ rfl
  have h0 := hx 0 (B8 x) rfl
  have h1 := hx 1 (B8 y) rfl
  rw [add_plain, Nat.add_zero] at h0
  rw [add_plain] at h1
  unfold B8 at h0 h1
  have hx256 := x.toNat_lt
  have hy256 := y.toNat_lt
  have hnI : (1 : Int) < (n : Int) := by omega
  have hnJ : (0 : Int) < (n : Int) := by omega
  clear hx
  go_enter Try.func121, Try.ntmps121
  go_wp2_with fail
  go_quiet (fail)
  go_wp2_with fail
  go_ret
  exact ⟨ret_word (by rw [or_two]; simp [num2]), (Chg.refl _ _).drewN _⟩
end
end Go.Proofs.Ytlhkmbcjgdjegaa
