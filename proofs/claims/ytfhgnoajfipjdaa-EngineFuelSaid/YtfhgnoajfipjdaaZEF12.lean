/-
  EF: WordPure, CellsPure, Mm, MmNew, Word.
-/
import Derived.Test.YtfhgnoajfipjdaaZEF1
import Derived.Test.YtfhgnoajfipjdaaZEF3
import Derived.Laws.BitsLemmas
import Derived.IntWalk
import Derived.Test.YtfhgnoajfipjdaaChecked
import Derived.Deep.QuietTactic
import Derived.BigQuiet
import Derived.BigRegion
import Derived.Deep.RegionWith
namespace Go.Proofs.Ytfhgnoajfipjdaa
open Go.RowKit

theorem i64_and63 (n : Int) : bits .and .i64 n 63 = n % 64 := by
  have h127 : (BitVec.ofInt 64 63).toNat = 2 ^ 6 - 1 := by decide
  have key : (BitVec.ofInt 64 n &&& BitVec.ofInt 64 63).toNat = (n % ((2 ^ 64 : Nat) : Int)).toNat % 2 ^ 6 := by
    rw [BitVec.toNat_and, BitVec.toNat_ofInt, h127, Nat.and_two_pow_sub_one_eq_mod]
  show IntKind.i64.wrap ((BitVec.ofInt 64 n &&& BitVec.ofInt 64 63).toNat : Nat) = n % 64
  rw [key, IntKind.wrap_i64]
  omega
/-- What Do answers: the number, the trap. -/
def doR (s a b : Int) : Int × Int :=
  if s = 43 then (wrap64 (a + b), 0) else if s = 45 then (wrap64 (a - b), 0) else if s = 42 then (wrap64 (a * b), 0)
  else if s = 47 then (if b = 0 then (0, 3) else if a = -9223372036854775808 ∧ b = -1 then (0, 4) else (wrap64 (a.tdiv b), 0))
  else if s = 37 then (if b = 0 then (0, 3) else (a.tmod b, 0))
  else if s = 38 then (bits .and .i64 a b, 0) else if s = 124 then (bits .or .i64 a b, 0) else if s = 94 then (bits .xor .i64 a b, 0)
  else if s = 60 then (if a < b then 1 else 0, 0) else if s = 61 then (if a = b then 1 else 0, 0)
  else if s = 171 then (wrap64 (a * 2 ^ (b % 64).toNat), 0) else if s = 187 then (a / 2 ^ (b % 64).toNat, 0)
  else if s = 33 then (if a = 0 then 1 else 0, 0) else (0, 2)
theorem doR_none {s : Int} (a b : Int) (h : s ≠ 43 ∧ s ≠ 45 ∧ s ≠ 42 ∧ s ≠ 47 ∧ s ≠ 37 ∧ s ≠ 38 ∧ s ≠ 124 ∧ s ≠ 94 ∧ s ≠ 60 ∧ s ≠ 61 ∧ s ≠ 171 ∧ s ≠ 187 ∧ s ≠ 33) : doR s a b = (0, 2) := by
  obtain ⟨h1, h2, h3, h4, h5, h6, h7, h8, h9, h10, h11, h12, h13⟩ := h
  simp [doR, h1, h2, h3, h4, h5, h6, h7, h8, h9, h10, h11, h12, h13]
end Go.Proofs.Ytfhgnoajfipjdaa
namespace Go.Proofs.Ytfhgnoajfipjdaa
open Go.RowKit

/-- Byte i of a number. -/
def byteN (n : Int) (i : Nat) : UInt8 := UInt8.ofNat (n / 2 ^ (8 * i) % 256).toNat
theorem byteN_int (n : Int) (i : Nat) : ((byteN n i).toNat : Int) = n / 2 ^ (8 * i) % 256 := by
  unfold byteN
  rw [UInt8.toNat_ofNat']
  have h1 := Int.emod_nonneg (n / 2 ^ (8 * i)) (show (256 : Int) ≠ 0 by omega)
  have h2 := Int.emod_lt_of_pos (n / 2 ^ (8 * i)) (show (0 : Int) < 256 by omega)
  omega
/-- m bytes of n from k on. -/
def stL (L : List UInt8) (k : Nat) (n : Int) : Nat → List UInt8
  | 0 => L
  | m + 1 => (stL L k n m).set (k + m) (byteN n m)
def stV (V : List Bool) (k : Nat) : Nat → List Bool
  | 0 => V
  | m + 1 => (stV V k m).set ((k + m) / 64) true
theorem stL_len (L : List UInt8) (k : Nat) (n : Int) (m : Nat) : (stL L k n m).length = L.length := by
  induction m with
  | zero => rfl
  | succ m ih => rw [stL, List.length_set, ih]
theorem stV_len (V : List Bool) (k m : Nat) : (stV V k m).length = V.length := by
  induction m with
  | zero => rfl
  | succ m ih => rw [stV, List.length_set, ih]
/-- The number that bytes are, the lowest first. -/
def ldN : List UInt8 → Nat
  | [] => 0
  | b :: l => b.toNat + 256 * ldN l
theorem ldN_lt (l : List UInt8) : ldN l < 256 ^ l.length := by
  induction l with
  | nil => simp [ldN]
  | cons b l ih =>
    have h := b.toNat_lt
    rw [ldN, List.length_cons, Nat.pow_succ]
    omega
theorem ldN_next (L : List UInt8) (k j m : Nat) (h : k + j < L.length) (hm : 0 < m) : ldN ((L.drop (k + j)).take m) = (L[k + j]).toNat + 256 * ldN ((L.drop (k + j + 1)).take (m - 1)) := by
  obtain ⟨q, rfl⟩ : ∃ q, m = q + 1 := ⟨m - 1, by omega⟩
  rw [List.drop_eq_getElem_cons h, List.take_succ_cons, ldN]
  rfl
/-- What a Load tells. -/
def ldI (L : List UInt8) (k s : Nat) : Int := IntKind.i64.wrap (ldN ((L.drop k).take s) : Nat)
theorem u64_shl_or (a : Nat) (b : UInt8) (ha : a < 72057594037927936) : bits .or .u64 ((a : Int) * 256) (b.toNat : Int) = ((b.toNat + 256 * a : Nat) : Int) := by
  have hb := b.toNat_lt
  have e := bits_or_u64_nat (a * 256) b.toNat (by omega) (by omega)
  have e1 : ((a * 256 : Nat) : Int) = (a : Int) * 256 := by omega
  rw [e1] at e
  rw [e]
  congr 1
  have h := Nat.shiftLeft_add_eq_or_of_lt (i := 8) (b := b.toNat) (by omega) a
  rw [Nat.shiftLeft_eq] at h
  have h256 : (2 : Nat) ^ 8 = 256 := rfl
  rw [h256] at h
  rw [← h]
  omega
end Go.Proofs.Ytfhgnoajfipjdaa
namespace Go.Proofs.Ytfhgnoajfipjdaa
open Go.RowKit

/-- A memory: its struct lies in block p, its bytes L in gC, what is dirty (V) in gD; X and Y are the spare room. -/
structure Mm (w : World) (p gC gD : Nat) (L : List UInt8) (X : List Value) (V : List Bool) (Y : List Value) (most : Nat) : Prop where
  rec_ : Whole w p 109 [.slice (some ⟨gC, 0, none⟩) L.length (L.length + X.length), .int .i64 (most : Int), .slice (some ⟨gD, 0, none⟩) V.length (V.length + Y.length)]
  cel : Whole w gC 5 (bts L ++ X)
  dir : Whole w gD 4 (bls V ++ Y)
  len : L.length = 64 * V.length
  le : V.length ≤ most
  top : most ≤ 64
  capX : L.length + X.length ≤ maxLen
  capY : V.length + Y.length ≤ maxLen

section
variable {w w' : World} {p gC gD : Nat} {L : List UInt8} {X : List Value} {V : List Bool} {Y : List Value} {most : Nat}
theorem Mm.keep (h : Mm w p gC gD L X V Y most) (hc : Chg [] w w') : Mm w' p gC gD L X V Y most :=
  ⟨h.rec_.keep hc, h.cel.keep hc, h.dir.keep hc, h.len, h.le, h.top, h.capX, h.capY⟩
theorem Mm.away {T : List Nat} (h : Mm w p gC gD L X V Y most) (hc : Chg T w w') (h0 : p ∉ T) (h1 : gC ∉ T) (h2 : gD ∉ T) : Mm w' p gC gD L X V Y most :=
  ⟨h.rec_.chg hc h0, h.cel.chg hc h1, h.dir.chg hc h2, h.len, h.le, h.top, h.capX, h.capY⟩
theorem Mm.small (h : Mm w p gC gD L X V Y most) : L.length ≤ 4096 := by have := h.len; have := h.le; have := h.top; omega
theorem Mm.smallV (h : Mm w p gC gD L X V Y most) : V.length ≤ 64 := by have := h.le; have := h.top; omega
theorem Mm.byte (h : Mm w p gC gD L X V Y most) (k : Nat) (hk : k < L.length) : w.cell? ⟨gC, k, none⟩ = some (B8 L[k]) := by
  rw [h.cel.cell, List.getElem?_append_left (by rw [bts_len]; exact hk)]
  exact bts_get L k hk
theorem Mm.bit (h : Mm w p gC gD L X V Y most) (k : Nat) (hk : k < V.length) : w.cell? ⟨gD, k, none⟩ = some (.bool V[k]) := by
  rw [h.dir.cell, List.getElem?_append_left (by rw [bls_len]; exact hk)]
  exact bls_get V k hk
theorem Mm.src (h : Mm w p gC gD L X V Y most) : Src w (some ⟨gC, 0, none⟩) (bts L) := by
  have := Src.of_whole h.cel 0 (bts L).length
  rwa [List.drop_zero, List.take_left' rfl] at this

theorem ret_i {x y : Int} (h : x = y) : Ending.returned (.int .i64 x) = .returned (.int .i64 y) := by rw [h]
set_option maxHeartbeats 400000 in
theorem width_any (b : Bool) : Calls Try.prog 185 #[.bool b] w fun e w' => e = .returned (.int .i64 (if b then 8 else 1)) ∧ w = w' := by
  cases b <;>
  · go_enter Try.func185, Try.ntmps185
    go_wp2_with fail
    go_ret
    exact ⟨rfl, rfl⟩
set_option maxHeartbeats 400000 in
theorem pages_any (h : Mm w p gC gD L X V Y most) : Calls Try.prog 168 #[.pointer (some ⟨p, 0, none⟩)] w fun e w' => e = .returned (.int .i64 (V.length : Int)) ∧ w = w' := by
  have c0 := h.rec_.cell 0
  have hl := Lib.hid h.len
  have b1 := h.small
  go_enter Try.func168, Try.ntmps168
  go_wp2_with fail
  go_ret
  exact ⟨ret_i (by have := hl.out; omega), rfl⟩
set_option maxHeartbeats 400000 in
theorem within_yes (h : Mm w p gC gD L X V Y most) (k s : Nat) (hs : s ≤ 8) (hk : k + s ≤ L.length) :
    Calls Try.prog 186 #[.pointer (some ⟨p, 0, none⟩), .int .i64 (k : Int), .int .i64 (s : Int)] w fun e w' => e = .returned (.bool true) ∧ w = w' := by
  have c0 := h.rec_.cell 0
  have b1 := h.small
  have hd : decide ((k : Int) ≤ (L.length : Int) - (s : Int)) = true := by simp; omega
  go_enter Try.func186, Try.ntmps186
  go_wp2_with fail
  go_ret
  exact ⟨rfl, rfl⟩
set_option maxHeartbeats 400000 in
theorem within_no (h : Mm w p gC gD L X V Y most) (k : Int) (s : Nat) (hs : s ≤ 8) (hk : k < 0 ∨ (L.length : Int) - s < k) :
    Calls Try.prog 186 #[.pointer (some ⟨p, 0, none⟩), .int .i64 k, .int .i64 (s : Int)] w fun e w' => e = .returned (.bool false) ∧ w = w' := by
  have c0 := h.rec_.cell 0
  have b1 := h.small
  by_cases h0 : 0 ≤ k
  · have hd : decide (k ≤ (L.length : Int) - (s : Int)) = false := by simp; omega
    clear hk
    go_enter Try.func186, Try.ntmps186
    go_wp2_with fail
    go_ret
    exact ⟨rfl, rfl⟩
  · have hd : decide (0 ≤ k) = false := by simpa using h0
    clear hk h0
    go_enter Try.func186, Try.ntmps186
    go_wp2_with fail
    go_ret
    exact ⟨rfl, rfl⟩
theorem ret2_eq {x y : Int} {b : Bool} (h : x = y) : Ending.returned (.tuple #[.int .i64 x, .bool b]) = .returned (.tuple #[.int .i64 y, .bool b]) := by rw [h]
set_option maxHeartbeats 400000 in
theorem load_no (h : Mm w p gC gD L X V Y most) (k : Int) (wide : Bool) (s : Nat) (hw : s = if wide then 8 else 1) (hk : k < 0 ∨ (L.length : Int) - s < k) :
    Calls Try.prog 170 #[.pointer (some ⟨p, 0, none⟩), .int .i64 k, .bool wide] w fun e w' => e = .returned (.tuple #[.int .i64 0, .bool false]) ∧ w = w' := by
  cases wide
  · simp only [Bool.false_eq_true, if_false] at hw
    subst hw
    go_enter Try.func170, Try.ntmps170
    go_wp2_with (first
      | (go_at_call 185; refine (width_any false).mono ?_; rintro e w' ⟨rfl, rfl⟩)
      | (go_at_call 186; refine (within_no h k 1 (by omega) hk).mono ?_; rintro e w' ⟨rfl, rfl⟩))
    go_ret2
    exact ⟨rfl, rfl⟩
  · simp only [if_true] at hw
    subst hw
    go_enter Try.func170, Try.ntmps170
    go_wp2_with (first
      | (go_at_call 185; refine (width_any true).mono ?_; rintro e w' ⟨rfl, rfl⟩)
      | (go_at_call 186; refine (within_no h k 8 (by omega) hk).mono ?_; rintro e w' ⟨rfl, rfl⟩))
    go_ret2
    exact ⟨rfl, rfl⟩
set_option maxHeartbeats 1000000 in
theorem load_yes (h : Mm w p gC gD L X V Y most) (k : Nat) (wide : Bool) (s : Nat) (hw : s = if wide then 8 else 1) (hk : k + s ≤ L.length) :
    Calls Try.prog 170 #[.pointer (some ⟨p, 0, none⟩), .int .i64 (k : Int), .bool wide] w fun e w' => e = .returned (.tuple #[.int .i64 (ldI L k s), .bool true]) ∧ w = w' := by
  have c0 := h.rec_.cell 0
  have b1 := h.small
  have s1 : s ≤ 8 := by subst hw; split <;> omega
  have s2 : 1 ≤ s := by subst hw; split <;> omega
  have HW := Lib.hid (show (if wide then (8 : Int) else 1) = (s : Int) by subst hw; cases wide <;> rfl)
  clear hw
  go_enter Try.func170, Try.ntmps170
  go_wp2_with (first
    | (go_at_call 185; refine (width_any wide).mono ?_; rintro e w' ⟨rfl, rfl⟩; rw [HW.out])
    | (go_at_call 186; refine (within_yes h k s s1 hk).mono ?_; rintro e w' ⟨rfl, rfl⟩))
  go_loop [9, 10] (fun a i => ∃ j : Nat, j ≤ s ∧ i = .int .i64 ((j : Int) - 1) ∧ a = .int .u64 (ldN ((L.drop (k + j)).take (s - j)) : Nat)) (fun _ i => (intOf i + 1).toNat)
  case atStart => exact ⟨s, Nat.le_refl _, rfl, by simp [ldN]⟩
  case round =>
    obtain ⟨j, hj, rfl, rfl⟩ := hrel
    by_cases h0 : 0 < j
    · obtain ⟨i, rfl⟩ : ∃ i, j = i + 1 := ⟨j - 1, by omega⟩
      have hki : k + i < L.length := by omega
      have hx := h.byte (k + i) hki
      unfold B8 at hx
      have hnx := ldN_next L k i (s - i) hki (by omega)
      have hlt := ldN_lt ((L.drop (k + i + 1)).take (s - (i + 1)))
      have hp : ldN ((L.drop (k + i + 1)).take (s - (i + 1))) < 72057594037927936 := by
        refine Nat.lt_of_lt_of_le hlt ?_
        have e7 : (256 : Nat) ^ 7 = 72057594037927936 := by decide
        rw [← e7]
        refine Nat.pow_le_pow_right (by omega) ?_
        rw [List.length_take]; omega
      rw [show s - i - 1 = s - (i + 1) by omega] at hnx
      have e1 : k + (i + 1) = k + i + 1 := rfl
      rw [e1]
      generalize ldN ((L.drop (k + i + 1)).take (s - (i + 1))) = a at *
      generalize L[k + i] = b at *
      have ho := u64_shl_or a b hp
      have HN := Lib.hid hnx
      have HO := Lib.hid ho
      have HB := Lib.hid (IntWalk.u64_in (b.toNat : Int) (by have := b.toNat_lt; omega))
      clear hnx hlt e1 ho
      have g1 : ((i + 1 : Nat) : Int) - 1 = (i : Int) := by omega
      rw [g1]
      have g2 : (0 : Int) ≤ (i : Int) := by omega
      go_wp2_with fail
      go_round
      case rel => exact ⟨i, by omega, rfl, by rw [HN.out, HB.out, HO.out]⟩
      case measure => simp [intOf] <;> omega
    · obtain rfl : j = 0 := by omega
      go_wp2_with fail
      go_ret2
      exact ⟨ret2_eq (by unfold ldI; first | rfl | exact (IntWalk.i64_left _).symm | (rw [IntWalk.i64_left]; rfl)), rfl⟩
end
end Go.Proofs.Ytfhgnoajfipjdaa
namespace Go.Proofs.Ytfhgnoajfipjdaa
open Go.RowKit

/-- A new memory. -/
def NewPost (w : World) (l : List UInt8) (k most : Nat) (e : Ending) (w' : World) : Prop :=
  ∃ p gC gD, e = .returned (.pointer (some ⟨p, 0, none⟩)) ∧ Mm w' p gC gD l [] (falses k) [] most ∧ w.heap.size ≤ p ∧ w.heap.size ≤ gC ∧ w.heap.size ≤ gD ∧ Chg [] w w'

section
variable {w : World}
theorem NewPost.drew {l : List UInt8} {k most : Nat} {e : Ending} {w' : World} (h : NewPost w l k most e w') : NewPost w l k most e w'.drew := by
  obtain ⟨p, gC, gD, he, hM, h1, h2, h3, hc⟩ := h
  exact ⟨p, gC, gD, he, hM.keep (Chg.refl [] w').drew, h1, h2, h3, hc.drew⟩
theorem new_end {W : World} {q gC gD k most n : Nat} {l : List UInt8} (hq : q = W.heap.size) (hC : Whole W gC 5 (bts l)) (hD : Whole W gD 4 (bls (falses k))) (hn : l.length = n) (hl : n = 64 * k) (h1 : k ≤ most) (h2 : most ≤ 64)
    (hc : Chg [] w W) (b1 : w.heap.size ≤ gC) (b2 : w.heap.size ≤ gD) :
    NewPost w l k most (.returned (.pointer (some ⟨q, 0, none⟩))) (W.alloc (.cells #[.slice (some ⟨gC, 0, none⟩) n n, .int .i64 (most : Int), .slice (some ⟨gD, 0, none⟩) k k] 109)) := by
  subst hq hn
  have hk : ∀ o, Chg [] W (W.alloc o) := fun o => (Chg.refl [] W).alloc o
  refine ⟨W.heap.size, gC, gD, rfl, ⟨?_, by simpa using hC.keep (hk _), by simpa using hD.keep (hk _), by rw [falses_len]; exact hl, by rw [falses_len]; exact h1, h2, by unfold maxLen; simp; omega, by unfold maxLen; simp [falses_len]; omega⟩, hc.size, b1, b2, hc.alloc _⟩
  have := Whole.new W 109 [.slice (some ⟨gC, 0, none⟩) l.length l.length, .int .i64 (most : Int), .slice (some ⟨gD, 0, none⟩) k k]
  simpa [falses_len] using this

set_option maxHeartbeats 1000000 in
set_option maxRecDepth 100000 in
theorem cnew_yes (k most : Nat) (h1 : k ≤ most) (h2 : most ≤ 64) :
    Calls Try.prog 14 #[.int .i64 (k : Int), .int .i64 (most : Int)] w (NewPost w (zeros (k * 64)) k most) := by
  have hd2 : decide ((most : Int) < (k : Int)) = false := by simp; omega
  have hd3 : decide (64 < (most : Int)) = false := by simp; omega
  have hmk : ∀ W : World, (Instr.makeSlice 46 (.int .i64 ((k : Int) * 64)) (.int .i64 ((k : Int) * 64))).run Try.prog W = .ok (.slice (some ⟨W.heap.size, 0, none⟩) (k * 64) (k * 64)) (W.alloc (.cells (bts (zeros (k * 64))).toArray 5)) :=
    fun W => by
      have := make_u8 (k * 64) (by omega) W
      simpa using this
  have hmb : ∀ W : World, (Instr.makeSlice 107 (.int .i64 (k : Int)) (.int .i64 (k : Int))).run Try.prog W = .ok (.slice (some ⟨W.heap.size, 0, none⟩) k k) (W.alloc (.cells (bls (falses k)).toArray 4)) :=
    fun W => make_bool k (by omega) W
  have hz : (zeros (k * 64)).length = k * 64 := zeros_len _
  have HZ := Lib.hid hz
  clear hz
  have hw : IntKind.i64.wrap ((k : Int) * 64) = (k : Int) * 64 := IntWalk.i64_in _ (by omega)
  go_enter Try.func14, Try.ntmps14
  go_wp2_with fail
  go_region_with fail
  all_goals
    go_wp2_with fail
    go_ret
  · have hA := Whole.new w 5 (bts (zeros (k * 64)))
    have hB := Whole.new (w.alloc (.cells (bts (zeros (k * 64))).toArray 5)) 4 (bls (falses k))
    rw [show (w.alloc (.cells (bts (zeros (k * 64))).toArray 5)).heap.size = w.heap.size + 1 by simp] at hB
    exact (new_end (W := (w.alloc (.cells (bts (zeros (k * 64))).toArray 5)).alloc (.cells (bls (falses k)).toArray 4)) (by simp) (hA.keep ((Chg.refl [] _).alloc _)) hB HZ.out (by omega) h1 h2 (((Chg.refl [] w).alloc _).alloc _) (Nat.le_refl _) (by omega)).drew
  · have hA := Whole.new w 4 (bls (falses k))
    have hB := Whole.new (w.alloc (.cells (bls (falses k)).toArray 4)) 5 (bts (zeros (k * 64)))
    rw [show (w.alloc (.cells (bls (falses k)).toArray 4)).heap.size = w.heap.size + 1 by simp] at hB
    exact (new_end (W := (w.alloc (.cells (bls (falses k)).toArray 4)).alloc (.cells (bts (zeros (k * 64))).toArray 5)) (by simp) hB (hA.keep ((Chg.refl [] _).alloc _)) HZ.out (by omega) h1 h2 (((Chg.refl [] w).alloc _).alloc _) (by omega) (Nat.le_refl _)).drew

variable {A : Option Addr} {n c : Nat} {l : List UInt8}
end
end Go.Proofs.Ytfhgnoajfipjdaa
namespace Go.Proofs.Ytfhgnoajfipjdaa
open Go.RowKit

/-- Do's answer as a result. -/
def DoPost (s a b : Int) (w : World) (e : Ending) (w' : World) : Prop := e = .returned (.tuple #[.int .i64 (doR s a b).1, .int .i64 (doR s a b).2]) ∧ w = w'
theorem do_post {s a b x y : Int} {w : World} (h : doR s a b = (x, y)) : DoPost s a b w (.returned (.tuple #[.int .i64 x, .int .i64 y])) w := by unfold DoPost; rw [h]; exact ⟨rfl, rfl⟩
theorem doR_43 (a b : Int) : doR 43 a b = (wrap64 (a + b), 0) := by simp [doR]
theorem doR_45 (a b : Int) : doR 45 a b = (wrap64 (a - b), 0) := by simp [doR]
theorem doR_42 (a b : Int) : doR 42 a b = (wrap64 (a * b), 0) := by simp [doR]
theorem doR_38 (a b : Int) : doR 38 a b = (bits .and .i64 a b, 0) := by simp [doR]
theorem doR_124 (a b : Int) : doR 124 a b = (bits .or .i64 a b, 0) := by simp [doR]
theorem doR_94 (a b : Int) : doR 94 a b = (bits .xor .i64 a b, 0) := by simp [doR]
theorem doR_60 (a b : Int) : doR 60 a b = (if a < b then 1 else 0, 0) := by simp [doR]
theorem doR_61 (a b : Int) : doR 61 a b = (if a = b then 1 else 0, 0) := by simp [doR]
theorem doR_171 (a b : Int) : doR 171 a b = (wrap64 (a * 2 ^ (b % 64).toNat), 0) := by simp [doR]
theorem doR_187 (a b : Int) : doR 187 a b = (a / 2 ^ (b % 64).toNat, 0) := by simp [doR]
theorem doR_33 (a b : Int) : doR 33 a b = (if a = 0 then 1 else 0, 0) := by simp [doR]
theorem doR_47 (a b : Int) : doR 47 a b = (if b = 0 then (0, 3) else if a = -9223372036854775808 ∧ b = -1 then (0, 4) else (wrap64 (a.tdiv b), 0)) := by simp [doR]
theorem doR_37 (a b : Int) : doR 37 a b = (if b = 0 then (0, 3) else (a.tmod b, 0)) := by simp [doR]
theorem tup2 {x y : Int} {u v : Int} (h : x = u) (k : y = v) : ((x, y) : Int × Int) = (u, v) := by rw [h, k]
section
variable {w : World}

set_option maxHeartbeats 400000 in
theorem truth_any (b : Bool) : Calls Try.prog 188 #[.bool b] w fun e w' => e = .returned (.int .i64 (if b then 1 else 0)) ∧ w = w' := by
  cases b <;>
  · go_enter Try.func188, Try.ntmps188
    go_wp2_with fail
    go_ret
    exact ⟨rfl, rfl⟩
set_option maxHeartbeats 400000 in
theorem do_add (a b : Int) : Calls Try.prog 173 #[.int .i32 43, .int .i64 a, .int .i64 b] w (DoPost 43 a b w) := by
  go_enter Try.func173, Try.ntmps173
  go_wp2_with fail
  go_ret2
  exact do_post (doR_43 a b)
set_option maxHeartbeats 400000 in
theorem do_sub (a b : Int) : Calls Try.prog 173 #[.int .i32 45, .int .i64 a, .int .i64 b] w (DoPost 45 a b w) := by
  go_enter Try.func173, Try.ntmps173
  go_wp2_with fail
  go_ret2
  exact do_post (doR_45 a b)
set_option maxHeartbeats 400000 in
theorem do_mul (a b : Int) : Calls Try.prog 173 #[.int .i32 42, .int .i64 a, .int .i64 b] w (DoPost 42 a b w) := by
  go_enter Try.func173, Try.ntmps173
  go_wp2_with fail
  go_ret2
  exact do_post (doR_42 a b)
set_option maxHeartbeats 400000 in
theorem do_and (a b : Int) : Calls Try.prog 173 #[.int .i32 38, .int .i64 a, .int .i64 b] w (DoPost 38 a b w) := by
  go_enter Try.func173, Try.ntmps173
  go_wp2_with fail
  go_ret2
  exact do_post (doR_38 a b)
set_option maxHeartbeats 400000 in
theorem do_or (a b : Int) : Calls Try.prog 173 #[.int .i32 124, .int .i64 a, .int .i64 b] w (DoPost 124 a b w) := by
  go_enter Try.func173, Try.ntmps173
  go_wp2_with fail
  go_ret2
  exact do_post (doR_124 a b)
set_option maxHeartbeats 400000 in
theorem do_xor (a b : Int) : Calls Try.prog 173 #[.int .i32 94, .int .i64 a, .int .i64 b] w (DoPost 94 a b w) := by
  go_enter Try.func173, Try.ntmps173
  go_wp2_with fail
  go_ret2
  exact do_post (doR_94 a b)
set_option maxHeartbeats 400000 in
theorem do_lt (a b : Int) : Calls Try.prog 173 #[.int .i32 60, .int .i64 a, .int .i64 b] w (DoPost 60 a b w) := by
  have HR := Lib.hid (doR_60 a b)
  by_cases h : a < b
  · have HH := Lib.hid h
    have hd : decide (a < b) = true := by simpa using h
    clear h
    go_enter Try.func173, Try.ntmps173
    go_wp2_with (go_at_call 188; refine (truth_any _).mono ?_; rintro e w' ⟨rfl, rfl⟩)
    go_ret2
    exact do_post (by rw [HR.out]; exact tup2 (by simp [HH.out]) rfl)
  · have HH := Lib.hid h
    have hd : decide (a < b) = false := by simpa using h
    clear h
    go_enter Try.func173, Try.ntmps173
    go_wp2_with (go_at_call 188; refine (truth_any _).mono ?_; rintro e w' ⟨rfl, rfl⟩)
    go_ret2
    exact do_post (by rw [HR.out]; exact tup2 (by simp [HH.out]) rfl)
set_option maxHeartbeats 400000 in
theorem do_eq (a b : Int) : Calls Try.prog 173 #[.int .i32 61, .int .i64 a, .int .i64 b] w (DoPost 61 a b w) := by
  have HR := Lib.hid (doR_61 a b)
  by_cases h : a = b
  · have HH := Lib.hid h
    have hd : (a == b) = true := by simpa using h
    clear h
    go_enter Try.func173, Try.ntmps173
    go_wp2_with (go_at_call 188; refine (truth_any _).mono ?_; rintro e w' ⟨rfl, rfl⟩)
    go_ret2
    exact do_post (by rw [HR.out]; exact tup2 (by simp [HH.out]) rfl)
  · have HH := Lib.hid h
    have hd : (a == b) = false := by simpa using h
    clear h
    go_enter Try.func173, Try.ntmps173
    go_wp2_with (go_at_call 188; refine (truth_any _).mono ?_; rintro e w' ⟨rfl, rfl⟩)
    go_ret2
    exact do_post (by rw [HR.out]; exact tup2 (by simp [HH.out]) rfl)
set_option maxHeartbeats 400000 in
theorem do_not (a b : Int) : Calls Try.prog 173 #[.int .i32 33, .int .i64 a, .int .i64 b] w (DoPost 33 a b w) := by
  have HR := Lib.hid (doR_33 a b)
  by_cases h : a = 0
  · have HH := Lib.hid h
    have hd : (a == 0) = true := by simpa using h
    clear h
    go_enter Try.func173, Try.ntmps173
    go_wp2_with (go_at_call 188; refine (truth_any _).mono ?_; rintro e w' ⟨rfl, rfl⟩)
    go_ret2
    exact do_post (by rw [HR.out]; exact tup2 (by simp [HH.out]) rfl)
  · have HH := Lib.hid h
    have hd : (a == 0) = false := by simpa using h
    clear h
    go_enter Try.func173, Try.ntmps173
    go_wp2_with (go_at_call 188; refine (truth_any _).mono ?_; rintro e w' ⟨rfl, rfl⟩)
    go_ret2
    exact do_post (by rw [HR.out]; exact tup2 (by simp [HH.out]) rfl)
set_option maxHeartbeats 400000 in
theorem do_shl (a b : Int) : Calls Try.prog 173 #[.int .i32 171, .int .i64 a, .int .i64 b] w (DoPost 171 a b w) := by
  have H6 := i64_and63 b
  have h0 : 0 ≤ b % 64 := by omega
  have h1 : b % 64 ≤ 64 := by omega
  go_enter Try.func173, Try.ntmps173
  go_wp2_with fail
  go_ret2
  exact do_post (doR_171 a b)
set_option maxHeartbeats 400000 in
theorem do_shr (a b : Int) : Calls Try.prog 173 #[.int .i32 187, .int .i64 a, .int .i64 b] w (DoPost 187 a b w) := by
  have H6 := i64_and63 b
  have h0 : 0 ≤ b % 64 := by omega
  have h1 : b % 64 ≤ 64 := by omega
  go_enter Try.func173, Try.ntmps173
  go_wp2_with fail
  go_ret2
  exact do_post (doR_187 a b)
end
end Go.Proofs.Ytfhgnoajfipjdaa
