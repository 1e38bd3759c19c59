/-
  PN: Mem, Fresh, Into, Get, Waits, WordPure, Mm.
-/
import Derived.WalkKit
import Derived.WalkSpells
import Derived.WalkLawsBesides
import Derived.Laws.CopyOwn
import Derived.Laws.Rows
import Derived.Laws.MakeOwn
import Derived.Deep.Draws
import Derived.Lib.SlBytesRow
import Derived.Lib.Hide
import Derived.Deep.RegionLaw
import Derived.Test.YtbkfhndmeljlcaaGreatDoorChecked
import Derived.Deep.QuietTactic
import Derived.BigQuiet
import Derived.Laws.BitsAllLaws
import Derived.BigRegion
import Derived.Deep.RegionWith
import Derived.Laws.BitsLemmas
import Derived.IntWalk
namespace Go.Proofs.YtbkfhndmeljlcaaGreatDoor
open Go.RowKit

/-- From w to w' nothing has turned but the listed blocks, and what is new. -/
structure Chg (T : List Nat) (w w' : World) : Prop where
  os : w'.os = w.os
  tape : w'.tape = w.tape
  output : w'.output = w.output
  size : w.heap.size ≤ w'.heap.size
  block : ∀ k, k < w.heap.size → k ∉ T → w'.heap[k]? = w.heap[k]?

theorem Chg.refl (T : List Nat) (w : World) : Chg T w w := ⟨rfl, rfl, rfl, Nat.le_refl _, fun _ _ _ => rfl⟩

/-- Two steps; the second one's list may name blocks that were not there at the beginning. -/
theorem Chg.then_ {T T' : List Nat} {a b c : World} (h : Chg T a b) (k : Chg T' b c) (hs : ∀ i, i ∈ T' → i < a.heap.size → i ∈ T) : Chg T a c :=
  ⟨k.os.trans h.os, k.tape.trans h.tape, k.output.trans h.output, Nat.le_trans h.size k.size, fun i hi hn =>
    (k.block i (Nat.lt_of_lt_of_le hi h.size) (fun hm => hn (hs i hm hi))).trans (h.block i hi hn)⟩

theorem Chg.trans {T : List Nat} {a b c : World} (h : Chg T a b) (k : Chg T b c) : Chg T a c := h.then_ k fun _ h _ => h
theorem Chg.new {T : List Nat} {a b c : World} (h : Chg T a b) (k : Chg [] b c) : Chg T a c := h.then_ k fun _ h _ => by cases h
theorem Chg.sub {T T' : List Nat} {a b : World} (h : Chg T a b) (hs : ∀ i, i ∈ T → i ∈ T') : Chg T' a b := ⟨h.os, h.tape, h.output, h.size, fun i hi hn => h.block i hi fun hm => hn (hs i hm)⟩

theorem Chg.alloc {T : List Nat} {a w : World} (h : Chg T a w) (o : Obj) : Chg T a (w.alloc o) :=
  h.new ⟨rfl, rfl, rfl, by simp, fun k hk _ => Below.heap_alloc w o k hk⟩
theorem Chg.drew {T : List Nat} {a w : World} (h : Chg T a w) : Chg T a w.drew := ⟨h.os, h.tape, h.output, h.size, h.block⟩
theorem Chg.drewN {T : List Nat} {a w : World} (h : Chg T a w) (n : Nat) : Chg T a (w.drewN n) := ⟨h.os, h.tape, h.output, h.size, h.block⟩
theorem Chg.setCell {T : List Nat} {a w : World} (h : Chg T a w) {p : Addr} (hp : p.block < a.heap.size → p.block ∈ T) (u : Value) : Chg T a (w.setCell p u) :=
  h.then_ (T' := [p.block]) ⟨rfl, rfl, rfl, by simp [World.setCell], fun k _ hn => Below.heap_setCell w p u k (by simpa using hn)⟩ fun i hi hlt => by
    simp only [List.mem_cons, List.not_mem_nil, or_false] at hi
    subst hi
    exact hp hlt
theorem Chg.setRow {T : List Nat} {a w : World} (h : Chg T a w) {g : Nat} (hp : g < a.heap.size → g ∈ T) (cs : Array Value) : Chg T a (w.setRow g cs) :=
  h.then_ (T' := [g]) ⟨rfl, rfl, rfl, by simp, fun k _ hn => setRow_other w g k cs (by simpa using hn)⟩ fun i hi hlt => by
    simp only [List.mem_cons, List.not_mem_nil, or_false] at hi
    subst hi
    exact hp hlt
theorem Chg.of_grown {a w : World} {row : Option Nat} {T : List Nat} (h : a.grownBy w row) (hr : ∀ g, row = some g → g < a.heap.size → g ∈ T) : Chg T a w :=
  ⟨h.os, h.tape, h.output, h.size, fun k hk hn => h.block k hk fun e => hn (hr k e.symm hk)⟩
/-- All that has turned lies from B on. -/
theorem Chg.below {T : List Nat} {a w : World} (h : Chg T a w) {B : Nat} (hB : B ≤ a.heap.size) (hT : ∀ i, i ∈ T → B ≤ i) : Below B a w :=
  ⟨h.os, h.tape, h.output, h.size, fun k hk => h.block k (by omega) fun hm => by have := hT k hm; omega⟩
theorem Chg.below0 {a w : World} (h : Chg [] a w) : Below a.heap.size a w := h.below (Nat.le_refl _) (by simp)

/-- Block g is known whole: the cells cs of element type t, none of them frozen. -/
def Whole (w : World) (g t : Nat) (cs : List Value) : Prop := w.heap[g]? = some (.cells cs.toArray t (0, 0))

section
variable {w w' : World} {g t : Nat} {cs : List Value}
theorem Whole.lt (h : Whole w g t cs) : g < w.heap.size := by
  rcases Nat.lt_or_ge g w.heap.size with hlt | hge
  · exact hlt
  · unfold Whole at h; rw [Array.getElem?_eq_none hge] at h; cases h
theorem Whole.cell (h : Whole w g t cs) (i : Nat) : w.cell? ⟨g, i, none⟩ = cs[i]? := by
  have := cell_of_row w g i cs.toArray t (0, 0) h
  simpa using this
theorem Whole.frozen (h : Whole w g t cs) (i : Nat) : w.frozen? ⟨g, i, none⟩ = false := frozen_of_row w g i cs.toArray t h
theorem Whole.chg {T : List Nat} (h : Whole w g t cs) (hc : Chg T w w') (hg : g ∉ T) : Whole w' g t cs := (hc.block g h.lt hg).trans h
theorem Whole.keep (h : Whole w g t cs) (hc : Chg [] w w') : Whole w' g t cs := h.chg hc (by simp)
theorem Whole.drew (h : Whole w g t cs) : Whole w.drew g t cs := h
theorem Whole.drewN (h : Whole w g t cs) (n : Nat) : Whole (w.drewN n) g t cs := h
theorem Whole.set_ (h : Whole w g t cs) (i : Nat) (u : Value) : Whole (w.setCell ⟨g, i, none⟩ u) g t (cs.set i u) := by
  have := heap_setCell_same w g i cs.toArray t u h
  unfold Whole
  rw [this]
  simp
theorem Whole.far (h : Whole w g t cs) {p : Addr} (hp : g ≠ p.block) (u : Value) : Whole (w.setCell p u) g t cs := (Below.heap_setCell w p u g hp).trans h
theorem Whole.new (w : World) (t : Nat) (cs : List Value) : Whole (w.alloc (.cells cs.toArray t)) w.heap.size t cs := heap_alloc_new w _
end

theorem add_plain (g o j : Nat) : (⟨g, o, none⟩ : Addr).add j = ⟨g, o + j, none⟩ := by unfold Addr.add; split <;> simp_all

/-- The slice value at A of length n reads as the cells xs. -/
def Src (w : World) (A : Option Addr) (xs : List Value) : Prop := 0 < xs.length → ∃ ad, A = some ad ∧ ad.block < w.heap.size ∧ ∀ j v, xs[j]? = some v → w.cell? (ad.add j) = some v
theorem Src.nil (w : World) (A : Option Addr) : Src w A [] := fun h => absurd h (by simp)
theorem Src.drew {w : World} {A : Option Addr} {xs : List Value} (h : Src w A xs) : Src w.drew A xs := h
theorem Src.drewN {w : World} {A : Option Addr} {xs : List Value} (h : Src w A xs) (n : Nat) : Src (w.drewN n) A xs := h
theorem Src.of_whole {w : World} {g t : Nat} {cs : List Value} (h : Whole w g t cs) (o n : Nat) : Src w (some ⟨g, o, none⟩) ((cs.drop o).take n) := fun _ =>
  ⟨_, rfl, h.lt, fun j v hj => by
    rw [add_plain, h.cell]
    rw [List.getElem?_take] at hj
    split at hj
    · rwa [List.getElem?_drop] at hj
    · cases hj⟩
theorem Src.of_all {w : World} {g t : Nat} {cs : List Value} (h : Whole w g t cs) : Src w (some ⟨g, 0, none⟩) cs := by
  have := Src.of_whole h 0 cs.length
  simpa using this
theorem Src.keep {w w' : World} {A : Option Addr} {xs : List Value} (h : Src w A xs) (hc : Chg [] w w') : Src w' A xs := fun hp => by
  obtain ⟨ad, e, hb, hx⟩ := h hp
  refine ⟨ad, e, Nat.lt_of_lt_of_le hb hc.size, fun j v hj => ?_⟩
  have := hx j v hj
  rw [← this]
  refine World.cell?_of_block (w := w) (hc.block _ ?_ (by simp))
  have e2 : (ad.add j).block = ad.block := by unfold Addr.add; split <;> rfl
  rw [e2]; exact hb

/-- A byte, a truth, as cells hold them. -/
def B8 (c : UInt8) : Value := .int .u8 (c.toNat : Int)
def bts (l : List UInt8) : List Value := l.map B8
def bls (l : List Bool) : List Value := l.map Value.bool
def nms (l : List Int) : List Value := l.map (Value.int .i64)
theorem bts_one (l : List UInt8) : ∀ v ∈ bts l, v.oneCell' = true := by
  intro v hv
  simp only [bts, List.mem_map] at hv
  obtain ⟨c, _, rfl⟩ := hv
  rfl
theorem bts_len (l : List UInt8) : (bts l).length = l.length := by simp [bts]
theorem bts_get (l : List UInt8) (i : Nat) (h : i < l.length) : (bts l)[i]? = some (B8 l[i]) := by simp [bts, h]
def zeros (n : Nat) : List UInt8 := List.replicate n 0
def falses (n : Nat) : List Bool := List.replicate n false
theorem zeros_len (n : Nat) : (zeros n).length = n := by simp [zeros]
theorem bts_zeros (n : Nat) : bts (zeros n) = List.replicate n (.int .u8 0) := by simp [bts, zeros, B8]
theorem made_one (z : Value) (n : Nat) : madeCells #[z] n = (List.replicate n z).toArray := by
  apply Array.ext
  · simp [madeCells]
  · intro i h1 h2
    simp [madeCells, Nat.mod_one]
/-- 'make([]T, n)': one cell a place. -/
theorem run_make1 {P : Program} (t e : TypeId) (i : TypeInfo) (z : Value) (hz1 : z.cells = #[z]) (ht : P.underlying t = some (.slice e)) (hi : P.info? e = some i) (hz : i.zero = some z) (hs : i.size = 1)
    (n : Nat) (hb : i.bytes * n ≤ 281474976710656) (h63 : n ≤ 9223372036854775807) (w : World) :
    (Instr.makeSlice t (.int .i64 (n : Int)) (.int .i64 (n : Int))).run P w = .ok (.slice (some ⟨w.heap.size, 0, none⟩) n n) (w.alloc (.cells (List.replicate n z).toArray e)) := by
  have hb' : (i.bytes : Int) * (n : Int) ≤ 281474976710656 := by
    have h : ((i.bytes * n : Nat) : Int) ≤ 281474976710656 := by omega
    rwa [Int.natCast_mul] at h
  have h := run_make (P := P) w t e i z ht hi hz .i64 .i64 (n : Int) (n : Int) (by omega) (Int.le_refl _) hb' (by omega)
  rw [h, hs, hz1, made_one]
  simp

/-- 'string(b)'. -/
def strOf (l : List UInt8) : ByteArray := ⟨l.toArray⟩
theorem run_str {P : Program} (src e dst : TypeId) (hs : P.underlying src = some (.slice e)) (he : P.underlying e = some (.int .u8)) (hd : P.underlying dst = some .string)
    (A : Option Addr) (l : List UInt8) (cap : Nat) (w : World) (h : Src w A (bts l)) (hp : ∀ ad, A = some ad → ad.spot = none) :
    (convert src dst (.slice A l.length cap)).run P w = .ok (.string (strOf l)) w := by
  rcases Nat.eq_zero_or_pos l.length with h0 | h0
  · obtain rfl : l = [] := List.eq_nil_of_length_eq_zero h0
    rcases A with _ | ad
    · exact run_convert_bytes_nil (P := P) w src e hs he 0 cap dst hd
    · obtain ⟨b, o, s⟩ := ad
      obtain rfl : s = none := hp _ rfl
      exact Lib.run_convert_whole (P := P) w src e dst hs he hd b o (strOf []) (fun i hi => absurd hi (by simp [strOf, ByteArray.size])) cap
  · obtain ⟨ad, rfl, _, hx⟩ := h (by simpa [bts] using h0)
    obtain ⟨b, o, s⟩ := ad
    obtain rfl : s = none := hp _ rfl
    have := Lib.run_convert_whole (P := P) w src e dst hs he hd b o (strOf l) (fun i hi => by
      have hi' : i < l.length := by simpa [strOf, ByteArray.size] using hi
      have h1 := hx i _ (bts_get l i hi')
      rw [add_plain] at h1
      rw [h1]
      rfl) cap
    simpa [strOf, ByteArray.size] using this
end Go.Proofs.YtbkfhndmeljlcaaGreatDoor
namespace Go.Proofs.YtbkfhndmeljlcaaGreatDoor
open Go.RowKit

theorem info_u8 : (Tryz.prog.info? 5).map (fun i => (i.zero, i.size, i.bytes)) = some (some (.int .u8 0), 1, 1) := by kernel_rfl
theorem info_int : (Tryz.prog.info? 3).map (fun i => (i.zero, i.size, i.bytes)) = some (some (.int .i64 0), 1, 8) := by kernel_rfl
theorem size_u8 : (Tryz.prog.info? 5).map (·.size) = some 1 := by kernel_rfl

theorem make_u8 (n : Nat) (h : n ≤ 1000000) (w : World) :
    (Instr.makeSlice 33 (.int .i64 (n : Int)) (.int .i64 (n : Int))).run Tryz.prog w = .ok (.slice (some ⟨w.heap.size, 0, none⟩) n n) (w.alloc (.cells (bts (zeros n)).toArray 5)) := by
  rw [bts_zeros]
  obtain ⟨i, hi, hz, hs, hb⟩ := info_parts info_u8
  exact run_make1 _ _ i _ rfl Tryz.underlying33 hi hz hs n (by rw [hb]; omega) (by omega) w
end Go.Proofs.YtbkfhndmeljlcaaGreatDoor
namespace Go.Proofs.YtbkfhndmeljlcaaGreatDoor
open Go.RowKit
/-- r is a number of lo .. hi, and n itself where n is one. -/
def Into (n lo hi r : Int) : Prop := lo ≤ r ∧ r ≤ hi ∧ (lo ≤ n → n ≤ hi → r = n)
/-- The number itself, or brought into lo .. hi. -/
def withinI (n lo hi : Int) : Int := if lo ≤ n ∧ n ≤ hi then n else if n.tmod (hi - lo + 1) < 0 then lo + (n.tmod (hi - lo + 1) + hi - lo + 1) else lo + n.tmod (hi - lo + 1)
theorem into_within (n lo hi : Int) (h1 : lo ≤ hi) : Into n lo hi (withinI n lo hi) := by
  have b1 := Int.tmod_lt_of_pos n (show 0 < hi - lo + 1 by omega)
  have b2 := Int.lt_tmod_of_pos n (show 0 < hi - lo + 1 by omega)
  unfold withinI
  split
  · rename_i h; exact ⟨h.1, h.2, fun _ _ => rfl⟩
  · rename_i h
    split
    · exact ⟨by omega, by omega, fun ha hb => absurd ⟨ha, hb⟩ h⟩
    · exact ⟨by omega, by omega, fun ha hb => absurd ⟨ha, hb⟩ h⟩
theorem ret_within {a b : Int} (h : a = b) : Ending.returned (.int .i64 a) = .returned (.int .i64 b) := by rw [h]
end Go.Proofs.YtbkfhndmeljlcaaGreatDoor
namespace Go.Proofs.YtbkfhndmeljlcaaGreatDoor
open Go.RowKit

/-- Bytes as a number, the highest first. -/
def numB (l : List UInt8) : Nat := l.foldl (fun g b => g * 256 + b.toNat) 0
theorem numB_snoc (l : List UInt8) (b : UInt8) : numB (l ++ [b]) = numB l * 256 + b.toNat := by simp [numB]
theorem fold_lt : ∀ (l : List UInt8) (g : Nat), l.foldl (fun g b => g * 256 + b.toNat) g < (g + 1) * 256 ^ l.length
  | [], g => by simp
  | b :: l, g => by
    have h := fold_lt l (g * 256 + b.toNat)
    have hb := b.toNat_lt
    have h2 : (g * 256 + b.toNat + 1) * 256 ^ l.length ≤ ((g + 1) * 256) * 256 ^ l.length := Nat.mul_le_mul_right _ (by omega)
    rw [List.foldl_cons, List.length_cons, Nat.pow_succ, Nat.mul_comm (256 ^ l.length) 256, ← Nat.mul_assoc]
    omega
theorem numB_lt (l : List UInt8) : numB l < 256 ^ l.length := by
  have := fold_lt l 0
  simpa [numB] using this
theorem numB_lt4 (l : List UInt8) (k : Nat) : numB ((l.drop k).take 4) < 4294967296 := by
  have h := numB_lt ((l.drop k).take 4)
  have h2 : ((l.drop k).take 4).length ≤ 4 := by rw [List.length_take]; omega
  have : 256 ^ ((l.drop k).take 4).length ≤ 256 ^ 4 := Nat.pow_le_pow_right (by omega) h2
  omega
theorem numB_next (l : List UInt8) (k j : Nat) (h : k + j < l.length) : numB ((l.drop k).take (j + 1)) = numB ((l.drop k).take j) * 256 + (l[k + j]).toNat := by
  rw [List.take_succ_eq_append_getElem (by rw [List.length_drop]; omega), numB_snoc, List.getElem_drop]
theorem numB_ltj (l : List UInt8) (k j : Nat) (hj : j < 4) : numB ((l.drop k).take j) < 16777216 := by
  have h := numB_lt ((l.drop k).take j)
  have h2 : ((l.drop k).take j).length ≤ 3 := by rw [List.length_take]; omega
  have : 256 ^ ((l.drop k).take j).length ≤ 256 ^ 3 := Nat.pow_le_pow_right (by omega) h2
  omega
theorem or_byte (g : Nat) (q : UInt8) (hg : g < 16777216) : bits .or .u32 ((g : Int) * 256 % 4294967296) ((q.toNat : Int) % 4294967296) = ((g * 256 + q.toNat : Nat) : Int) := by
  have hq := q.toNat_lt
  have e1 : (g : Int) * 256 % 4294967296 = ((g * 256 : Nat) : Int) := by omega
  have e2 : (q.toNat : Int) % 4294967296 = ((q.toNat : Nat) : Int) := by omega
  rw [e1, e2, u32_or_nat _ _ (by omega) (by omega), nat_join 8 (g * 256) q.toNat (by omega) (by omega)]
/-- What Get answers. -/
def getI (l : List UInt8) (at_ : Int) : Nat := if 0 ≤ at_ ∧ at_ + 4 ≤ l.length then numB ((l.drop at_.toNat).take 4) else 0
theorem getI_lt (l : List UInt8) (i : Int) : getI l i < 4294967296 := by
  unfold getI
  split
  · exact numB_lt4 _ _
  · omega

section
variable {w : World} {A : Option Addr} {n c : Nat} {l : List UInt8}
set_option maxHeartbeats 400000 in
set_option maxRecDepth 100000 in
theorem get_no (hn : n ≤ 9223372036854775807) (i : Int) (h : i < 0 ∨ (n : Int) < i + 4) (hi : i ≤ 9223372036854775807) :
    Calls Tryz.prog 103 #[.slice A n c, .int .i64 i] w fun e w' => e = .returned (.int .u32 0) ∧ w = w' := by
  by_cases h0 : i < 0
  · go_enter Tryz.func103, Tryz.ntmps103
    go_wp2_with fail
    go_ret
    exact ⟨rfl, rfl⟩
  · have h1 : (n : Int) - 4 < i := by omega
    have h2 : 0 ≤ i := by omega
    have hd : decide (i < 0) = false := by simpa using h0
    clear h
    go_enter Tryz.func103, Tryz.ntmps103
    go_wp2_with fail
    go_ret
    exact ⟨rfl, rfl⟩
set_option maxHeartbeats 400000 in
set_option maxRecDepth 100000 in
theorem get_yes (hl : l.length = n) (hs : Src w A (bts l)) (hn : n ≤ 9223372036854775807) (hsp : 0 < n → ∀ ad, A = some ad → ad.spot = none) (k : Nat) (hk : k + 4 ≤ n) (hnc : n ≤ c) (hc : c ≤ 9223372036854775807) :
    Calls Tryz.prog 103 #[.slice A n c, .int .i64 (k : Int)] w fun e w' => e = .returned (.int .u32 (numB ((l.drop k).take 4) : Nat)) ∧ w = w' := by
  have HL := Lib.hid hl
  have HS := Lib.hid hsp
  clear hl hsp
  obtain ⟨⟨b, o, s⟩, rfl, _, hx⟩ := hs (by rw [bts_len, HL.out]; omega)
  obtain rfl : s = none := HS.out (by omega) _ rfl
  go_enter Tryz.func103, Tryz.ntmps103
  go_wp2_with fail
  go_loop [5, 23] (fun h i => ∃ j : Nat, j ≤ 4 ∧ i = .int .i64 (j : Int) ∧ h = .int .u32 ((numB ((l.drop k).take j) : Nat) : Int)) (fun _ i => 4 - (intOf i).toNat)
  case atStart => exact ⟨0, by omega, rfl, rfl⟩
  case round =>
    obtain ⟨j, hj, rfl, rfl⟩ := hrel
    by_cases hlt : j < 4
    · have hkl : k + j < l.length := by rw [HL.out]; omega
      have hx1 := hx (k + j) _ (bts_get l (k + j) hkl)
      rw [add_plain] at hx1
      unfold B8 at hx1
      have hnx := numB_next l k j hkl
      have hgl := numB_ltj l k j hlt
      clear hx
      generalize l[k + j] = q at hx1 hnx
      have hob := or_byte _ q hgl
      rw [← hnx] at hob
      clear hnx
      generalize numB ((l.drop k).take j) = g at hob hgl
      have hob2 := Lib.hid hob
      clear hob hgl
      have hx2 : w.cell? ⟨b, o + k + j, none⟩ = some (.int .u8 (q.toNat : Int)) := by rw [← hx1, Nat.add_assoc]
      clear hx1
      go_wp2_with fail
      go_round
      case rel => exact ⟨j + 1, by omega, by go_num, by rw [hob2.out]⟩
      case measure => simp [intOf]; omega
    · obtain rfl : j = 4 := by omega
      go_wp2_with fail
      go_ret
      exact ⟨rfl, rfl⟩
end
end Go.Proofs.YtbkfhndmeljlcaaGreatDoor
namespace Go.Proofs.YtbkfhndmeljlcaaGreatDoor
open Go.RowKit

/-- Which of the first k wait, rising. -/
def wl (V : List Bool) (k : Nat) : List Nat := (List.range k).filter fun i => V.getD i false
theorem chg_grown {T : List Nat} {a w w' : World} {row : Option Nat} (h : Chg T a w) (hg : w.grownBy w' row) (hr : ∀ g, row = some g → a.heap.size ≤ g) : Chg T a w' :=
  h.then_ (T' := row.toList) (Chg.of_grown hg fun g e _ => by simp [e]) fun i hi hlt => by
    have := hr i (by simpa using hi)
    omega

end Go.Proofs.YtbkfhndmeljlcaaGreatDoor
namespace Go.Proofs.YtbkfhndmeljlcaaGreatDoor
open Go.RowKit

/-- A number's bits. -/
def U (n : Int) : BitVec 64 := BitVec.ofInt 64 n
end Go.Proofs.YtbkfhndmeljlcaaGreatDoor
namespace Go.Proofs.YtbkfhndmeljlcaaGreatDoor
open Go.RowKit

/-- A memory: its struct lies in block p, its bytes L in gC, what is dirty (V) in gD; X and Y are the spare room. -/
structure Mm (w : World) (p gC gD : Nat) (L : List UInt8) (X : List Value) (V : List Bool) (Y : List Value) (most : Nat) : Prop where
  rec_ : Whole w p 95 [.slice (some ⟨gC, 0, none⟩) L.length (L.length + X.length), .int .i64 (most : Int), .slice (some ⟨gD, 0, none⟩) V.length (V.length + Y.length)]
  cel : Whole w gC 5 (bts L ++ X)
  dir : Whole w gD 4 (bls V ++ Y)
  len : L.length = 64 * V.length
  le : V.length ≤ most
  top : most ≤ 64
  capX : L.length + X.length ≤ maxLen
  capY : V.length + Y.length ≤ maxLen

section
variable {w w' : World} {p gC gD : Nat} {L : List UInt8} {X : List Value} {V : List Bool} {Y : List Value} {most : Nat}
theorem Mm.keep (h : Mm w p gC gD L X V Y most) (hc : Chg [] w w') : Mm w' p gC gD L X V Y most :=
  ⟨h.rec_.keep hc, h.cel.keep hc, h.dir.keep hc, h.len, h.le, h.top, h.capX, h.capY⟩
theorem Mm.away {T : List Nat} (h : Mm w p gC gD L X V Y most) (hc : Chg T w w') (h0 : p ∉ T) (h1 : gC ∉ T) (h2 : gD ∉ T) : Mm w' p gC gD L X V Y most :=
  ⟨h.rec_.chg hc h0, h.cel.chg hc h1, h.dir.chg hc h2, h.len, h.le, h.top, h.capX, h.capY⟩
theorem Mm.src (h : Mm w p gC gD L X V Y most) : Src w (some ⟨gC, 0, none⟩) (bts L) := by
  have := Src.of_whole h.cel 0 (bts L).length
  rwa [List.drop_zero, List.take_left' rfl] at this

end
end Go.Proofs.YtbkfhndmeljlcaaGreatDoor
