/-
  SO: Flush, Write, Of, New, Known.
-/
import Derived.Test.YtfhgnoajfipjdaaZSO9
import Derived.Test.YtfhgnoajfipjdaaZSO11
namespace Go.Proofs.Ytfhgnoajfipjdaa
open Go.RowKit

/-- Behind the first i sectors. -/
def St.flush (s : St) : Nat → St
  | 0 => s
  | i + 1 => (St.flush s i).settle i 64
theorem flush_len (s : St) (i : Nat) : (s.flush i).V.length = s.V.length := by
  induction i with
  | zero => rfl
  | succ i ih => simp [St.flush, St.settle, ih]

section
variable {w : World} {p bL bS bW : Nat} {L S : List UInt8} {V : List Bool}
set_option maxHeartbeats 1000000 in
set_option maxRecDepth 100000 in
theorem flush_any (h : Dsk w p bL bS bW L S V) :
    Calls Try.prog 74 #[.pointer (some ⟨p, 0, none⟩)] w fun e w' => e = .returned (.tuple #[]) ∧ DskS w' p bL bS bW (St.flush ⟨L, S, V⟩ V.length) ∧ Chg [bL, bS, bW] w w' := by
  have c2 := h.rec_.cell 2
  have hle := h.le
  go_enter Try.func74, Try.ntmps74
  go_wp2_with fail
  go_loopw [8] (fun i wr => ∃ k : Nat, k ≤ V.length ∧ i = .int .i64 (k : Int) ∧ DskS wr p bL bS bW (St.flush ⟨L, S, V⟩ k) ∧ Chg [bL, bS, bW] w wr) (fun i _ => V.length - (intOf i).toNat)
  case atStart => exact ⟨0, Nat.zero_le _, rfl, h, Chg.refl _ _⟩
  case round =>
    obtain ⟨k, hk, rfl, hdk, hck⟩ := hrel
    by_cases hlt : k < V.length
    · have hlt3 : k < (St.flush ⟨L, S, V⟩ k).V.length := by rw [flush_len]; exact hlt
      have HE := Lib.hid (show (St.flush ⟨L, S, V⟩ (k + 1)) = (St.flush ⟨L, S, V⟩ k).settle k 64 from rfl)
      obtain ⟨s2, hE2⟩ : ∃ s2, s2 = St.flush ⟨L, S, V⟩ (k + 1) := ⟨_, rfl⟩
      rw [← hE2] at HE
      have hE2 := Lib.hid hE2
      generalize St.flush ⟨L, S, V⟩ k = s0 at HE hdk hlt3
      go_wp2_with fail
      refine (settle_int hdk k hlt3 64 (by omega) (by omega)).mono ?_
      rintro e w2 ⟨rfl, hd2, hc2⟩
      have hd3 : DskS w2 p bL bS bW s2 := by rw [HE.out]; exact hd2
      clear hd2
      go_wp2_with fail
      go_roundw
      case rel => exact ⟨k + 1, by omega, by go_num, (hE2.out ▸ hd3), hck.trans hc2⟩
      case measure => simp [intOf]; omega
    · have hkl : k = V.length := by omega
      have hdl : DskS wr p bL bS bW (St.flush ⟨L, S, V⟩ V.length) := hkl ▸ hdk
      clear hkl
      go_wp2_with fail
      go_end0
      exact ⟨rfl, hdl, hck⟩
end
end Go.Proofs.Ytfhgnoajfipjdaa
namespace Go.Proofs.Ytfhgnoajfipjdaa
open Go.RowKit
section
variable {w : World} {p bL bS bW : Nat} {L S : List UInt8} {V : List Bool}

set_option maxHeartbeats 400000 in
theorem write_no (h : Dsk w p bL bS bW L S V) (i : Int) (A : Option Addr) (n c : Nat) (hi : i < 0 ∨ (V.length : Int) ≤ i ∨ n ≠ 64) :
    Calls Try.prog 105 #[.pointer (some ⟨p, 0, none⟩), .int .i64 i, .slice A n c] w fun e w' => e = .returned (.bool false) ∧ w = w' := by
  by_cases hok : 0 ≤ i ∧ i < V.length
  · obtain ⟨h0, h1⟩ := hok
    have hd : ((n : Int) != 64) = true := by simp; omega
    clear hi
    go_enter Try.func105, Try.ntmps105
    go_wp2_with (go_at_call 156; refine (has_yes h i h0 h1).mono ?_; rintro e w' ⟨rfl, rfl⟩)
    go_ret
    exact ⟨rfl, rfl⟩
  · have h2 : i < 0 ∨ (V.length : Int) ≤ i := by omega
    clear hi hok
    go_enter Try.func105, Try.ntmps105
    go_wp2_with (go_at_call 156; refine (has_no h i h2).mono ?_; rintro e w' ⟨rfl, rfl⟩)
    go_ret
    exact ⟨rfl, rfl⟩

theorem write_end {w2 : World} {k : Nat} {x : List UInt8} (h : Dsk w p bL bS bW L S V) (hk : k < V.length) (hx : x.length = 64) (HC : Chg [bS] w w2) (HG : Whole w2 bS 5 (splice (bts S) (k * 64) (bts x))) :
    Dsk (w2.setCell ⟨bW, k, none⟩ (.bool true)) p bL bS bW L (splice S (k * 64) x) (V.set k true) ∧ Chg [bS, bW] w (w2.setCell ⟨bW, k, none⟩ (.bool true)) := by
  have s1 : 64 * (k + 1) ≤ S.length := by have := h.lenS; omega
  have eS : (splice S (k * 64) x).length = S.length := length_splice _ _ _ (by omega)
  rw [bts_splice] at HG
  have d0 := h.rec_.ne_ h.seen (by decide)
  have d1 := h.rec_.ne_ h.wait (by decide)
  have d2 := h.last.ne_ h.wait (by decide)
  have d3 := h.seen.ne_ h.wait (by decide)
  have V2 := h.wait.chg HC (by simpa using fun e => d3 e.symm)
  have hw : Whole (w2.setCell ⟨bW, k, none⟩ (.bool true)) bW 4 (bls (V.set k true)) := by
    have := V2.set_ k (.bool true)
    rwa [bls_set] at this
  refine ⟨⟨?_, (h.last.chg HC (by simpa using h.ne)).far d2 _, HG.far d3 _, hw, by rw [List.length_set]; exact h.lenL, by rw [eS, List.length_set]; exact h.lenS, by rw [List.length_set]; exact h.pos, by rw [List.length_set]; exact h.le, h.ne⟩, ?_⟩
  · rw [eS, List.length_set]
    exact (h.rec_.chg HC (by simpa using d0)).far d1 _
  · exact (HC.sub (T' := [bS, bW]) (by simp)).setCell (by simp) _

set_option maxHeartbeats 1000000 in
theorem write_yes (h : Dsk w p bL bS bW L S V) (k : Nat) (hk : k < V.length) {A : Option Addr} {c : Nat} {x : List UInt8} (hx : x.length = 64) (hs : Src w A (bts x)) :
    Calls Try.prog 105 #[.pointer (some ⟨p, 0, none⟩), .int .i64 (k : Int), .slice A 64 c] w fun e w' => e = .returned (.bool true) ∧
      Dsk w' p bL bS bW L (splice S (k * 64) x) (V.set k true) ∧ Chg [bS, bW] w w' := by
  have c1 := h.rec_.cell 1
  have hS := h.lenS
  have hv := h.le
  have s1 : 64 * (k + 1) ≤ S.length := by omega
  have s2 : S.length ≤ 1000000 := by omega
  clear hS
  have hfit : k * 64 + (bts x).length ≤ (bts S).length := by rw [bts_len, bts_len]; omega
  have Hn := Lib.hid (show (bts x).length = Nat.min 64 64 by rw [bts_len, hx]; rfl)
  have Hx := Lib.hid hx
  have b1 := bts_one x
  have n2 := Lib.hid (show p ∉ [bS] by simpa using h.rec_.ne_ h.seen (by decide))
  have n3 := Lib.hid (show bW ∉ [bS] by simpa using h.wait.ne_ h.seen (by decide))
  obtain ⟨Y, hY⟩ : ∃ Y, Y = bts x := ⟨_, rfl⟩
  have HY := Lib.hid hY
  rw [← hY] at hfit Hn b1 hs
  clear hx hY
  go_enter Try.func105, Try.ntmps105
  go_wp2_with (first
    | (go_at_call 156; refine (has_yes h _ (by omega) (by omega)).mono ?_; rintro e w' ⟨rfl, rfl⟩)
    | (go_at_call 121; refine (dsector_any k s1 (Nat.le_refl _) s2).mono ?_; rintro e w' ⟨rfl, rfl⟩)
    | (with_reducible refine wpList_copy_chg rfl (.tmp 21) (.tmp 22) _ _ rfl 5 Try.underlying46 size_u8 (some ⟨bS, k * 64, none⟩) A 64 (S.length - k * 64) 64 c rfl rfl bS (k * 64) 5 (bts S) Y h.seen Hn.out (fun _ => rfl) hs hfit b1 ?_
       intro w2 HG HC
       have R2 := h.rec_.chg HC n2.out
       have V2 := h.wait.chg HC n3.out
       have c2 := R2.cell 2
       have c4 := (V2.cell k).trans (bls_get V k hk)
       have c5 := V2.frozen k))
  go_ret
  rw [HY.out] at HG
  exact ⟨rfl, write_end h hk Hx.out HC HG⟩

set_option maxHeartbeats 400000 in
theorem read_no (h : Dsk w p bL bS bW L S V) (i : Int) (hi : i < 0 ∨ (V.length : Int) ≤ i) :
    Calls Try.prog 107 #[.pointer (some ⟨p, 0, none⟩), .int .i64 i] w fun e w' => e = .returned (.tuple #[.slice none 0 0, .bool false]) ∧ w = w' := by
  go_enter Try.func107, Try.ntmps107
  go_wp2_with (go_at_call 156; refine (has_no h i hi).mono ?_; rintro e w' ⟨rfl, rfl⟩)
  go_ret2
  exact ⟨rfl, rfl⟩

set_option maxHeartbeats 1000000 in
theorem read_yes (h : Dsk w p bL bS bW L S V) (k : Nat) (hk : k < V.length) :
    Calls Try.prog 107 #[.pointer (some ⟨p, 0, none⟩), .int .i64 (k : Int)] w fun e w' => e = .returned (.tuple #[.slice (some ⟨w.heap.size, 0, none⟩) 64 64, .bool true]) ∧
      Whole w' w.heap.size 5 (bts ((S.drop (k * 64)).take 64)) ∧ Chg [] w w' := by
  have c1 := h.rec_.cell 1
  have hS := h.lenS
  have hv := h.le
  have s1 : 64 * (k + 1) ≤ S.length := by omega
  have s2 : S.length ≤ 1000000 := by omega
  clear hS
  have hl : (bts ((S.drop (k * 64)).take 64)).length = 64 := by rw [bts_len, List.length_take, List.length_drop]; omega
  have Hl := Lib.hid hl
  have hsr : Src w (some ⟨bS, k * 64, none⟩) (bts ((S.drop (k * 64)).take 64)) := by rw [← bts_cut]; exact Src.of_whole h.seen _ _
  have b1 := bts_one ((S.drop (k * 64)).take 64)
  obtain ⟨Y, hY⟩ : ∃ Y, Y = bts ((S.drop (k * 64)).take 64) := ⟨_, rfl⟩
  rw [← hY] at Hl hsr b1
  rw [← hY]
  clear hl hY
  go_enter Try.func107, Try.ntmps107
  go_wp2_with (first
    | (go_at_call 156; refine (has_yes h _ (by omega) (by omega)).mono ?_; rintro e w' ⟨rfl, rfl⟩)
    | (go_at_call 121; refine (dsector_any k s1 (Nat.le_refl _) s2).mono ?_; rintro e w' ⟨rfl, rfl⟩)
    | (go_at_call 88; refine (fresh_any Hl.out hsr b1 (by omega)).mono ?_; rintro e w2 ⟨rfl, HB, HC⟩))
  go_ret2
  exact ⟨rfl, HB, HC⟩
end
end Go.Proofs.Ytfhgnoajfipjdaa
namespace Go.Proofs.Ytfhgnoajfipjdaa
open Go.RowKit

section
variable {w : World} {A : Option Addr} {n c : Nat} {l : List UInt8}

set_option maxHeartbeats 400000 in
/-- The struct is laid last: the disk stands. -/
theorem dsk_end {W : World} {q bL bS bW : Nat} (hq : q = W.heap.size) (hL : Whole W bL 5 (bts l)) (hS : Whole W bS 5 (bts l)) (hV : Whole W bW 4 (bls (falses (l.length / 64)))) (hne : bL ≠ bS)
    (h1 : 64 ≤ l.length) (h2 : l.length < 10304) (h3 : l.length % 64 = 0) (hc : Chg [] w W) (b1 : w.heap.size ≤ bL) (b2 : w.heap.size ≤ bS) (b3 : w.heap.size ≤ bW) :
    ∃ p bL' bS' bW', Ending.returned (.pointer (some ⟨q, 0, none⟩)) = .returned (.pointer (some ⟨p, 0, none⟩)) ∧
      Dsk (W.alloc (.cells #[.slice (some ⟨bL, 0, none⟩) l.length l.length, .slice (some ⟨bS, 0, none⟩) l.length l.length, .slice (some ⟨bW, 0, none⟩) (l.length / 64) (l.length / 64)] 157)) p bL' bS' bW' l l (falses (l.length / 64)) ∧
      w.heap.size ≤ p ∧ w.heap.size ≤ bL' ∧ w.heap.size ≤ bS' ∧ w.heap.size ≤ bW' ∧ Chg [] w (W.alloc (.cells #[.slice (some ⟨bL, 0, none⟩) l.length l.length, .slice (some ⟨bS, 0, none⟩) l.length l.length, .slice (some ⟨bW, 0, none⟩) (l.length / 64) (l.length / 64)] 157)) := by
  subst hq
  have hk : ∀ o, Chg [] W (W.alloc o) := fun o => (Chg.refl [] W).alloc o
  refine ⟨W.heap.size, bL, bS, bW, rfl, ⟨?_, hL.keep (hk _), hS.keep (hk _), hV.keep (hk _), ?_, ?_, ?_, ?_, hne⟩, hc.size, b1, b2, b3, hc.alloc _⟩
  · have := Whole.new W 157 [.slice (some ⟨bL, 0, none⟩) l.length l.length, .slice (some ⟨bS, 0, none⟩) l.length l.length, .slice (some ⟨bW, 0, none⟩) (l.length / 64) (l.length / 64)]
    simpa only [falses_len] using this
  · rw [falses_len]; omega
  · rw [falses_len]; omega
  · rw [falses_len]; omega
  · rw [falses_len]; omega

set_option maxHeartbeats 400000 in
theorem of_yes (hl : l.length = n) (hs : Src w A (bts l)) (h1 : 64 ≤ n) (h2 : n < 10304) (h3 : n % 64 = 0) :
    Calls Try.prog 64 #[.slice A n c] w fun e w' => ∃ p bL bS bW, e = .returned (.pointer (some ⟨p, 0, none⟩)) ∧ Dsk w' p bL bS bW l l (falses (n / 64)) ∧
      w.heap.size ≤ p ∧ w.heap.size ≤ bL ∧ w.heap.size ≤ bS ∧ w.heap.size ≤ bW ∧ Chg [] w w' := by
  have hd1 : decide ((n : Int) / 64 < 1) = false := by simp; omega
  have hd2 : decide (160 < (n : Int) / 64) = false := by simp; omega
  have hd3 : ((n : Int) % 64 != 0) = false := by simp; omega
  have hmk : ∀ W : World, (Instr.makeSlice 107 (.int .i64 ((n : Int) / 64)) (.int .i64 ((n : Int) / 64))).run Try.prog W = .ok (.slice (some ⟨W.heap.size, 0, none⟩) (n / 64) (n / 64)) (W.alloc (.cells (bls (falses (n / 64))).toArray 4)) :=
    fun W => make_bool (n / 64) (by omega) W
  have HL := Lib.hid hl
  have H3 := Lib.hid h3
  clear hl h3
  go_enter Try.func64, Try.ntmps64
  go_wp2_with fail
  go_region_with (first
    | (go_at_call 88; have _t := HB1; refine (fresh_any (xs := bts l) (by rw [bts_len]; exact HL.out) ?_ (bts_one l) (by omega)).mono ?_; · (refine hs.keep ?_; repeat (first | exact Chg.refl _ _ | apply Chg.drew | apply Chg.alloc | refine Chg.new ?_ HC1))
       rintro e w2 ⟨rfl, HB2, HC2⟩)
    | (go_at_call 88; refine (fresh_any (xs := bts l) (by rw [bts_len]; exact HL.out) ?_ (bts_one l) (by omega)).mono ?_; · (refine hs.keep ?_; repeat (first | exact Chg.refl _ _ | apply Chg.drew | apply Chg.alloc))
       rintro e w1 ⟨rfl, HB1, HC1⟩))
  all_goals (go_wp2_with fail; go_ret; obtain rfl := HL.out)
  · have c1 : Chg [] w w1 := (Chg.refl [] w).drew.new HC1
    have l1 := Whole.lt HB1
    have z1 : w.drew.heap.size = w.heap.size := rfl
    exact dsk_end (W := w2.alloc _) (by simp) ((Whole.keep HB1 HC2).keep ((Chg.refl [] w2).alloc _)) (HB2.keep ((Chg.refl [] w2).alloc _)) (Whole.new w2 _ _) (by omega) h1 h2 H3.out ((c1.new HC2).alloc _)
      (Nat.le_refl _) c1.size (Nat.le_trans c1.size HC2.size)
  · have c1 : Chg [] w w1 := (Chg.refl [] w).drew.new HC1
    have l1 := Whole.lt HB1
    have z1 : w.drew.heap.size = w.heap.size := rfl
    have hb2 : Whole w2 (w1.heap.size + 1) 5 (bts l) := by simpa using HB2
    have s1 := c1.size
    exact dsk_end (W := w2) rfl ((Whole.keep HB1 ((Chg.refl [] w1).alloc _)).keep HC2) hb2 ((Whole.new w1 _ _).keep HC2) (by omega) h1 h2 H3.out ((c1.alloc _).new HC2)
      (Nat.le_refl _) (by omega) s1
  · have hb1 : Whole w1 (w.heap.size + 1) 5 (bts l) := by simpa using HB1
    have c1 : Chg [] w w1 := ((Chg.refl [] w).alloc _).drew.new HC1
    have l1 := hb1.lt
    exact dsk_end (W := w2) rfl (hb1.keep HC2) HB2 (((Whole.new w _ _).keep ((Chg.refl [] _).drew.new HC1)).keep HC2) (by omega) h1 h2 H3.out (c1.new HC2)
      (by omega) (by omega) (Nat.le_refl _)
end
end Go.Proofs.Ytfhgnoajfipjdaa
namespace Go.Proofs.Ytfhgnoajfipjdaa
open Go.RowKit

section
variable {w : World}
set_option maxHeartbeats 400000 in
theorem new_yes (k : Nat) (h1 : 1 ≤ k) (h2 : k ≤ 160) :
    Calls Try.prog 24 #[.int .i64 (k : Int)] w fun e w' => ∃ p bL bS bW, e = .returned (.pointer (some ⟨p, 0, none⟩)) ∧ Dsk w' p bL bS bW (zeros (k * 64)) (zeros (k * 64)) (falses k) ∧
      w.heap.size ≤ p ∧ w.heap.size ≤ bL ∧ w.heap.size ≤ bS ∧ w.heap.size ≤ bW ∧ Chg [] w w' := by
  have hd1 : decide ((k : Int) < 1) = false := by simp; omega
  have hd2 : decide (160 < (k : Int)) = false := by simp; omega
  have hmk : ∀ W : World, (Instr.makeSlice 46 (.int .i64 ((k : Int) * 64)) (.int .i64 ((k : Int) * 64))).run Try.prog W = .ok (.slice (some ⟨W.heap.size, 0, none⟩) (k * 64) (k * 64)) (W.alloc (.cells (bts (zeros (k * 64))).toArray 5)) :=
    fun W => by
      have := make_u8 (k * 64) (by omega) W
      simpa using this
  go_enter Try.func24, Try.ntmps24
  go_wp2_with (go_at_call 64; refine (of_yes (l := zeros (k * 64)) (by simp [zeros]) (Src.of_all (Whole.new w _ _)) (by omega) (by omega) (by omega)).mono ?_; rintro e w1 ⟨p, bL, bS, bW, rfl, HD, b0, b1, b2, b3, HC⟩)
  go_ret
  rw [show k * 64 / 64 = k by omega] at HD
  have hs : (w.alloc (.cells (bts (zeros (k * 64))).toArray 5)).heap.size = w.heap.size + 1 := by simp
  exact ⟨p, bL, bS, bW, rfl, HD, by omega, by omega, by omega, by omega, ((Chg.refl [] w).alloc _).new HC⟩
end
end Go.Proofs.Ytfhgnoajfipjdaa
namespace Go.Proofs.Ytfhgnoajfipjdaa
open Go.RowKit

def St.new (n : Nat) : St := ⟨zeros (n * 64), zeros (n * 64), falses n⟩
def St.of (l : List UInt8) : St := ⟨l, l, falses (l.length / 64)⟩

section
variable {w : World} {p bL bS bW : Nat} {s : St}
theorem new_int (n : Int) (h1 : 1 ≤ n) (h2 : n ≤ 160) :
    Calls Try.prog 24 #[.int .i64 n] w fun e w' => ∃ p bL bS bW, e = .returned (.pointer (some ⟨p, 0, none⟩)) ∧ DskS w' p bL bS bW (St.new n.toNat) ∧
      w.heap.size ≤ p ∧ w.heap.size ≤ bL ∧ w.heap.size ≤ bS ∧ w.heap.size ≤ bW ∧ Chg [] w w' := by
  obtain ⟨k, rfl⟩ := Int.eq_ofNat_of_zero_le (show 0 ≤ n by omega)
  rw [Int.toNat_natCast]
  exact new_yes k (by omega) (by omega)
end


end Go.Proofs.Ytfhgnoajfipjdaa
