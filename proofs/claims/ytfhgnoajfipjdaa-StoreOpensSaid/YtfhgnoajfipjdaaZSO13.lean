/-
  SO: DeltaGet, DeltaBytes.
-/
import Derived.Test.YtfhgnoajfipjdaaZSO6
import Derived.Test.YtfhgnoajfipjdaaZSO7
import Derived.Laws.BitsAllLaws
import Derived.Deep.RegionLaw
namespace Go.Proofs.Ytfhgnoajfipjdaa
open Go.RowKit
/-- The number of two bytes. -/
def num2 (l : List UInt8) : Nat := (l.getD 0 0).toNat * 256 + (l.getD 1 0).toNat
theorem ofInt_small (a : Nat) (h : a < 65536) : (BitVec.ofInt 64 (a : Int)).toNat = a := by
  rw [BitVec.toNat_ofInt]
  omega
theorem or_two (x y : UInt8) : bits .or .i64 ((x.toNat : Int) * 256) (y.toNat : Int) = ((x.toNat * 256 + y.toNat : Nat) : Int) := by
  have hx := x.toNat_lt
  have hy := y.toNat_lt
  have e1 : (x.toNat : Int) * 256 = ((x.toNat * 256 : Nat) : Int) := by omega
  rw [e1]
  show IntKind.i64.wrap ((BitVec.ofInt 64 ((x.toNat * 256 : Nat) : Int) ||| BitVec.ofInt 64 (y.toNat : Int)).toNat : Int) = _
  rw [BitVec.toNat_or, ofInt_small _ (by omega), ofInt_small _ (by omega), nat_join 8 (x.toNat * 256) y.toNat (by omega) (by omega)]
  exact IntWalk.i64_in _ (by omega)
theorem ret_word {a b : Int} (h : a = b) : Ending.returned (.int .i64 a) = .returned (.int .i64 b) := by rw [h]
section
variable {w : World} {A : Option Addr} {n c : Nat} {l : List UInt8}
set_option maxHeartbeats 2000000 in
theorem dget_any (h : Bs w A n c l) (hn : 2 ≤ n) :
    Calls Try.prog 160 #[.slice A n c] w fun e w' => e = .returned (.int .i64 (num2 l : Nat)) ∧ Chg [] w w' := by
  obtain ⟨x, y, t, rfl⟩ : ∃ x y t, l = x :: y :: t := by
    match l, h.len with
    | [], h0 => simp at h0; omega
    | [_], h0 => simp at h0; omega
    | x :: y :: t, _ => exact ⟨x, y, t, rfl⟩
  obtain ⟨ad, rfl, _, hx⟩ := h.src (by simp [bts])
  obtain ⟨b, o, s⟩ := ad
  obtain rfl : s = none := h.spot (by omega) _ rfl
  have h0 := hx 0 (B8 x) rfl
  have h1 := hx 1 (B8 y) rfl
  rw [add_plain, Nat.add_zero] at h0
  rw [add_plain] at h1
  unfold B8 at h0 h1
  have hx256 := x.toNat_lt
  have hy256 := y.toNat_lt
  have hnI : (1 : Int) < (n : Int) := by omega
  have hnJ : (0 : Int) < (n : Int) := by omega
  clear hx
  go_enter Try.func160, Try.ntmps160
  go_wp2_with fail
  go_quiet (fail)
  go_wp2_with fail
  go_ret
  exact ⟨ret_word (by rw [or_two]; simp [num2]), (Chg.refl _ _).drewN _⟩
end
end Go.Proofs.Ytfhgnoajfipjdaa
namespace Go.Proofs.Ytfhgnoajfipjdaa
open Go.RowKit
def chB (a : ChV) : List UInt8 := be2 a.page.toNat ++ a.B
/-- Changes as bytes. -/
def chsB : List ChV → List UInt8
  | [] => []
  | a :: l => chB a ++ chsB l
theorem chsB_app : ∀ l m, chsB (l ++ m) = chsB l ++ chsB m
  | [], _ => rfl
  | a :: l, m => by rw [List.cons_append, chsB, chsB, chsB_app l m, List.append_assoc]
theorem chsB_next (l : List ChV) (k : Nat) (a : ChV) (h : l[k]? = some a) : chsB (l.take (k + 1)) = chsB (l.take k) ++ chB a := by
  obtain ⟨hk, rfl⟩ := List.getElem?_eq_some_iff.1 h
  rw [List.take_succ_eq_append_getElem hk, chsB_app]
  simp [chsB]
def bytesD (l : List ChV) : List UInt8 := be2 l.length ++ chsB l
section
variable {w : World} {A : Option Addr} {n c : Nat}
set_option maxHeartbeats 4000000 in
set_option maxRecDepth 100000 in
theorem dbytes_any {l : List ChV} (h : Chs w A l) (hs : ∀ a ∈ l, Small a) (hl : l.length = n) (hn : n ≤ 1000) :
    Calls Try.prog 78 #[.slice A n c] w (BytesPost w (bytesD l)) := by
  obtain ⟨i0, hi, hz, hs1, hb⟩ := info_parts info_byte
  have H := Lib.hid h
  have HL := Lib.hid hl
  have HS := Lib.hid hs
  clear h hl hs
  have hmk : ∀ W : World, (Instr.makeSlice 46 (.int .i64 0) (.int .i64 (2 + (n : Int) * 66))).run Try.prog W = .ok (.slice (some ⟨W.heap.size, 0, none⟩) 0 (2 + n * 66)) (W.alloc (.cells (bts (zeros (2 + n * 66))).toArray 5)) := by
    intro W
    rw [bts_zeros]
    have := run_make0 (P := Try.prog) 46 5 i0 _ rfl Try.underlying46 hi hz hs1 (2 + n * 66) (by rw [hb]; omega) (by omega) W
    simpa using this
  have ho0 : (w.alloc (.cells (bts (zeros (2 + n * 66))).toArray 5)).ownsRow w.heap.size 5 1 (.slice (some ⟨w.heap.size, 0, none⟩) 0 (2 + n * 66)) 0 (bts []) := by
    have := own_of_whole (B := w.heap.size) (n := 0) (c := 2 + n * 66) (Whole.new w 5 (bts (zeros (2 + n * 66)))) (Nat.le_refl _) (by simp [bts_len, zeros_len]) (by omega) (by unfold maxLen; omega)
    simpa [bts] using this
  go_enter Try.func78, Try.ntmps78
  go_wp2_with fail
  refine (dput_any ho0 (by simp) n (by omega) (by omega)).mono ?_
  rintro e w1 ⟨v1, rfl, ho1, _, hL1⟩
  have hc1 : Chg [] w w1 := ((Low.of_chg (B := w.heap.size) ((Chg.refl [] w).alloc _)).trans hL1).chg (Nat.le_refl _)
  simp only [Nat.zero_add, List.nil_append] at ho1
  clear ho0 hL1
  go_wp2_with fail
  go_loopw [3, 16] (fun t i wr => ∃ k : Nat, k ≤ n ∧ i = .int .i64 (k : Int) ∧ wr.ownsRow w.heap.size 5 1 t (2 + k * 66) (bts (be2 n ++ chsB (l.take k))) ∧ Chg [] w wr) (fun _ i _ => n - (intOf i).toNat)
  case atStart => exact ⟨0, Nat.zero_le _, rfl, by simpa [chsB] using ho1, hc1⟩
  case round =>
    obtain ⟨k, hk, rfl, hown, hcr⟩ := hrel
    have hwr := hcr.size
    clear ho1 hc1
    by_cases hlt : k < n
    · obtain ⟨a, ha⟩ : ∃ a, l[k]? = some a := ⟨_, List.getElem?_eq_getElem (by have := HL.out; omega)⟩
      have ham := List.mem_of_getElem? ha
      obtain ⟨g, o, rfl, hg, hce⟩ := (H.out.keep hcr).cells (by have := HL.out; omega)
      obtain ⟨c0, c1⟩ := hce k a ha
      have hbs := (H.out.ok a ham).bs
      obtain ⟨hp0, hp1, hbn⟩ := HS.out a ham
      have HT := Lib.hid (chsB_next l k a ha)
      have HC := Lib.hid hcr
      clear hce ha ham hcr
      obtain ⟨page, bA, bn, bc, Bb⟩ := a
      simp only at c0 c1 hbs hp0 hp1 hbn
      subst hbn
      obtain ⟨q, rfl⟩ := Int.eq_ofNat_of_zero_le hp0
      have HBS := Lib.hid hbs
      clear hbs
      obtain ⟨A3, c3, rfl, _, _, _, _⟩ := own_slice hown
      obtain ⟨X, hX⟩ : ∃ X, X = be2 n ++ chsB (l.take k) := ⟨_, rfl⟩
      rw [← hX] at hown
      have HX := Lib.hid hX
      clear hX
      have hkI : (k : Int) < (n : Int) := by omega
      go_wp2_with fail
      have hz0 := Whole.new wr 140 [.int .i64 (q : Int), .slice bA 64 bc]
      have hal : Chg [] wr (wr.alloc (.cells #[.int .i64 (q : Int), .slice bA 64 bc] 140)) := (Chg.refl [] wr).alloc _
      have HW0 := Lib.hid hal
      have HZ0 := Lib.hid hz0
      clear hal hz0 c0 c1
      go_region_law (first
        | (refine step_append_src rfl (.tmp 23) (.tmp 25) 46 rfl w.heap.size 5 i0 _ 1 Try.underlying46 hi hz hs1 hb cells_u8 v2 (2 + k * 66 + 2) (bts (X ++ be2 q)) rfl ho2 bA 64 bc (bts Bb) rfl hbl hsB (bts_one _) hx1 hx2 hx3 ?_
           intro v5 w5 ho5 hg5)
        | (go_simp
           go_at_call 118
           refine (dput_any (own_keep hown HW0.out.drew) (by simp; omega) q (by omega) (by omega)).mono ?_
           rintro e w2 ⟨v2, rfl, ho2, hk2, hL2⟩
           have hz2 := hk2 _ _ _ (by decide) HZ0.out.drew
           have hc2 : Chg [] w w2 := ((Low.of_chg (B := w.heap.size) (HC.out.new HW0.out).drew).trans hL2).chg (Nat.le_refl _)
           have hB2 := HBS.out.keep hc2
           have hbl : (bts Bb).length = 64 := by rw [bts_len]; exact hB2.len
           have hsB := hB2.src
           have hx1 : 2 + k * 66 + 2 + 64 ≤ maxLen := by unfold maxLen; omega
           have hx2 : (2 + k * 66 + 2 + 64) * 1 ≤ 140737488355328 := by omega
           have hx3 : w.heap.size ≤ w2.heap.size := hc2.size
           have z0 := hz2.cell 0
           have z1 := hz2.cell 1))
      all_goals
        have hL5 : Low w.heap.size w2 w5 := Low.of_own ho2 hg5
        have hc5 : Chg [] w w5 := ((Low.of_chg hc2).trans hL5).chg (Nat.le_refl _)
        clear hg5
        go_wp2_with fail
        go_roundw
        case rel =>
          refine ⟨k + 1, by omega, by go_num, ?_, hc5⟩
          have e1 : bts (be2 n ++ chsB (l.take (k + 1))) = bts (X ++ be2 q) ++ bts Bb := by
            rw [HT.out, ← List.append_assoc, ← HX.out]
            simp [chB, bts]
          rw [e1, show 2 + (k + 1) * 66 = 2 + k * 66 + 2 + 64 by omega]
          exact ho5
        case measure => simp [intOf]; omega
    · obtain rfl : n = k := by omega
      have HK := Lib.hid (show l.take n = l by rw [List.take_of_length_le (by rw [HL.out]; exact Nat.le_refl _)])
      rw [HK.out] at hown
      have e1 : be2 n ++ chsB l = bytesD l := by unfold bytesD; rw [HL.out]
      rw [e1] at hown
      have e2 : 2 + n * 66 = (bytesD l).length := by have := hown.1; rw [bts_len] at this; omega
      rw [e2] at hown
      have HO := Lib.hid hown
      clear e1 e2 hown
      go_wp2_with fail
      go_ret
      exact ⟨_, rfl, HO.out, hcr⟩
end
end Go.Proofs.Ytfhgnoajfipjdaa
