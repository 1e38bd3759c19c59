/-
  Frames as lists of bytes; package frame's Bytes, Read, and the reference's: contracts.
-/
import Derived.Test.YtigbnmckdjlihabSumB
import Derived.Test.YtigbnmckdjlihabTurn
import Derived.Test.YtigbnmckdjlihabLawB
import Derived.Test.YtigbnmckdjlihabBsMore
namespace Go.Proofs.Ytigbnmckdjlihab
open Go.RowKit

/-- The sum of bytes, as a number. -/
def sumK (l : List UInt8) : Nat := sumN 2166136261 l
theorem sumK_lt (l : List UInt8) : sumK l < 4294967296 := sumN_lt l _ (by omega)
theorem sumL_K (l : List UInt8) : sumL 2166136261 l = (sumK l : Nat) := by
  have h := sum_nat l 2166136261 (by omega)
  have e : ((2166136261 : Nat) : Int) = 2166136261 := rfl
  rw [e] at h
  exact h

def headL (ep sq : Nat) (l : List UInt8) : List UInt8 := be4 ep ++ be4 sq ++ be4 (l.length % 4294967296) ++ l
def frameL (ep sq : Nat) (l : List UInt8) : List UInt8 := headL ep sq l ++ be4 (sumK (headL ep sq l))
theorem headL_len (ep sq : Nat) (l : List UInt8) : (headL ep sq l).length = 12 + l.length := by simp only [headL, List.length_append, be4_len]
theorem frameL_len (ep sq : Nat) (l : List UInt8) : (frameL ep sq l).length = 16 + l.length := by simp only [frameL, List.length_append, be4_len, headL_len]; omega

/-- The first k of some numbers, as bytes. -/
def preL (N : List Nat) (k : Nat) : List UInt8 := (N.take k).flatMap be4
theorem preL_next (N : List Nat) (k : Nat) (h : k < N.length) : preL N (k + 1) = preL N k ++ be4 N[k] := by
  unfold preL
  rw [List.take_succ_eq_append_getElem h, List.flatMap_append]
  simp
theorem preL_len (N : List Nat) (k : Nat) (h : k ≤ N.length) : (preL N k).length = 4 * k := by
  induction k with
  | zero => simp [preL]
  | succ k ih => rw [preL_next N k (by omega), List.length_append, be4_len, ih (by omega)]; omega
def u32s (N : List Nat) : List Value := N.map fun (q : Nat) => Value.int .u32 (q : Int)
section
variable {w : World} {A : Option Addr} {n c : Nat} {l : List UInt8}
theorem bytesPost_bs {w' : World} {e : Ending} (h : BytesPost w l e w') : ∃ A c, e = .returned (.slice A l.length c) ∧ Bs w' A l.length c l ∧ w'.ownsRow w.heap.size 5 1 (.slice A l.length c) l.length (bts l) ∧ Chg [] w w' := by
  obtain ⟨v, rfl, ho, hc⟩ := h
  obtain ⟨A, c, rfl, hB, _⟩ := Bs.of_own ho
  exact ⟨A, c, rfl, hB, ho, hc⟩

theorem sumk_b (h : Bs w A n c l) : Calls Try.prog 60 #[.slice A n c] w fun e w' => e = .returned (.int .u32 (sumK l : Nat)) ∧ w = w' := by
  rw [← sumL_K]; exact sum_b h

set_option maxHeartbeats 1000000 in
theorem frame_any (h : Bs w A n c l) (ep sq : Nat) (he : ep < 4294967296) (hs : sq < 4294967296) (hn : n + 16 ≤ 140737488355328) :
    Calls Try.prog 42 #[.int .u32 (ep : Int), .int .u32 (sq : Int), .slice A n c] w (BytesPost w (frameL ep sq l)) := by
  obtain ⟨i, hi, hz, hs1, hb⟩ := info_parts info_byte
  have hmk : ∀ W : World, (Instr.makeSlice 23 (.int .i64 0) (.int .i64 (12 + (n : Int)))).run Try.prog W = .ok (.slice (some ⟨W.heap.size, 0, none⟩) 0 (12 + n)) (W.alloc (.cells (bts (zeros (12 + n))).toArray 5)) := by
    intro W
    rw [bts_zeros]
    have := run_make0 (P := Try.prog) 23 5 i _ rfl Try.underlying23 hi hz hs1 (12 + n) (by rw [hb]; omega) (by omega) W
    simpa using this
  go_enter Try.func42, Try.ntmps42
  go_wp2_with fail
  have ho0 : (w.alloc (.cells (bts (zeros (12 + n))).toArray 5)).ownsRow w.heap.size 5 1 (.slice (some ⟨w.heap.size, 0, none⟩) 0 (12 + n)) 0 [] := by
    have := own_of_whole (B := w.heap.size) (n := 0) (c := 12 + n) (Whole.new w 5 (bts (zeros (12 + n)))) (Nat.le_refl _) (by simp [bts_len, zeros_len]) (by omega) (by unfold maxLen; omega)
    simpa using this
  have hm32 : n % 4294967296 < 4294967296 := Nat.mod_lt _ (by omega)
  have hN : ∀ q ∈ [ep, sq, n % 4294967296], q < 4294967296 := by
    intro q hq
    simp only [List.mem_cons, List.not_mem_nil, or_false] at hq
    rcases hq with rfl | rfl | rfl <;> assumption
  have hNl : [ep, sq, n % 4294967296].length = 3 := rfl
  have hfin : preL [ep, sq, n % 4294967296] 3 ++ l = headL ep sq l := by rw [headL, h.len]; simp [preL]
  have HC := Whole.new (w.alloc (.cells (bts (zeros (12 + n))).toArray 5)) 24 (u32s [ep, sq, n % 4294967296])
  have ho1 := own_keep ho0 ((Chg.refl [] _).alloc (.cells (u32s [ep, sq, n % 4294967296]).toArray 24))
  have hc1 : Chg [] w ((w.alloc (.cells (bts (zeros (12 + n))).toArray 5)).alloc (.cells (u32s [ep, sq, n % 4294967296]).toArray 24)) := ((Chg.refl [] w).alloc _).alloc _
  have hzz : (w.alloc (.cells (bts (zeros (12 + n))).toArray 5)).heap.size = w.heap.size + 1 := by simp
  have hu : (u32s [ep, sq, n % 4294967296]).toArray = #[.int .u32 (ep : Int), .int .u32 (sq : Int), .int .u32 ((n : Int) % 4294967296)] := by
    simp [u32s]
  rw [hzz] at HC
  rw [hu] at HC ho1 hc1
  generalize (w.alloc (.cells (bts (zeros (12 + n))).toArray 5)).alloc (.cells #[.int .u32 (ep : Int), .int .u32 (sq : Int), .int .u32 ((n : Int) % 4294967296)] 24) = w1 at HC ho1 hc1 ⊢
  generalize [ep, sq, n % 4294967296] = N at HC hN hNl hfin
  have HN := Lib.hid hN
  have HNL := Lib.hid hNl
  have HFIN := Lib.hid hfin
  have HB1 := h.keep hc1
  clear hzz hu ho0 hN hNl hfin hmk
  go_loopw [7, 9, 21] (fun v _ i wr => ∃ k : Nat, k ≤ 3 ∧ i = .int .i64 (k : Int) ∧ (∃ m, m = 4 * k ∧ wr.ownsRow w.heap.size 5 1 v m (bts (preL N k))) ∧ Chg [] w1 wr) (fun _ _ i _ => 3 - (intOf i).toNat)
  case atStart => exact ⟨0, by omega, rfl, ⟨0, rfl, ho1⟩, Chg.refl _ _⟩
  case round =>
    obtain ⟨k, hk, rfl, ⟨m, hm0, hown⟩, hcr⟩ := hrel
    have hm1 : 4 * k ≤ m := by omega
    have hm2 : m ≤ 4 * k := by omega
    clear hm0
    obtain ⟨Av, cv, rfl, hBv, _⟩ := Bs.of_own hown
    by_cases hlt : k < 3
    · obtain ⟨q, hq⟩ : ∃ q, q = N[k]'(by rw [HNL.out]; exact hlt) := ⟨_, rfl⟩
      have hq2 := HN.out q (by rw [hq]; exact List.getElem_mem _)
      have hnx := Lib.hid (show preL N (k + 1) = preL N k ++ be4 q by rw [hq]; exact preL_next N k _)
      have cq : wr.cell? ⟨w.heap.size + 1, k, none⟩ = some (.int .u32 (q : Int)) := by
        rw [(HC.keep hcr).cell]
        unfold u32s
        rw [List.getElem?_map, List.getElem?_eq_getElem (by rw [HNL.out]; exact hlt), ← hq]
        rfl
      clear hq
      go_wp2_with fail
      refine (put_b hBv q hq2 (by omega)).mono ?_
      rintro e w2 ⟨v2, rfl, ho2, hc2⟩
      go_wp2_with fail
      go_roundw
      case rel =>
        refine ⟨k + 1, by omega, by go_num, ⟨(preL N k ++ be4 q).length, ?_, ?_⟩, hcr.new hc2⟩
        · have := hBv.len; rw [List.length_append, be4_len]; omega
        · rw [hnx.out]; exact own_more ho2 (by have := hc1.size; have := hcr.size; omega)
      case measure => simp [intOf]; omega
    · obtain rfl : k = 3 := by omega
      obtain ⟨w3, rfl⟩ : ∃ w3 : World, w3 = wr := ⟨_, rfl⟩
      have hl3 := HB1.keep hcr
      have hmx : m = 12 := by omega
      have hlb := Lib.hid (show (bts l).length = n by rw [bts_len, h.len])
      have hx1 := Lib.hid (show m + n ≤ maxLen by unfold maxLen; omega)
      have hx2 := Lib.hid (show (m + n) * 1 ≤ 140737488355328 by omega)
      clear hmx
      go_wp2_with (at_builtin
                   refine wpList_append_src rfl (.tmp 29) (.tmp 30) 23 rfl w.heap.size 5 i _ 1 Try.underlying23 hi hz hs1 hb cells_u8 (.slice Av m cv) m (bts (preL N 3)) rfl hown A n c (bts l) rfl hlb.out hl3.src (bts_one l) hx1.out hx2.out (by have := hc1.size; have := hcr.size; omega) ?_
                   intro v4 w4 ho4 hg4 _
                   have hc4 : Chg [] w w4 := (hc1.new hcr).own hown (Nat.le_refl _) hg4
                   clear hg4
                   rw [← bts_app, HFIN.out] at ho4
                   obtain ⟨A4, c4, rfl, hB4, _⟩ := Bs.of_own ho4)
      refine (sumk_b hB4).mono ?_
      rintro e w' ⟨rfl, rfl⟩
      go_wp2_with fail
      refine (put_b hB4 (sumK (headL ep sq l)) (sumK_lt _) (by omega)).mono ?_
      rintro e w5 ⟨v5, rfl, ho5, hc5⟩
      go_wp2_with fail
      go_ret
      exact ⟨v5, rfl, own_more ho5 hc4.size, hc4.new hc5⟩
end
end Go.Proofs.Ytigbnmckdjlihab
