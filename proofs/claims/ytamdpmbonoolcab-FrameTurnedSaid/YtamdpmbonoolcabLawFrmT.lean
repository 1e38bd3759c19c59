/-
  The walk of FrameTurned.
-/
import Derived.Test.YtamdpmbonoolcabKnownFrm
namespace Go.Proofs.Ytamdpmbonoolcab
open Go.RowKit

/-- The place that a number names in a row of n bytes. -/
theorem place_of (i : Int) (n : Nat) (hn : 0 < n) : -(n : Int) < i.tmod n ∧ i.tmod n < n ∧ ∃ j : Nat, (i.tmod n + n).tmod n = j ∧ j < n := by
  have h1 := Int.lt_tmod_of_pos i (show (0 : Int) < n by omega)
  have h2 := Int.tmod_lt_of_pos i (show (0 : Int) < n by omega)
  have h3 : 0 ≤ i.tmod n + n := by omega
  have h4 := Int.tmod_nonneg (n : Int) h3
  have h5 := Int.tmod_lt_of_pos (i.tmod n + n) (show (0 : Int) < n by omega)
  obtain ⟨j, hj⟩ := Int.eq_ofNat_of_zero_le h4
  exact ⟨h1, h2, j, hj, by omega⟩
section
variable {w : World} {A : Option Addr} {n c : Nat} {l : List UInt8}
set_option maxHeartbeats 4000000 in
set_option maxRecDepth 100000 in
theorem frameTurned_any (h : Bs w A n c l) (ep sq : Nat) (hep : ep < 4294967296) (hsq : sq < 4294967296) (i : Int) (x : UInt8) :
    Calls Try.prog 4 #[.slice A n c, .int .u32 (ep : Int), .int .u32 (sq : Int), .int .i64 i, .int .u8 (x.toNat : Int)] w (LawPost w) := by
  obtain ⟨i0, hi, hz, hs1, hb⟩ := info_parts info_byte
  have hA0 := add0 A
  by_cases hbig : 60 < n
  · have hb1 : (60 : Int) < (n : Int) := by omega
    have hcc : ¬ c < 60 := by have := h.cap; omega
    have hB := h.take (m := 60) (by omega)
    generalize l.take 60 = L at hB
    have hLn := hB.len
    have hFl : (frameL ep sq L).length = 76 := by rw [frameL_len, hLn]
    obtain ⟨p1, p2, j, hj, hjn⟩ := place_of i (76) (by omega)
    simp only [Int.cast_ofNat_Int] at p1 p2 hj
    have hjI : (j : Int) < 76 := by omega
    have hjJ : (0 : Int) ≤ (j : Int) := by omega
    have hne : ((76 : Nat) : Int) ≠ 0 := by omega
    go_enter Try.func4, Try.ntmps4
    go_wp2_with fail
    refine (frame_any hB ep sq hep hsq (by omega)).mono ?_
    rintro e w1 ⟨v1, rfl, ho1, hc1⟩
    obtain ⟨A1, c1, rfl, hB1, _⟩ := Bs.of_own ho1
    rw [hFl] at hB1 ⊢
    clear ho1
    by_cases h8 : 8 ≤ j ∧ j < 12
    · have h8a : (8 : Int) ≤ (j : Int) := by omega
      have h8b : (j : Int) < 12 := by omega
      go_wp2_with fail
      refine fknown_any.mono ?_
      rintro e w2 ⟨rfl, hc2⟩
      go_wp2_with fail
      go_ret
      exact ⟨rfl, hc1.new hc2⟩
    · have hT : ∀ D, D ≠ (frameL ep sq L)[j]'(by rw [hFl]; exact hjn) → ¬ readOk ((frameL ep sq L).set j D) ep sq := fun D hD => frame_turned ep sq L hep hsq (by omega) j (by rw [hFl]; exact hjn) h8 D hD
      generalize frameL ep sq L = f at hFl hB1 hT
      obtain ⟨z0, hz0⟩ : ∃ z0, z0 = f[j]'(by rw [hFl]; exact hjn) := ⟨_, rfl⟩
      obtain ⟨D, hD, hDne⟩ := turned z0 x
      have HNO := Lib.hid (hT D (by rw [← hz0]; exact hDne))
      have HZ := Lib.hid (show (bts f)[j]? = some (B8 z0) by rw [hz0]; exact bts_get f j _)
      have HD := Lib.hid hD
      clear hz0 hT hDne hD
      have hlb := Lib.hid (show (bts f).length = 76 by rw [bts_len, hFl])
      have hm1 := Lib.hid (show 0 + (76) ≤ maxLen by unfold maxLen; omega)
      have hm3 := Lib.hid (show (0 + (76)) * 1 ≤ 140737488355328 by omega)
      have HFl := Lib.hid hFl
      clear hFl
      have ho0 : (w1.alloc (.cells #[] 5)).ownsRow w1.heap.size 5 1 (.slice (some ⟨w1.heap.size, 0, none⟩) 0 0) 0 [] :=
        own_of_whole (B := w1.heap.size) (n := 0) (c := 0) (Whole.new w1 5 []) (Nat.le_refl _) rfl (by omega) (by unfold maxLen; omega)
      go_wp2_with (at_builtin
                   refine wpList_append_src rfl (.tmp 49) (.tmp 50) 24 rfl w1.heap.size 5 i0 _ 1 Try.underlying24 hi hz hs1 hb cells_u8 (.slice (some ⟨w1.heap.size, 0, none⟩) 0 0) 0 [] rfl ho0 A1 (76) c1 (bts f) rfl hlb.out (hB1.src.keep ((Chg.refl _ _).alloc _)) (bts_one f) hm1.out hm3.out (by simp) ?_
                   intro v2 w2 ho2 hg2 _
                   have hc2 : Chg [] w1 w2 := ((Chg.refl [] w1).alloc _).own ho0 (Nat.le_refl _) hg2
                   clear hg2
                   simp only [Nat.zero_add, List.nil_append] at ho2
                   obtain ⟨g, r, rfl, hbg, hW1, hr⟩ := own_whole ho2 (by omega)
                   have c0 : w2.cell? ⟨g, j, none⟩ = some (B8 z0) := by
                     rw [hW1.cell, List.getElem?_append_left (by rw [hlb.out]; exact hjn)]
                     exact HZ.out
                   have f0 := hW1.frozen j
                   have hW2 := hW1.set_ j (B8 D)
                   rw [List.set_append_left _ _ (by rw [hlb.out]; exact hjn), bts_set] at hW2
                   have hc3 : Chg [] w1 (w2.setCell ⟨g, j, none⟩ (B8 D)) := hc2.setCell (fun hlt => absurd hlt (by simp only; omega)) _
                   unfold B8 at c0 hW2 hc3
                   rw [← HD.out] at hW2 hc3
                   clear ho2 hW1)
      all_goals first | (exfalso; omega) | skip
      all_goals
        have hX : Bs (w2.setCell ⟨g, j, none⟩ (.int .u8 (bits .xor .u8 (z0.toNat : Int) (bits .or .u8 (x.toNat : Int) 1)))) (some ⟨g, 0, none⟩) (76) (76 + r.length) (f.set j D) := Bs.of_whole hW2 (by rw [List.length_set]; exact HFl.out) (by rw [List.take_left' (by rw [bts_len, List.length_set]; exact HFl.out)]) (by omega) (by simpa [maxLen] using hr)
        refine (read_any' hX ep sq (by omega)).mono ?_
        rintro e w3 (⟨hyes, _⟩ | ⟨_, rfl, hc4⟩)
        · exact absurd hyes HNO.out
        go_wp2_with fail
        refine fknown_any.mono ?_
        rintro e w4 ⟨rfl, hc5⟩
        go_wp2_with fail
        go_ret
        exact ⟨rfl, ((hc1.new hc3).new hc4).new hc5⟩
  · have hb1 : ¬ (60 : Int) < (n : Int) := by omega
    have hB := h
    have hle : n ≤ 60 := by omega
    generalize l = L at hB
    have hLn := hB.len
    have hFl : (frameL ep sq L).length = 16 + n := by rw [frameL_len, hLn]
    obtain ⟨p1, p2, j, hj, hjn⟩ := place_of i (16 + n) (by omega)
    rw [show ((16 + n : Nat) : Int) = 16 + (n : Int) by omega] at p1 p2 hj
    have hjI : (j : Int) < (16 + (n : Int)) := by omega
    have hjJ : (0 : Int) ≤ (j : Int) := by omega
    have hne : ((16 + n : Nat) : Int) ≠ 0 := by omega
    go_enter Try.func4, Try.ntmps4
    go_wp2_with fail
    refine (frame_any hB ep sq hep hsq (by omega)).mono ?_
    rintro e w1 ⟨v1, rfl, ho1, hc1⟩
    obtain ⟨A1, c1, rfl, hB1, _⟩ := Bs.of_own ho1
    rw [hFl] at hB1 ⊢
    clear ho1
    by_cases h8 : 8 ≤ j ∧ j < 12
    · have h8a : (8 : Int) ≤ (j : Int) := by omega
      have h8b : (j : Int) < 12 := by omega
      go_wp2_with fail
      refine fknown_any.mono ?_
      rintro e w2 ⟨rfl, hc2⟩
      go_wp2_with fail
      go_ret
      exact ⟨rfl, hc1.new hc2⟩
    · have hT : ∀ D, D ≠ (frameL ep sq L)[j]'(by rw [hFl]; exact hjn) → ¬ readOk ((frameL ep sq L).set j D) ep sq := fun D hD => frame_turned ep sq L hep hsq (by omega) j (by rw [hFl]; exact hjn) h8 D hD
      generalize frameL ep sq L = f at hFl hB1 hT
      obtain ⟨z0, hz0⟩ : ∃ z0, z0 = f[j]'(by rw [hFl]; exact hjn) := ⟨_, rfl⟩
      obtain ⟨D, hD, hDne⟩ := turned z0 x
      have HNO := Lib.hid (hT D (by rw [← hz0]; exact hDne))
      have HZ := Lib.hid (show (bts f)[j]? = some (B8 z0) by rw [hz0]; exact bts_get f j _)
      have HD := Lib.hid hD
      clear hz0 hT hDne hD
      have hlb := Lib.hid (show (bts f).length = 16 + n by rw [bts_len, hFl])
      have hm1 := Lib.hid (show 0 + (16 + n) ≤ maxLen by unfold maxLen; omega)
      have hm3 := Lib.hid (show (0 + (16 + n)) * 1 ≤ 140737488355328 by omega)
      have HFl := Lib.hid hFl
      clear hFl
      have ho0 : (w1.alloc (.cells #[] 5)).ownsRow w1.heap.size 5 1 (.slice (some ⟨w1.heap.size, 0, none⟩) 0 0) 0 [] :=
        own_of_whole (B := w1.heap.size) (n := 0) (c := 0) (Whole.new w1 5 []) (Nat.le_refl _) rfl (by omega) (by unfold maxLen; omega)
      go_wp2_with (at_builtin
                   refine wpList_append_src rfl (.tmp 49) (.tmp 50) 24 rfl w1.heap.size 5 i0 _ 1 Try.underlying24 hi hz hs1 hb cells_u8 (.slice (some ⟨w1.heap.size, 0, none⟩) 0 0) 0 [] rfl ho0 A1 (16 + n) c1 (bts f) rfl hlb.out (hB1.src.keep ((Chg.refl _ _).alloc _)) (bts_one f) hm1.out hm3.out (by simp) ?_
                   intro v2 w2 ho2 hg2 _
                   have hc2 : Chg [] w1 w2 := ((Chg.refl [] w1).alloc _).own ho0 (Nat.le_refl _) hg2
                   clear hg2
                   simp only [Nat.zero_add, List.nil_append] at ho2
                   obtain ⟨g, r, rfl, hbg, hW1, hr⟩ := own_whole ho2 (by omega)
                   have c0 : w2.cell? ⟨g, j, none⟩ = some (B8 z0) := by
                     rw [hW1.cell, List.getElem?_append_left (by rw [hlb.out]; exact hjn)]
                     exact HZ.out
                   have f0 := hW1.frozen j
                   have hW2 := hW1.set_ j (B8 D)
                   rw [List.set_append_left _ _ (by rw [hlb.out]; exact hjn), bts_set] at hW2
                   have hc3 : Chg [] w1 (w2.setCell ⟨g, j, none⟩ (B8 D)) := hc2.setCell (fun hlt => absurd hlt (by simp only; omega)) _
                   unfold B8 at c0 hW2 hc3
                   rw [← HD.out] at hW2 hc3
                   clear ho2 hW1)
      all_goals first | (exfalso; omega) | skip
      all_goals
        have hX : Bs (w2.setCell ⟨g, j, none⟩ (.int .u8 (bits .xor .u8 (z0.toNat : Int) (bits .or .u8 (x.toNat : Int) 1)))) (some ⟨g, 0, none⟩) (16 + n) (16 + n + r.length) (f.set j D) := Bs.of_whole hW2 (by rw [List.length_set]; exact HFl.out) (by rw [List.take_left' (by rw [bts_len, List.length_set]; exact HFl.out)]) (by omega) (by simpa [maxLen] using hr)
        refine (read_any' hX ep sq (by omega)).mono ?_
        rintro e w3 (⟨hyes, _⟩ | ⟨_, rfl, hc4⟩)
        · exact absurd hyes HNO.out
        go_wp2_with fail
        refine fknown_any.mono ?_
        rintro e w4 ⟨rfl, hc5⟩
        go_wp2_with fail
        go_ret
        exact ⟨rfl, ((hc1.new hc3).new hc4).new hc5⟩
end
end Go.Proofs.Ytamdpmbonoolcab
