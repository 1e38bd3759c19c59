/-
  The walk of SumTurns.
-/
import Derived.Test.YtamdpmbonoolcaaLawSumB
import Derived.Test.YtamdpmbonoolcaaTurn
namespace Go.Proofs.Ytamdpmbonoolcaa
open Go.RowKit

/-- The place that a number names in a row of n bytes. -/
theorem place_in (i : Int) (n : Nat) (hn : 0 < n) : -(n : Int) < i.tmod n ∧ i.tmod n < n ∧ ∃ j : Nat, (i.tmod n + n).tmod n = j ∧ j < n := by
  have h1 := Int.lt_tmod_of_pos i (show (0 : Int) < n by omega)
  have h2 := Int.tmod_lt_of_pos i (show (0 : Int) < n by omega)
  have h3 : 0 ≤ i.tmod n + n := by omega
  have h4 := Int.tmod_nonneg (n : Int) h3
  have h5 := Int.tmod_lt_of_pos (i.tmod n + n) (show (0 : Int) < n by omega)
  obtain ⟨j, hj⟩ := Int.eq_ofNat_of_zero_le h4
  exact ⟨h1, h2, j, hj, by omega⟩
/-- An own row that is not empty: its block, whole. -/
theorem own_whole {w : World} {B n : Nat} {e : TypeId} {v : Value} {xs : List Value} (h : w.ownsRow B e 1 v n xs) (hn : 0 < n) :
    ∃ g r, v = .slice (some ⟨g, 0, none⟩) n (n + r.length) ∧ B ≤ g ∧ Whole w g e (xs ++ r) ∧ n + r.length ≤ maxLen := by
  rcases h.2 with ⟨_, h0⟩ | ⟨g, cap, cur, rfl, hb, hg, hc, hm, hs, ht⟩
  · omega
  · have hl : cur.toList.length = cap := by rw [Array.length_toList]; omega
    have h1 : n * 1 = n := Nat.mul_one n
    rw [h1] at ht
    have e1 : cap = n + (cur.toList.drop n).length := by rw [List.length_drop, hl]; omega
    refine ⟨g, cur.toList.drop n, by rw [← e1], hb, ?_, by omega⟩
    unfold Whole
    rw [← ht, List.take_append_drop]
    exact hg

section
variable {w : World} {A M : Option Addr} {n c m d : Nat} {l more : List UInt8}
set_option maxHeartbeats 4000000 in
set_option maxRecDepth 100000 in
theorem sumTurns_any (h : Bs w A n c l) (i : Int) (_hi0 : -9223372036854775808 ≤ i) (_hi1 : i ≤ 9223372036854775807) (x : UInt8) (hm : Bs w M m d more) (hmm : m ≤ 140737488351232) :
    Calls Try.prog 11 #[.slice A n c, .int .i64 i, .int .u8 (x.toNat : Int), .slice M m d] w (LawPost w) := by
  obtain ⟨i0, hi, hz, hs1, hb⟩ := info_parts info_byte
  by_cases h0 : n = 0
  · subst h0
    have hn : ¬ (200 : Int) < ((0 : Nat) : Int) := by omega
    go_enter Try.func11, Try.ntmps11
    go_wp2_with fail
    refine lknown_any.mono ?_
    rintro e w1 ⟨rfl, hc1⟩
    go_wp2_with fail
    go_ret
    exact ⟨rfl, hc1⟩
  · have hA0 := add0 A
    by_cases hbig : 200 < n
    · have hb1 : (200 : Int) < (n : Int) := by omega
      have hcc : ¬ c < 200 := by have := h.cap; omega
      have hB := h.take (m := 200) (by omega)
      obtain ⟨p1, p2, j, hj, hjn⟩ := place_in i 200 (by omega)
      simp only [Int.cast_ofNat_Int] at p1 p2 hj
      generalize l.take 200 = L at hB
      have hLn := hB.len
      obtain ⟨z0, hz0⟩ : ∃ z0, z0 = L[j]'(by rw [hLn]; exact hjn) := ⟨_, rfl⟩
      obtain ⟨D, hD, hDne⟩ := turned z0 x
      have hst := sum_turn L j (by rw [hLn]; exact hjn) D (by rw [← hz0]; exact hDne)
      have HZ := Lib.hid (show (bts L)[j]? = some (B8 z0) by rw [hz0]; exact bts_get L j _)
      clear hz0
      have hbn : ((sumL 2166136261 (L.set j D)) != (sumL 2166136261 L)) = true := by simpa using hst
      have HB := Lib.hid hbn
      have HD := Lib.hid hD
      clear hbn hst hDne hD
      have hlb := Lib.hid (show (bts L).length = 200 by rw [bts_len, hLn])
      have hm1 := Lib.hid (show 0 + 200 ≤ maxLen by unfold maxLen; omega)
      have hm2 := Lib.hid (show 200 + m ≤ maxLen by unfold maxLen; omega)
      have hm3 := Lib.hid (show (0 + 200) * 1 ≤ 140737488355328 by omega)
      have hm4 := Lib.hid (show (200 + m) * 1 ≤ 140737488355328 by omega)
      have HLn := Lib.hid hLn
      have hml := Lib.hid hm.len
      clear hLn
      have ho0 : (w.alloc (.cells #[] 5)).ownsRow w.heap.size 5 1 (.slice (some ⟨w.heap.size, 0, none⟩) 0 0) 0 [] :=
        own_of_whole (B := w.heap.size) (n := 0) (c := 0) (Whole.new w 5 []) (Nat.le_refl _) rfl (by omega) (by unfold maxLen; omega)
      have hjI : (j : Int) < (200 : Int) := by omega
      have hjJ : (0 : Int) ≤ (j : Int) := by omega
      go_enter Try.func11, Try.ntmps11
      go_wp2_with (first
        | (at_builtin
           refine wpList_append_src rfl (.tmp 33) (.tmp 34) 28 rfl w.heap.size 5 i0 _ 1 Try.underlying28 hi hz hs1 hb cells_u8 (.slice (some ⟨w.heap.size, 0, none⟩) 0 0) 0 [] rfl ho0 A 200 c (bts L) rfl hlb.out (hB.src.keep ((Chg.refl _ _).alloc _)) (bts_one L) hm1.out hm3.out (by simp) ?_
           intro v1 w1 ho1 hg1 _
           have hc1 : Chg [] w w1 := ((Chg.refl [] w).alloc _).own ho0 (Nat.le_refl _) hg1
           clear hg1
           simp only [Nat.zero_add, List.nil_append] at ho1
           obtain ⟨g, r, rfl, hbg, hW1, hr⟩ := own_whole ho1 (by omega)
           have c0 : w1.cell? ⟨g, j, none⟩ = some (B8 z0) := by
             rw [hW1.cell, List.getElem?_append_left (by rw [hlb.out]; exact hjn)]
             exact HZ.out
           have f0 := hW1.frozen j
           have hW2 := hW1.set_ j (B8 D)
           rw [List.set_append_left _ _ (by rw [hlb.out]; exact hjn), bts_set] at hW2
           have hc2 : Chg [] w (w1.setCell ⟨g, j, none⟩ (B8 D)) := hc1.setCell (fun hlt => absurd hlt (by simp only; omega)) _
           unfold B8 at c0 hW2 hc2
           rw [← HD.out] at hW2 hc2
           clear ho1 hW1))
      obtain ⟨w2, hw2⟩ : ∃ w2 : World, w2 = w1.setCell ⟨g, j, none⟩ (.int .u8 (bits .xor .u8 (z0.toNat : Int) (bits .or .u8 (x.toNat : Int) 1))) := ⟨_, rfl⟩
      rw [← hw2] at hW2 hc2 ⊢
      clear hw2 c0 f0 hc1
      have hX : Bs w2 (some ⟨g, 0, none⟩) 200 (200 + r.length) (L.set j D) := Bs.of_whole hW2 (by rw [List.length_set]; exact HLn.out) (by rw [List.take_left' (by rw [bts_len, List.length_set]; exact HLn.out)]) (by omega) (by simpa [maxLen] using hr)
      have hB2 := hB.keep hc2
      have hm22 := hm.keep hc2
      refine (sum_b hB2).mono ?_
      rintro e w' ⟨rfl, rfl⟩
      go_wp2_with fail
      go_loop [11, 48] (fun h i => ∃ q : Nat, q ≤ m ∧ i = .int .i64 (q : Int) ∧ h = .int .u32 (sumL (sumL 2166136261 L) (more.take q))) (fun _ i => m - (intOf i).toNat)
      case atStart => exact ⟨0, Nat.zero_le _, rfl, rfl⟩
      case round =>
        obtain ⟨q, hq, rfl, rfl⟩ := hrel
        by_cases hlt : q < m
        · have hkl : q < more.length := by rw [hml.out]; exact hlt
          obtain ⟨⟨b, o, s⟩, rfl, _, hx⟩ := hm22.src (by rw [bts_len]; omega)
          obtain rfl : s = none := hm22.spot (by omega) _ rfl
          have hx1 := hx q _ (bts_get more q hkl)
          rw [add_plain] at hx1
          have hnx2 := sumL_next (sumL 2166136261 L) more q hkl
          clear hx
          generalize more[q] = z at hx1 hnx2
          unfold B8 at hx1
          generalize sumL (sumL 2166136261 L) (more.take q) = H at hnx2 ⊢
          have hnx := Lib.hid hnx2
          clear hnx2
          go_wp2_with (go_at_call 35; refine (step_any _ _).mono ?_; rintro e w' ⟨rfl, rfl⟩)
          go_round
          case rel => exact ⟨q + 1, by omega, by go_num, by rw [hnx.out]⟩
          case measure => simp [intOf]; omega
        · have hqm : q = m := by omega
          have ht : sumL (sumL 2166136261 L) (more.take q) = sumL 2166136261 (L ++ more) := by rw [List.take_of_length_le (by rw [hml.out]; omega), ← sumL_app]
          rw [ht]
          clear ht hqm
          have hbn2 := HB.out
          have hlm := Lib.hid (show (bts more).length = m by rw [bts_len, hml.out])
          have ho3 : (w2.alloc (.cells #[] 5)).ownsRow w2.heap.size 5 1 (.slice (some ⟨w2.heap.size, 0, none⟩) 0 0) 0 [] :=
            own_of_whole (B := w2.heap.size) (n := 0) (c := 0) (Whole.new w2 5 []) (Nat.le_refl _) rfl (by omega) (by unfold maxLen; omega)
          go_wp2_with fail
          refine (sum_b hX).mono ?_
          rintro e w' ⟨rfl, rfl⟩
          go_wp2_with fail
          refine (sum_b hB2).mono ?_
          rintro e w' ⟨rfl, rfl⟩
          go_wp2_with (first
            | (at_builtin
               refine wpList_append_src_g rfl (.tmp 62) (.tmp 63) 28 rfl w2.heap.size 5 i0 _ 1 Try.underlying28 hi hz hs1 hb cells_u8 (.slice (some ⟨w2.heap.size, 0, none⟩) 0 0) 0 [] rfl ho3 A 200 c (bts L) rfl hlb.out (hB2.src.keep ((Chg.refl _ _).alloc _)) (bts_one L) hm1.out hm3.out (by simp) ?_
               intro v3 w3 ho4 hg3 _
               have hc3 : Chg [] w2 w3 := ((Chg.refl [] w2).alloc _).own ho3 (Nat.le_refl _) hg3
               clear hg3
               simp only [Nat.zero_add, List.nil_append] at ho4
               obtain ⟨A3, c3, rfl, _⟩ := own_slice ho4)
            | (at_builtin
               refine wpList_append_src_g rfl (.tmp 64) (.tmp 65) 28 rfl w2.heap.size 5 i0 _ 1 Try.underlying28 hi hz hs1 hb cells_u8 (.slice A3 200 c3) 200 (bts L) rfl ho4 M m d (bts more) rfl hlm.out (hm22.keep hc3).src (bts_one more) hm2.out hm4.out hc3.size ?_
               intro v5 w5 ho5 hg5 _
               have hc5 : Chg [] w2 w5 := hc3.own ho4 (Nat.le_refl _) hg5
               clear hg5
               rw [← bts_app] at ho5
               obtain ⟨A5, c5, rfl, hB5, _⟩ := Bs.of_own ho5))
          refine (sum_b hB5).mono ?_
          rintro e w' ⟨rfl, rfl⟩
          go_wp2_with fail
          refine lknown_any.mono ?_
          rintro e w6 ⟨rfl, hc6⟩
          go_wp2_with fail
          go_ret
          exact ⟨rfl, (hc2.new hc5).new hc6⟩
    · have hb1 : ¬ (200 : Int) < (n : Int) := by omega
      have hB := h
      have hnp : 0 < n := by omega
      have hne : ((n : Int) == 0) = false := by simp; omega
      obtain ⟨p1, p2, j, hj, hjn⟩ := place_in i n hnp
      have hle : (n : Int) ≤ 200 := by omega
      generalize l = L at hB
      have hLn := hB.len
      obtain ⟨z0, hz0⟩ : ∃ z0, z0 = L[j]'(by rw [hLn]; exact hjn) := ⟨_, rfl⟩
      obtain ⟨D, hD, hDne⟩ := turned z0 x
      have hst := sum_turn L j (by rw [hLn]; exact hjn) D (by rw [← hz0]; exact hDne)
      have HZ := Lib.hid (show (bts L)[j]? = some (B8 z0) by rw [hz0]; exact bts_get L j _)
      clear hz0
      have hbn : ((sumL 2166136261 (L.set j D)) != (sumL 2166136261 L)) = true := by simpa using hst
      have HB := Lib.hid hbn
      have HD := Lib.hid hD
      clear hbn hst hDne hD
      have hlb := Lib.hid (show (bts L).length = n by rw [bts_len, hLn])
      have hm1 := Lib.hid (show 0 + n ≤ maxLen by unfold maxLen; omega)
      have hm2 := Lib.hid (show n + m ≤ maxLen by unfold maxLen; omega)
      have hm3 := Lib.hid (show (0 + n) * 1 ≤ 140737488355328 by omega)
      have hm4 := Lib.hid (show (n + m) * 1 ≤ 140737488355328 by omega)
      have HLn := Lib.hid hLn
      have hml := Lib.hid hm.len
      clear hLn
      have ho0 : (w.alloc (.cells #[] 5)).ownsRow w.heap.size 5 1 (.slice (some ⟨w.heap.size, 0, none⟩) 0 0) 0 [] :=
        own_of_whole (B := w.heap.size) (n := 0) (c := 0) (Whole.new w 5 []) (Nat.le_refl _) rfl (by omega) (by unfold maxLen; omega)
      have hjI : (j : Int) < (n : Int) := by omega
      have hjJ : (0 : Int) ≤ (j : Int) := by omega
      go_enter Try.func11, Try.ntmps11
      go_wp2_with (first
        | (at_builtin
           refine wpList_append_src rfl (.tmp 33) (.tmp 34) 28 rfl w.heap.size 5 i0 _ 1 Try.underlying28 hi hz hs1 hb cells_u8 (.slice (some ⟨w.heap.size, 0, none⟩) 0 0) 0 [] rfl ho0 A n c (bts L) rfl hlb.out (hB.src.keep ((Chg.refl _ _).alloc _)) (bts_one L) hm1.out hm3.out (by simp) ?_
           intro v1 w1 ho1 hg1 _
           have hc1 : Chg [] w w1 := ((Chg.refl [] w).alloc _).own ho0 (Nat.le_refl _) hg1
           clear hg1
           simp only [Nat.zero_add, List.nil_append] at ho1
           obtain ⟨g, r, rfl, hbg, hW1, hr⟩ := own_whole ho1 (by omega)
           have c0 : w1.cell? ⟨g, j, none⟩ = some (B8 z0) := by
             rw [hW1.cell, List.getElem?_append_left (by rw [hlb.out]; exact hjn)]
             exact HZ.out
           have f0 := hW1.frozen j
           have hW2 := hW1.set_ j (B8 D)
           rw [List.set_append_left _ _ (by rw [hlb.out]; exact hjn), bts_set] at hW2
           have hc2 : Chg [] w (w1.setCell ⟨g, j, none⟩ (B8 D)) := hc1.setCell (fun hlt => absurd hlt (by simp only; omega)) _
           unfold B8 at c0 hW2 hc2
           rw [← HD.out] at hW2 hc2
           clear ho1 hW1))
      obtain ⟨w2, hw2⟩ : ∃ w2 : World, w2 = w1.setCell ⟨g, j, none⟩ (.int .u8 (bits .xor .u8 (z0.toNat : Int) (bits .or .u8 (x.toNat : Int) 1))) := ⟨_, rfl⟩
      rw [← hw2] at hW2 hc2 ⊢
      clear hw2 c0 f0 hc1
      have hX : Bs w2 (some ⟨g, 0, none⟩) n (n + r.length) (L.set j D) := Bs.of_whole hW2 (by rw [List.length_set]; exact HLn.out) (by rw [List.take_left' (by rw [bts_len, List.length_set]; exact HLn.out)]) (by omega) (by simpa [maxLen] using hr)
      have hB2 := hB.keep hc2
      have hm22 := hm.keep hc2
      refine (sum_b hB2).mono ?_
      rintro e w' ⟨rfl, rfl⟩
      go_wp2_with fail
      go_loop [11, 48] (fun h i => ∃ q : Nat, q ≤ m ∧ i = .int .i64 (q : Int) ∧ h = .int .u32 (sumL (sumL 2166136261 L) (more.take q))) (fun _ i => m - (intOf i).toNat)
      case atStart => exact ⟨0, Nat.zero_le _, rfl, rfl⟩
      case round =>
        obtain ⟨q, hq, rfl, rfl⟩ := hrel
        by_cases hlt : q < m
        · have hkl : q < more.length := by rw [hml.out]; exact hlt
          obtain ⟨⟨b, o, s⟩, rfl, _, hx⟩ := hm22.src (by rw [bts_len]; omega)
          obtain rfl : s = none := hm22.spot (by omega) _ rfl
          have hx1 := hx q _ (bts_get more q hkl)
          rw [add_plain] at hx1
          have hnx2 := sumL_next (sumL 2166136261 L) more q hkl
          clear hx
          generalize more[q] = z at hx1 hnx2
          unfold B8 at hx1
          generalize sumL (sumL 2166136261 L) (more.take q) = H at hnx2 ⊢
          have hnx := Lib.hid hnx2
          clear hnx2
          go_wp2_with (go_at_call 35; refine (step_any _ _).mono ?_; rintro e w' ⟨rfl, rfl⟩)
          go_round
          case rel => exact ⟨q + 1, by omega, by go_num, by rw [hnx.out]⟩
          case measure => simp [intOf]; omega
        · have hqm : q = m := by omega
          have ht : sumL (sumL 2166136261 L) (more.take q) = sumL 2166136261 (L ++ more) := by rw [List.take_of_length_le (by rw [hml.out]; omega), ← sumL_app]
          rw [ht]
          clear ht hqm
          have hbn2 := HB.out
          have hlm := Lib.hid (show (bts more).length = m by rw [bts_len, hml.out])
          have ho3 : (w2.alloc (.cells #[] 5)).ownsRow w2.heap.size 5 1 (.slice (some ⟨w2.heap.size, 0, none⟩) 0 0) 0 [] :=
            own_of_whole (B := w2.heap.size) (n := 0) (c := 0) (Whole.new w2 5 []) (Nat.le_refl _) rfl (by omega) (by unfold maxLen; omega)
          go_wp2_with fail
          refine (sum_b hX).mono ?_
          rintro e w' ⟨rfl, rfl⟩
          go_wp2_with fail
          refine (sum_b hB2).mono ?_
          rintro e w' ⟨rfl, rfl⟩
          go_wp2_with (first
            | (at_builtin
               refine wpList_append_src_g rfl (.tmp 62) (.tmp 63) 28 rfl w2.heap.size 5 i0 _ 1 Try.underlying28 hi hz hs1 hb cells_u8 (.slice (some ⟨w2.heap.size, 0, none⟩) 0 0) 0 [] rfl ho3 A n c (bts L) rfl hlb.out (hB2.src.keep ((Chg.refl _ _).alloc _)) (bts_one L) hm1.out hm3.out (by simp) ?_
               intro v3 w3 ho4 hg3 _
               have hc3 : Chg [] w2 w3 := ((Chg.refl [] w2).alloc _).own ho3 (Nat.le_refl _) hg3
               clear hg3
               simp only [Nat.zero_add, List.nil_append] at ho4
               obtain ⟨A3, c3, rfl, _⟩ := own_slice ho4)
            | (at_builtin
               refine wpList_append_src_g rfl (.tmp 64) (.tmp 65) 28 rfl w2.heap.size 5 i0 _ 1 Try.underlying28 hi hz hs1 hb cells_u8 (.slice A3 n c3) n (bts L) rfl ho4 M m d (bts more) rfl hlm.out (hm22.keep hc3).src (bts_one more) hm2.out hm4.out hc3.size ?_
               intro v5 w5 ho5 hg5 _
               have hc5 : Chg [] w2 w5 := hc3.own ho4 (Nat.le_refl _) hg5
               clear hg5
               rw [← bts_app] at ho5
               obtain ⟨A5, c5, rfl, hB5, _⟩ := Bs.of_own ho5))
          refine (sum_b hB5).mono ?_
          rintro e w' ⟨rfl, rfl⟩
          go_wp2_with fail
          refine lknown_any.mono ?_
          rintro e w6 ⟨rfl, hc6⟩
          go_wp2_with fail
          go_ret
          exact ⟨rfl, (hc2.new hc5).new hc6⟩
end
end Go.Proofs.Ytamdpmbonoolcaa
