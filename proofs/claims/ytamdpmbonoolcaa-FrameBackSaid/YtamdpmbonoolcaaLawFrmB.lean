/-
  The walk of FrameBack.
-/
import Derived.Test.YtamdpmbonoolcaaKnownFrm
import Derived.Test.YtamdpmbonoolcaaFrmUse
import Derived.Test.YtamdpmbonoolcaaInto
namespace Go.Proofs.Ytamdpmbonoolcaa
open Go.RowKit
section
variable {w : World} {A M : Option Addr} {n c m d : Nat} {l more : List UInt8}
set_option maxHeartbeats 4000000 in
set_option maxRecDepth 100000 in
theorem frameBack_any (h : Bs w A n c l) (hm : Bs w M m d more) (hmm : m ≤ 140737488351232) (ep sq : Nat) (hep : ep < 4294967296) (hsq : sq < 4294967296) (i : Int) (hi0 : -9223372036854775808 ≤ i) (hi1 : i ≤ 9223372036854775807) :
    Calls Try.prog 14 #[.slice A n c, .slice M m d, .int .u32 (ep : Int), .int .u32 (sq : Int), .int .i64 i] w (LawPost w) := by
  obtain ⟨i0, hi, hz, hs1, hb⟩ := info_parts info_byte
  have hA0 := add0 A
  obtain ⟨ep1, hep1, hepl, hepn⟩ : ∃ ep1 : Nat, ((ep : Int) + 1) % 4294967296 = (ep1 : Int) ∧ ep1 < 4294967296 ∧ ep ≠ ep1 := ⟨(ep + 1) % 4294967296, by omega, by omega, by omega⟩
  obtain ⟨sq1, hsq1, hsql, hsqn⟩ : ∃ sq1 : Nat, ((sq : Int) + 1) % 4294967296 = (sq1 : Int) ∧ sq1 < 4294967296 ∧ sq ≠ sq1 := ⟨(sq + 1) % 4294967296, by omega, by omega, by omega⟩
  have hml := Lib.hid hm.len
  by_cases hbig : 100 < n
  · have hb1 : (100 : Int) < (n : Int) := by omega
    have hcc : ¬ c < 100 := by have := h.cap; omega
    have hB := h.take (m := 100) (by omega)
    generalize l.take 100 = L at hB
    have hLn := hB.len
    have hFl : (frameL ep sq L).length = 116 := by rw [frameL_len, hLn]
    have hlb := Lib.hid (show (bts (frameL ep sq L)).length = 116 by rw [bts_len, hFl])
    have hlm := Lib.hid (show (bts more).length = m by rw [bts_len, hml.out])
    have hx1 := Lib.hid (show 0 + (116) ≤ maxLen by unfold maxLen; omega)
    have hx2 := Lib.hid (show (0 + (116)) * 1 ≤ 140737488355328 by omega)
    have hx3 := Lib.hid (show 116 + m ≤ maxLen by unfold maxLen; omega)
    have hx4 := Lib.hid (show (116 + m) * 1 ≤ 140737488355328 by omega)
    obtain ⟨q, hq, hqM⟩ : ∃ q : Nat, withinI i 0 ((115 : Int)) = (q : Int) ∧ q < 116 := by
      have hin := into_within i 0 ((115 : Int)) (by omega)
      exact ⟨(withinI i 0 ((115 : Int))).toNat, by have := hin.1; omega, by have h1 := hin.1; have h2 := hin.2.1; omega⟩
    have hS := frame_short ep sq L hep hsq (by omega) q (by rw [hFl]; exact hqM) ep sq
    have hO := frame_other ep sq L [] hep hsq (by omega) ep1 sq (.inl hepn)
    have hP := frame_other ep sq L [] hep hsq (by omega) ep sq1 (.inr hsqn)
    rw [List.append_nil] at hO hP
    go_enter Try.func14, Try.ntmps14
    go_wp2_with fail
    refine (frame_any hB ep sq hep hsq (by omega)).mono ?_
    rintro e w1 ⟨v1, rfl, ho1, hc1⟩
    obtain ⟨A1, c1, rfl, hB1, _⟩ := Bs.of_own ho1
    rw [hFl] at hB1 ⊢
    have hm1 := hm.keep hc1
    have hA1 := add0 A1
    have hcap1 := hB1.cap
    have hq1 : ¬ c1 < q := by omega
    have ho0 : (w1.alloc (.cells #[] 5)).ownsRow w1.heap.size 5 1 (.slice (some ⟨w1.heap.size, 0, none⟩) 0 0) 0 [] :=
      own_of_whole (B := w1.heap.size) (n := 0) (c := 0) (Whole.new w1 5 []) (Nat.le_refl _) rfl (by omega) (by unfold maxLen; omega)
    clear ho1
    go_wp2_with (first
      | (at_builtin
         refine wpList_append_src rfl (.tmp 34) (.tmp 35) 28 rfl w1.heap.size 5 i0 _ 1 Try.underlying28 hi hz hs1 hb cells_u8 (.slice (some ⟨w1.heap.size, 0, none⟩) 0 0) 0 [] rfl ho0 A1 (116) c1 (bts (frameL ep sq L)) rfl hlb.out (hB1.src.keep ((Chg.refl _ _).alloc _)) (bts_one _) hx1.out hx2.out (by simp) ?_
         intro v2 w2 ho2 hg2 _
         have hc2 : Chg [] w1 w2 := ((Chg.refl [] w1).alloc _).own ho0 (Nat.le_refl _) hg2
         clear hg2
         simp only [Nat.zero_add, List.nil_append] at ho2
         obtain ⟨A2, c2, rfl, _⟩ := own_slice ho2)
      | (at_builtin
         refine wpList_append_src rfl (.tmp 36) (.tmp 37) 28 rfl w1.heap.size 5 i0 _ 1 Try.underlying28 hi hz hs1 hb cells_u8 (.slice A2 (116) c2) (116) (bts (frameL ep sq L)) rfl ho2 M m d (bts more) rfl hlm.out (hm1.keep hc2).src (bts_one more) hx3.out hx4.out hc2.size ?_
         intro v3 w3 ho3 hg3 _
         have hc3 : Chg [] w1 w3 := hc2.own ho2 (Nat.le_refl _) hg3
         clear hg3
         rw [← bts_app] at ho3
         obtain ⟨A3, c3, rfl, hB3, _⟩ := Bs.of_own ho3))
    refine (read_yes L more ep sq hep hsq (by omega) hB3 (by omega)).mono ?_
    rintro e w4 ⟨A4, c4, rfl, hB4, hc4⟩
    rw [hLn] at hB4 ⊢
    have hc14 := hc3.new hc4
    have hv4 := hB4.str (P := Try.prog) 28 5 9 Try.underlying28 Try.underlying5 Try.underlying9
    have hvb := ((hB.keep hc1).keep hc14).str (P := Try.prog) 28 5 9 Try.underlying28 Try.underlying5 Try.underlying9
    have hB14 := hB1.keep hc14
    go_wp2_with fail
    with_reducible refine (within_is i 0 ((115 : Int)) (by omega) (by omega) (by omega) hi0 hi1).mono ?_
    rintro e w' ⟨rfl, rfl⟩
    rw [hq]
    go_wp2_with fail
    refine (read_no (hB14.take (m := q) (by omega)) ep sq hS (by omega)).mono ?_
    rintro e w5 ⟨rfl, hc5⟩
    go_wp2_with fail
    refine (read_no (hB14.keep hc5) ep1 sq hO (by omega)).mono ?_
    rintro e w6 ⟨rfl, hc6⟩
    go_wp2_with fail
    refine (read_no ((hB14.keep hc5).keep hc6) ep sq1 hP (by omega)).mono ?_
    rintro e w7 ⟨rfl, hc7⟩
    go_wp2_with fail
    refine fknown_any.mono ?_
    rintro e w8 ⟨rfl, hc8⟩
    go_wp2_with fail
    go_ret
    exact ⟨rfl, ((((hc1.new hc14).new hc5).new hc6).new hc7).new hc8⟩
  · have hb1 : ¬ (100 : Int) < (n : Int) := by omega
    have hB := h
    have hle : n ≤ 100 := by omega
    generalize l = L at hB
    have hLn := hB.len
    have hFl : (frameL ep sq L).length = 16 + n := by rw [frameL_len, hLn]
    have hlb := Lib.hid (show (bts (frameL ep sq L)).length = 16 + n by rw [bts_len, hFl])
    have hlm := Lib.hid (show (bts more).length = m by rw [bts_len, hml.out])
    have hx1 := Lib.hid (show 0 + (16 + n) ≤ maxLen by unfold maxLen; omega)
    have hx2 := Lib.hid (show (0 + (16 + n)) * 1 ≤ 140737488355328 by omega)
    have hx3 := Lib.hid (show 16 + n + m ≤ maxLen by unfold maxLen; omega)
    have hx4 := Lib.hid (show (16 + n + m) * 1 ≤ 140737488355328 by omega)
    obtain ⟨q, hq, hqM⟩ : ∃ q : Nat, withinI i 0 ((n : Int) + 16 - 1) = (q : Int) ∧ q < 16 + n := by
      have hin := into_within i 0 ((n : Int) + 16 - 1) (by omega)
      exact ⟨(withinI i 0 ((n : Int) + 16 - 1)).toNat, by have := hin.1; omega, by have h1 := hin.1; have h2 := hin.2.1; omega⟩
    have hS := frame_short ep sq L hep hsq (by omega) q (by rw [hFl]; exact hqM) ep sq
    have hO := frame_other ep sq L [] hep hsq (by omega) ep1 sq (.inl hepn)
    have hP := frame_other ep sq L [] hep hsq (by omega) ep sq1 (.inr hsqn)
    rw [List.append_nil] at hO hP
    go_enter Try.func14, Try.ntmps14
    go_wp2_with fail
    refine (frame_any hB ep sq hep hsq (by omega)).mono ?_
    rintro e w1 ⟨v1, rfl, ho1, hc1⟩
    obtain ⟨A1, c1, rfl, hB1, _⟩ := Bs.of_own ho1
    rw [hFl] at hB1 ⊢
    have hm1 := hm.keep hc1
    have hA1 := add0 A1
    have hcap1 := hB1.cap
    have hq1 : ¬ c1 < q := by omega
    have ho0 : (w1.alloc (.cells #[] 5)).ownsRow w1.heap.size 5 1 (.slice (some ⟨w1.heap.size, 0, none⟩) 0 0) 0 [] :=
      own_of_whole (B := w1.heap.size) (n := 0) (c := 0) (Whole.new w1 5 []) (Nat.le_refl _) rfl (by omega) (by unfold maxLen; omega)
    clear ho1
    go_wp2_with (first
      | (at_builtin
         refine wpList_append_src rfl (.tmp 34) (.tmp 35) 28 rfl w1.heap.size 5 i0 _ 1 Try.underlying28 hi hz hs1 hb cells_u8 (.slice (some ⟨w1.heap.size, 0, none⟩) 0 0) 0 [] rfl ho0 A1 (16 + n) c1 (bts (frameL ep sq L)) rfl hlb.out (hB1.src.keep ((Chg.refl _ _).alloc _)) (bts_one _) hx1.out hx2.out (by simp) ?_
         intro v2 w2 ho2 hg2 _
         have hc2 : Chg [] w1 w2 := ((Chg.refl [] w1).alloc _).own ho0 (Nat.le_refl _) hg2
         clear hg2
         simp only [Nat.zero_add, List.nil_append] at ho2
         obtain ⟨A2, c2, rfl, _⟩ := own_slice ho2)
      | (at_builtin
         refine wpList_append_src rfl (.tmp 36) (.tmp 37) 28 rfl w1.heap.size 5 i0 _ 1 Try.underlying28 hi hz hs1 hb cells_u8 (.slice A2 (16 + n) c2) (16 + n) (bts (frameL ep sq L)) rfl ho2 M m d (bts more) rfl hlm.out (hm1.keep hc2).src (bts_one more) hx3.out hx4.out hc2.size ?_
         intro v3 w3 ho3 hg3 _
         have hc3 : Chg [] w1 w3 := hc2.own ho2 (Nat.le_refl _) hg3
         clear hg3
         rw [← bts_app] at ho3
         obtain ⟨A3, c3, rfl, hB3, _⟩ := Bs.of_own ho3))
    refine (read_yes L more ep sq hep hsq (by omega) hB3 (by omega)).mono ?_
    rintro e w4 ⟨A4, c4, rfl, hB4, hc4⟩
    rw [hLn] at hB4 ⊢
    have hc14 := hc3.new hc4
    have hv4 := hB4.str (P := Try.prog) 28 5 9 Try.underlying28 Try.underlying5 Try.underlying9
    have hvb := ((hB.keep hc1).keep hc14).str (P := Try.prog) 28 5 9 Try.underlying28 Try.underlying5 Try.underlying9
    have hB14 := hB1.keep hc14
    go_wp2_with fail
    with_reducible refine (within_is i 0 ((n : Int) + 16 - 1) (by omega) (by omega) (by omega) hi0 hi1).mono ?_
    rintro e w' ⟨rfl, rfl⟩
    rw [hq]
    go_wp2_with fail
    refine (read_no (hB14.take (m := q) (by omega)) ep sq hS (by omega)).mono ?_
    rintro e w5 ⟨rfl, hc5⟩
    go_wp2_with fail
    refine (read_no (hB14.keep hc5) ep1 sq hO (by omega)).mono ?_
    rintro e w6 ⟨rfl, hc6⟩
    go_wp2_with fail
    refine (read_no ((hB14.keep hc5).keep hc6) ep sq1 hP (by omega)).mono ?_
    rintro e w7 ⟨rfl, hc7⟩
    go_wp2_with fail
    refine fknown_any.mono ?_
    rintro e w8 ⟨rfl, hc8⟩
    go_wp2_with fail
    go_ret
    exact ⟨rfl, ((((hc1.new hc14).new hc5).new hc6).new hc7).new hc8⟩
end
end Go.Proofs.Ytamdpmbonoolcaa
