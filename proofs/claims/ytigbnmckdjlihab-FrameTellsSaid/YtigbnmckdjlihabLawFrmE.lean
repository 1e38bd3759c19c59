/-
  The walk of FrameTells.
-/
import Derived.Test.YtigbnmckdjlihabRowFrm
import Derived.Test.YtigbnmckdjlihabKnownFrm
import Derived.Test.YtigbnmckdjlihabInto
import Derived.Test.YtigbnmckdjlihabAppFull
namespace Go.Proofs.Ytigbnmckdjlihab
open Go.RowKit
section
variable {w : World} {A R : Option Addr} {n c m d : Nat} {vs : List Value} {ls : List (List UInt8)} {raw : List UInt8}
set_option maxHeartbeats 4000000 in
set_option maxRecDepth 100000 in
theorem frameTells_any (hA : Src w A vs) (hsp : 0 < n → ∀ ad, A = some ad → ad.spot = none) (hn : vs.length = n) (hnm : n ≤ 9223372036854775807) (hL : Lists w vs ls) (hR : Bs w R m d raw) (ep sq : Nat) (he : ep < 4294967296) (hs : sq < 4294967296) (i : Int) (hi0 : -9223372036854775808 ≤ i) (hi1 : i ≤ 9223372036854775807) (x : UInt8) :
    Calls Try.prog 3 #[.slice A n c, .slice R m d, .int .u32 (ep : Int), .int .u32 (sq : Int), .int .i64 i, .int .u8 (x.toNat : Int)] w (LawPost w) := by
  obtain ⟨i0, hi, hz, hs1, hb⟩ := info_parts info_byte
  go_enter Try.func3, Try.ntmps3
  go_wp2_with fail
  refine (row_any hA hsp hn hnm hL ep he).mono ?_
  rintro e w1 ⟨v1, rfl, ho1, hc1⟩
  have hFl : (rowB ep ls (min n 6)).length ≤ 336 := by have := rowB_len ep ls (min n 6); omega
  generalize rowB ep ls (min n 6) = F at ho1 hFl
  obtain ⟨M, hM⟩ : ∃ M, M = F.length := ⟨_, rfl⟩
  rw [← hM] at ho1 hFl
  obtain ⟨A1, c1, rfl, hB1, _⟩ := Bs.of_own ho1
  have hlF := Lib.hid (show (bts F).length = M by rw [bts_len, hM])
  have HM := Lib.hid hM
  clear hM
  have hx1 := Lib.hid (show 0 + M ≤ maxLen by unfold maxLen; omega)
  have hx3 := Lib.hid (show (0 + M) * 1 ≤ 140737488355328 by omega)
  have ho0 : (w1.alloc (.cells #[] 5)).ownsRow w1.heap.size 5 1 (.slice (some ⟨w1.heap.size, 0, none⟩) 0 0) 0 [] :=
    own_of_whole (B := w1.heap.size) (n := 0) (c := 0) (Whole.new w1 5 []) (Nat.le_refl _) rfl (by omega) (by unfold maxLen; omega)
  obtain ⟨q3, hq3, hq3l⟩ : ∃ q : Nat, bits .and .u32 (sq : Int) 3 = (q : Int) ∧ q < 4294967296 := by
    exact ⟨sq &&& 3, u32_and_nat sq 3 hs (by omega), by have := Nat.and_le_right (n := sq) (m := 3); omega⟩
  obtain ⟨k, hk, hkM⟩ : ∃ q : Nat, withinI i 0 (M : Int) = (q : Int) ∧ q ≤ M := by
    have hin := into_within i 0 (M : Int) (by omega)
    exact ⟨(withinI i 0 (M : Int)).toNat, by have := hin.1; omega, by have h1 := hin.1; have h2 := hin.2.1; omega⟩
  have hHM := hB1.cap
  by_cases hraw : 200 < m
  · have hr1 : (200 : Int) < (m : Int) := by omega
    have hdd : ¬ d < 200 := by have := hR.cap; omega
    have hRr := hR.take (m := 200) (by omega)
    have hA0R := add0 R
    generalize raw.take 200 = RL at hRr
    rcases Nat.eq_zero_or_pos M with hM0 | hM0
    · subst hM0
      obtain rfl : k = 0 := by omega
      go_wp2_with (at_builtin
                   refine wpList_append_src rfl (.tmp 19) (.tmp 20) 23 rfl w1.heap.size 5 i0 _ 1 Try.underlying23 hi hz hs1 hb cells_u8 (.slice (some ⟨w1.heap.size, 0, none⟩) 0 0) 0 [] rfl ho0 A1 0 c1 (bts F) rfl hlF.out (hB1.src.keep ((Chg.refl _ _).alloc _)) (bts_one F) hx1.out hx3.out (by simp) ?_
                   intro v2 w3 ho2 hg2 _
                   have hc3 : Chg [] w1 w3 := ((Chg.refl [] w1).alloc _).own ho0 (Nat.le_refl _) hg2
                   clear hg2
                   simp only [Nat.zero_add, List.nil_append] at ho2
                   obtain ⟨Ax, cx, rfl, hBX0, _⟩ := Bs.of_own ho2)
      obtain ⟨X, hBX⟩ : ∃ X, Bs w3 Ax 0 cx X := ⟨_, hBX0⟩
      have hcX : Chg [] w w3 := hc1.new hc3
      have hBb := hB1.keep hc3
      have hRw := (hRr.keep hc1).keep hc3
      with_reducible refine (within_is i 0 (0) (by omega) (by omega) (by omega) hi0 hi1).mono ?_
      rintro e w' ⟨rfl, rfl⟩
      rw [show withinI i 0 0 = ((0 : Nat) : Int) from hk]
      have hkc : ¬ c1 < 0 := by omega
      have hA1 := add0 A1
      go_wp2_with fail
      refine (fsame_any hBb ep 0 he (by omega) (by omega)).mono ?_
      rintro e wa ⟨rfl, hca⟩
      go_wp2_with fail
      refine (fsame_any (hBX.keep hca) ep 0 he (by omega) (by omega)).mono ?_
      rintro e wb ⟨rfl, hcb⟩
      have hBk := ((hBb.keep hca).keep hcb).take (m := 0) (by omega)
      go_wp2_with fail
      with_reducible refine (fsame_any hBk ep q3 he hq3l (by omega)).mono ?_
      rintro e wc ⟨rfl, hcc⟩
      have hBkc := hBk.keep hcc
      have hBkk : Bs wc A1 0 0 (F.take 0) := ⟨hBkc.len, hBkc.src, Nat.le_refl _, by omega, hBkc.spot⟩
      have hRc := ((hRw.keep hca).keep hcb).keep hcc
      have hRn := hRc.len
      have hlc := Lib.hid (show (F.take 0 ++ RL).length ≤ 1000000 by rw [List.length_append, hBkk.len, hRn]; omega)
      have hln := Lib.hid (show 0 + (200) ≤ 140737488355328 by omega)
      go_wp2_with (at_builtin
                   refine wpList_append_bs_g rfl (.tmp 66) (.tmp 67) 23 rfl 5 i0 _ Try.underlying23 hi hz hs1 hb cells_u8 A1 0 (F.take 0) rfl hBkk R (200) d RL rfl hRc hln.out ?_
                   intro A9 c9 wd hBd hcd)
      refine (fsame_any hBd ep 0 he (by omega) (by have := hBd.len; have := hlc.out; omega)).mono ?_
      rintro e we ⟨rfl, hce⟩
      go_wp2_with fail
      with_reducible refine (fsame_any ((hRc.keep hcd).keep hce) ep sq he hs (by omega)).mono ?_
      rintro e wf ⟨rfl, hcf⟩
      go_wp2_with fail
      refine fknown_any.mono ?_
      rintro e wg ⟨rfl, hcg⟩
      go_wp2_with fail
      go_ret
      exact ⟨rfl, (((((((hcX.new hca).new hcb).new hcc).new hcd).new hce).new hcf).new hcg)⟩
    · obtain ⟨j, hj, hjM⟩ : ∃ q : Nat, withinI i 0 ((M : Int) - 1) = (q : Int) ∧ q < M := by
        have hin := into_within i 0 ((M : Int) - 1) (by omega)
        exact ⟨(withinI i 0 ((M : Int) - 1)).toNat, by have := hin.1; omega, by have h1 := hin.1; have h2 := hin.2.1; omega⟩
      have hjI : (j : Int) < (M : Int) := by omega
      have hjJ : (0 : Int) ≤ (j : Int) := by omega
      have hMp : (0 : Int) < (M : Int) := by omega
      obtain ⟨z0, hz0⟩ : ∃ z0, z0 = F[j]'(by rw [← HM.out]; exact hjM) := ⟨_, rfl⟩
      have HZ := Lib.hid (show (bts F)[j]? = some (B8 z0) by rw [hz0]; exact bts_get F j _)
      clear hz0
      obtain ⟨D, hD⟩ : ∃ D : UInt8, bits .xor .u8 (z0.toNat : Int) (x.toNat : Int) = (D.toNat : Int) := by
        have h1 := z0.toNat_lt
        have h2 := x.toNat_lt
        refine ⟨UInt8.ofNat (z0.toNat ^^^ x.toNat), ?_⟩
        rw [u8_xor_nat _ _ (by omega) (by omega), UInt8.toNat_ofNat']
        have h3 : z0.toNat ^^^ x.toNat < 256 := Nat.xor_lt_two_pow (n := 8) (by omega) (by omega)
        omega
      have HD := Lib.hid hD
      clear hD
      go_wp2_with (at_builtin
                   refine wpList_append_src rfl (.tmp 19) (.tmp 20) 23 rfl w1.heap.size 5 i0 _ 1 Try.underlying23 hi hz hs1 hb cells_u8 (.slice (some ⟨w1.heap.size, 0, none⟩) 0 0) 0 [] rfl ho0 A1 M c1 (bts F) rfl hlF.out (hB1.src.keep ((Chg.refl _ _).alloc _)) (bts_one F) hx1.out hx3.out (by simp) ?_
                   intro v2 w2 ho2 hg2 _
                   have hc2 : Chg [] w1 w2 := ((Chg.refl [] w1).alloc _).own ho0 (Nat.le_refl _) hg2
                   clear hg2
                   simp only [Nat.zero_add, List.nil_append] at ho2
                   obtain ⟨g, r, rfl, hbg, hW1, hr⟩ := own_whole ho2 hM0
                   have c0 : w2.cell? ⟨g, j, none⟩ = some (B8 z0) := by
                     rw [hW1.cell, List.getElem?_append_left (by rw [hlF.out]; exact hjM)]
                     exact HZ.out
                   have f0 := hW1.frozen j
                   have hW2 := hW1.set_ j (B8 D)
                   rw [List.set_append_left _ _ (by rw [hlF.out]; exact hjM), bts_set] at hW2
                   have hc3 : Chg [] w1 (w2.setCell ⟨g, j, none⟩ (B8 D)) := hc2.setCell (fun hlt => absurd hlt (by simp only; omega)) _
                   unfold B8 at c0 hW2 hc3
                   rw [← HD.out] at hW2 hc3
                   clear ho2 hW1)
      with_reducible refine (within_is i 0 ((M : Int) - 1) (by omega) (by omega) (by omega) hi0 hi1).mono ?_
      rintro e w' ⟨rfl, rfl⟩
      rw [hj]
      go_wp2_with fail
      obtain ⟨w3, hw3⟩ : ∃ w3 : World, w3 = w2.setCell ⟨g, j, none⟩ (.int .u8 (bits .xor .u8 (z0.toNat : Int) (x.toNat : Int))) := ⟨_, rfl⟩
      rw [← hw3] at hW2 hc3 ⊢
      clear hw3 c0 f0 hc2
      have hBX : Bs w3 (some ⟨g, 0, none⟩) M (M + r.length) (F.set j D) := Bs.of_whole hW2 (by rw [List.length_set]; exact HM.out.symm) (by rw [List.take_left' (by rw [bts_len, List.length_set]; exact HM.out.symm)]) (by omega) (by simpa [maxLen] using hr)
      have hcX : Chg [] w w3 := hc1.new hc3
      have hBb := hB1.keep hc3
      have hRw := (hRr.keep hc1).keep hc3
      with_reducible refine (within_is i 0 ((M : Int)) (by omega) (by omega) (by omega) hi0 hi1).mono ?_
      rintro e w' ⟨rfl, rfl⟩
      rw [hk]
      have hkc : ¬ c1 < k := by omega
      have hA1 := add0 A1
      go_wp2_with fail
      refine (fsame_any hBb ep 0 he (by omega) (by omega)).mono ?_
      rintro e wa ⟨rfl, hca⟩
      go_wp2_with fail
      refine (fsame_any (hBX.keep hca) ep 0 he (by omega) (by omega)).mono ?_
      rintro e wb ⟨rfl, hcb⟩
      have hBk := ((hBb.keep hca).keep hcb).take (m := k) (by omega)
      go_wp2_with fail
      with_reducible refine (fsame_any hBk ep q3 he hq3l (by omega)).mono ?_
      rintro e wc ⟨rfl, hcc⟩
      have hBkc := hBk.keep hcc
      have hBkk : Bs wc A1 k k (F.take k) := ⟨hBkc.len, hBkc.src, Nat.le_refl _, by omega, hBkc.spot⟩
      have hRc := ((hRw.keep hca).keep hcb).keep hcc
      have hRn := hRc.len
      have hlc := Lib.hid (show (F.take k ++ RL).length ≤ 1000000 by rw [List.length_append, hBkk.len, hRn]; omega)
      have hln := Lib.hid (show k + (200) ≤ 140737488355328 by omega)
      go_wp2_with (at_builtin
                   refine wpList_append_bs_g rfl (.tmp 66) (.tmp 67) 23 rfl 5 i0 _ Try.underlying23 hi hz hs1 hb cells_u8 A1 k (F.take k) rfl hBkk R (200) d RL rfl hRc hln.out ?_
                   intro A9 c9 wd hBd hcd)
      refine (fsame_any hBd ep 0 he (by omega) (by have := hBd.len; have := hlc.out; omega)).mono ?_
      rintro e we ⟨rfl, hce⟩
      go_wp2_with fail
      with_reducible refine (fsame_any ((hRc.keep hcd).keep hce) ep sq he hs (by omega)).mono ?_
      rintro e wf ⟨rfl, hcf⟩
      go_wp2_with fail
      refine fknown_any.mono ?_
      rintro e wg ⟨rfl, hcg⟩
      go_wp2_with fail
      go_ret
      exact ⟨rfl, (((((((hcX.new hca).new hcb).new hcc).new hcd).new hce).new hcf).new hcg)⟩
  · have hr1 : ¬ (200 : Int) < (m : Int) := by omega
    have hRr := hR
    have hm200 : m ≤ 200 := by omega
    generalize raw = RL at hRr
    rcases Nat.eq_zero_or_pos M with hM0 | hM0
    · subst hM0
      obtain rfl : k = 0 := by omega
      go_wp2_with (at_builtin
                   refine wpList_append_src rfl (.tmp 19) (.tmp 20) 23 rfl w1.heap.size 5 i0 _ 1 Try.underlying23 hi hz hs1 hb cells_u8 (.slice (some ⟨w1.heap.size, 0, none⟩) 0 0) 0 [] rfl ho0 A1 0 c1 (bts F) rfl hlF.out (hB1.src.keep ((Chg.refl _ _).alloc _)) (bts_one F) hx1.out hx3.out (by simp) ?_
                   intro v2 w3 ho2 hg2 _
                   have hc3 : Chg [] w1 w3 := ((Chg.refl [] w1).alloc _).own ho0 (Nat.le_refl _) hg2
                   clear hg2
                   simp only [Nat.zero_add, List.nil_append] at ho2
                   obtain ⟨Ax, cx, rfl, hBX0, _⟩ := Bs.of_own ho2)
      obtain ⟨X, hBX⟩ : ∃ X, Bs w3 Ax 0 cx X := ⟨_, hBX0⟩
      have hcX : Chg [] w w3 := hc1.new hc3
      have hBb := hB1.keep hc3
      have hRw := (hRr.keep hc1).keep hc3
      with_reducible refine (within_is i 0 (0) (by omega) (by omega) (by omega) hi0 hi1).mono ?_
      rintro e w' ⟨rfl, rfl⟩
      rw [show withinI i 0 0 = ((0 : Nat) : Int) from hk]
      have hkc : ¬ c1 < 0 := by omega
      have hA1 := add0 A1
      go_wp2_with fail
      refine (fsame_any hBb ep 0 he (by omega) (by omega)).mono ?_
      rintro e wa ⟨rfl, hca⟩
      go_wp2_with fail
      refine (fsame_any (hBX.keep hca) ep 0 he (by omega) (by omega)).mono ?_
      rintro e wb ⟨rfl, hcb⟩
      have hBk := ((hBb.keep hca).keep hcb).take (m := 0) (by omega)
      go_wp2_with fail
      with_reducible refine (fsame_any hBk ep q3 he hq3l (by omega)).mono ?_
      rintro e wc ⟨rfl, hcc⟩
      have hBkc := hBk.keep hcc
      have hBkk : Bs wc A1 0 0 (F.take 0) := ⟨hBkc.len, hBkc.src, Nat.le_refl _, by omega, hBkc.spot⟩
      have hRc := ((hRw.keep hca).keep hcb).keep hcc
      have hRn := hRc.len
      have hlc := Lib.hid (show (F.take 0 ++ RL).length ≤ 1000000 by rw [List.length_append, hBkk.len, hRn]; omega)
      have hln := Lib.hid (show 0 + (m) ≤ 140737488355328 by omega)
      go_wp2_with (at_builtin
                   refine wpList_append_bs_g rfl (.tmp 66) (.tmp 67) 23 rfl 5 i0 _ Try.underlying23 hi hz hs1 hb cells_u8 A1 0 (F.take 0) rfl hBkk R (m) d RL rfl hRc hln.out ?_
                   intro A9 c9 wd hBd hcd)
      rw [Nat.zero_add] at hBd
      refine (fsame_any hBd ep 0 he (by omega) (by have := hBd.len; have := hlc.out; omega)).mono ?_
      rintro e we ⟨rfl, hce⟩
      go_wp2_with fail
      with_reducible refine (fsame_any ((hRc.keep hcd).keep hce) ep sq he hs (by omega)).mono ?_
      rintro e wf ⟨rfl, hcf⟩
      go_wp2_with fail
      refine fknown_any.mono ?_
      rintro e wg ⟨rfl, hcg⟩
      go_wp2_with fail
      go_ret
      exact ⟨rfl, (((((((hcX.new hca).new hcb).new hcc).new hcd).new hce).new hcf).new hcg)⟩
    · obtain ⟨j, hj, hjM⟩ : ∃ q : Nat, withinI i 0 ((M : Int) - 1) = (q : Int) ∧ q < M := by
        have hin := into_within i 0 ((M : Int) - 1) (by omega)
        exact ⟨(withinI i 0 ((M : Int) - 1)).toNat, by have := hin.1; omega, by have h1 := hin.1; have h2 := hin.2.1; omega⟩
      have hjI : (j : Int) < (M : Int) := by omega
      have hjJ : (0 : Int) ≤ (j : Int) := by omega
      have hMp : (0 : Int) < (M : Int) := by omega
      obtain ⟨z0, hz0⟩ : ∃ z0, z0 = F[j]'(by rw [← HM.out]; exact hjM) := ⟨_, rfl⟩
      have HZ := Lib.hid (show (bts F)[j]? = some (B8 z0) by rw [hz0]; exact bts_get F j _)
      clear hz0
      obtain ⟨D, hD⟩ : ∃ D : UInt8, bits .xor .u8 (z0.toNat : Int) (x.toNat : Int) = (D.toNat : Int) := by
        have h1 := z0.toNat_lt
        have h2 := x.toNat_lt
        refine ⟨UInt8.ofNat (z0.toNat ^^^ x.toNat), ?_⟩
        rw [u8_xor_nat _ _ (by omega) (by omega), UInt8.toNat_ofNat']
        have h3 : z0.toNat ^^^ x.toNat < 256 := Nat.xor_lt_two_pow (n := 8) (by omega) (by omega)
        omega
      have HD := Lib.hid hD
      clear hD
      go_wp2_with (at_builtin
                   refine wpList_append_src rfl (.tmp 19) (.tmp 20) 23 rfl w1.heap.size 5 i0 _ 1 Try.underlying23 hi hz hs1 hb cells_u8 (.slice (some ⟨w1.heap.size, 0, none⟩) 0 0) 0 [] rfl ho0 A1 M c1 (bts F) rfl hlF.out (hB1.src.keep ((Chg.refl _ _).alloc _)) (bts_one F) hx1.out hx3.out (by simp) ?_
                   intro v2 w2 ho2 hg2 _
                   have hc2 : Chg [] w1 w2 := ((Chg.refl [] w1).alloc _).own ho0 (Nat.le_refl _) hg2
                   clear hg2
                   simp only [Nat.zero_add, List.nil_append] at ho2
                   obtain ⟨g, r, rfl, hbg, hW1, hr⟩ := own_whole ho2 hM0
                   have c0 : w2.cell? ⟨g, j, none⟩ = some (B8 z0) := by
                     rw [hW1.cell, List.getElem?_append_left (by rw [hlF.out]; exact hjM)]
                     exact HZ.out
                   have f0 := hW1.frozen j
                   have hW2 := hW1.set_ j (B8 D)
                   rw [List.set_append_left _ _ (by rw [hlF.out]; exact hjM), bts_set] at hW2
                   have hc3 : Chg [] w1 (w2.setCell ⟨g, j, none⟩ (B8 D)) := hc2.setCell (fun hlt => absurd hlt (by simp only; omega)) _
                   unfold B8 at c0 hW2 hc3
                   rw [← HD.out] at hW2 hc3
                   clear ho2 hW1)
      with_reducible refine (within_is i 0 ((M : Int) - 1) (by omega) (by omega) (by omega) hi0 hi1).mono ?_
      rintro e w' ⟨rfl, rfl⟩
      rw [hj]
      go_wp2_with fail
      obtain ⟨w3, hw3⟩ : ∃ w3 : World, w3 = w2.setCell ⟨g, j, none⟩ (.int .u8 (bits .xor .u8 (z0.toNat : Int) (x.toNat : Int))) := ⟨_, rfl⟩
      rw [← hw3] at hW2 hc3 ⊢
      clear hw3 c0 f0 hc2
      have hBX : Bs w3 (some ⟨g, 0, none⟩) M (M + r.length) (F.set j D) := Bs.of_whole hW2 (by rw [List.length_set]; exact HM.out.symm) (by rw [List.take_left' (by rw [bts_len, List.length_set]; exact HM.out.symm)]) (by omega) (by simpa [maxLen] using hr)
      have hcX : Chg [] w w3 := hc1.new hc3
      have hBb := hB1.keep hc3
      have hRw := (hRr.keep hc1).keep hc3
      with_reducible refine (within_is i 0 ((M : Int)) (by omega) (by omega) (by omega) hi0 hi1).mono ?_
      rintro e w' ⟨rfl, rfl⟩
      rw [hk]
      have hkc : ¬ c1 < k := by omega
      have hA1 := add0 A1
      go_wp2_with fail
      refine (fsame_any hBb ep 0 he (by omega) (by omega)).mono ?_
      rintro e wa ⟨rfl, hca⟩
      go_wp2_with fail
      refine (fsame_any (hBX.keep hca) ep 0 he (by omega) (by omega)).mono ?_
      rintro e wb ⟨rfl, hcb⟩
      have hBk := ((hBb.keep hca).keep hcb).take (m := k) (by omega)
      go_wp2_with fail
      with_reducible refine (fsame_any hBk ep q3 he hq3l (by omega)).mono ?_
      rintro e wc ⟨rfl, hcc⟩
      have hBkc := hBk.keep hcc
      have hBkk : Bs wc A1 k k (F.take k) := ⟨hBkc.len, hBkc.src, Nat.le_refl _, by omega, hBkc.spot⟩
      have hRc := ((hRw.keep hca).keep hcb).keep hcc
      have hRn := hRc.len
      have hlc := Lib.hid (show (F.take k ++ RL).length ≤ 1000000 by rw [List.length_append, hBkk.len, hRn]; omega)
      have hln := Lib.hid (show k + (m) ≤ 140737488355328 by omega)
      go_wp2_with (at_builtin
                   refine wpList_append_bs_g rfl (.tmp 66) (.tmp 67) 23 rfl 5 i0 _ Try.underlying23 hi hz hs1 hb cells_u8 A1 k (F.take k) rfl hBkk R (m) d RL rfl hRc hln.out ?_
                   intro A9 c9 wd hBd hcd)
      refine (fsame_any hBd ep 0 he (by omega) (by have := hBd.len; have := hlc.out; omega)).mono ?_
      rintro e we ⟨rfl, hce⟩
      go_wp2_with fail
      with_reducible refine (fsame_any ((hRc.keep hcd).keep hce) ep sq he hs (by omega)).mono ?_
      rintro e wf ⟨rfl, hcf⟩
      go_wp2_with fail
      refine fknown_any.mono ?_
      rintro e wg ⟨rfl, hcg⟩
      go_wp2_with fail
      go_ret
      exact ⟨rfl, (((((((hcX.new hca).new hcb).new hcc).new hcd).new hce).new hcf).new hcg)⟩
end
end Go.Proofs.Ytigbnmckdjlihab
