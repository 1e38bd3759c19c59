/-
  The walk of DeltaTells.
-/
import Derived.Test.YteodadngnlekfaaDeltaLaw
import Derived.Laws.BitsAllLaws
namespace Go.Proofs.Yteodadngnlekfaa
open Go.RowKit
theorem MadeCh.page {w : World} {B0 : Nat} {a : ChV} (h : MadeCh w B0 a) : Page a := ⟨h.small, h.bl⟩
section
variable {w : World} {A R Ab : Option Addr} {n c rn rc nb cb : Nat}
set_option maxHeartbeats 16000000 in
set_option maxRecDepth 100000 in
theorem deltaTells_any {l : List Int} (hl : l.length = n) (hs : Src w A (nms l)) (hsp : 0 < n → ∀ ad, A = some ad → ad.spot = none ∧ ad.block < w.heap.size) (hr : ∀ x ∈ l, -9223372036854775808 ≤ x ∧ x ≤ 9223372036854775807) (hn : n ≤ 9223372036854775807)
    {raw : List ChV} (hraw : Chs w R raw) (hrl : raw.length = rn) (hrn : rn ≤ 9223372036854775807) (q : Int) (hq0 : -9223372036854775808 ≤ q) (hq1 : q ≤ 9223372036854775807) {b : List UInt8} (hB : Bs w Ab nb cb b) (i : Int) (hi0 : -9223372036854775808 ≤ i) (hi1 : i ≤ 9223372036854775807) (x : UInt8) :
    Calls Try.prog 4 #[.slice A n c, .slice R rn rc, .int .i64 q, .slice Ab nb cb, .int .i64 i, .int .u8 (x.toNat : Int)] w (LawPost w) := by
  obtain ⟨P, hP, hP1, hP20⟩ : ∃ P : Nat, withinI q 1 12 = (P : Int) ∧ 1 ≤ P ∧ P ≤ 12 := by
    have hin := into_within q 1 12 (by omega)
    exact ⟨(withinI q 1 12).toNat, by have := hin.1; omega, by have := hin.1; omega, by have := hin.1; have := hin.2.1; omega⟩
  obtain ⟨i0, hi, hz, hs1, hb⟩ := info_parts info_byte
  have HP := Lib.hid hP
  have HS := Lib.hid hs
  have HL := Lib.hid hl
  have HSP := Lib.hid hsp
  have HR := Lib.hid hr
  have HRAW := Lib.hid hraw
  have HRL := Lib.hid hrl
  have HB := Lib.hid hB
  have hcbn := hB.cap
  clear hP hs hl hsp hr hraw hrl hB
  go_enter Try.func4, Try.ntmps4
  go_wp2_with fail
  with_reducible refine (within_is q 1 12 (by omega) (by omega) (by omega) hq0 hq1).mono ?_
  rintro e w' ⟨rfl, rfl⟩
  rw [HP.out]
  go_wp2_with fail
  have hT0 : Tp (w.alloc (.cells #[.slice A n c, .int .i64 0] 34)) w.heap.size A n c l 0 :=
    ⟨Whole.new w 34 [.slice A n c, .int .i64 0], HL.out, HS.out.keep ((Chg.refl _ _).alloc _), HSP.out, HR.out, Nat.zero_le _, hn⟩
  refine (changes_any hT0 P (by omega)).mono ?_
  rintro e w1 ⟨v1, rfl, ls, a', hown, hmade, _, hlen, hrise, _, hc1⟩
  obtain ⟨A1, c1, rfl, _, hch, _, _, _⟩ := chs_own hown hmade
  have hcw : Chg [] w w1 := ((Chg.refl [] w).alloc _).then_ hc1 (fun i hi hlt => by simp only [List.mem_cons, List.not_mem_nil, or_false] at hi; omega)
  have HPG := Lib.hid (show ∀ a ∈ ls, Page a from fun a ha => (hmade a ha).page)
  have HCH := Lib.hid hch
  have HC1 := Lib.hid hcw
  obtain ⟨N, hN⟩ : ∃ N, N = ls.length := ⟨_, rfl⟩
  have HN := Lib.hid hN.symm
  rw [← hN] at hlen ⊢
  clear hT0 hown hmade hrise hc1 hch hcw hN
  go_wp2_with fail
  refine (rdelta_any HCH.out (fun a ha => (HPG.out a ha).1) HN.out (by omega)).mono ?_
  rintro e w2 ⟨v2, rfl, ho2, hc2⟩
  obtain ⟨F, hF⟩ : ∃ F, F = bytesD ls := ⟨_, rfl⟩
  have hFl : F.length = 2 + N * 66 := by rw [hF, back_len HPG.out, HN.out]
  rw [← hF] at ho2
  obtain ⟨M, hM⟩ : ∃ M, M = F.length := ⟨_, rfl⟩
  rw [← hM] at ho2
  have hM2 : 2 ≤ M := by omega
  have hM9 : M ≤ 100000 := by omega
  obtain ⟨A2, c2, rfl, hB2, _⟩ := Bs.of_own ho2
  have hlF := Lib.hid (show (bts F).length = M by rw [bts_len, hM])
  have HM := Lib.hid hM
  have HX2 := Lib.hid hB2
  have HCH2 := Lib.hid (HCH.out.keep hc2)
  have HC2 := Lib.hid (HC1.out.new hc2)
  clear ho2 hB2 hc2 hF hFl hM
  have hx1 := Lib.hid (show 0 + M ≤ maxLen by unfold maxLen; omega)
  have hx3 := Lib.hid (show (0 + M) * 1 ≤ 140737488355328 by omega)
  have ho0 : (w2.alloc (.cells #[] 5)).ownsRow w2.heap.size 5 1 (.slice (some ⟨w2.heap.size, 0, none⟩) 0 0) 0 [] :=
    own_of_whole (B := w2.heap.size) (n := 0) (c := 0) (Whole.new w2 5 []) (Nat.le_refl _) rfl (by omega) (by unfold maxLen; omega)
  obtain ⟨j, hj, hjM⟩ : ∃ q : Nat, withinI i 0 ((M : Int) - 1) = (q : Int) ∧ q < M := by
    have hin := into_within i 0 ((M : Int) - 1) (by omega)
    exact ⟨(withinI i 0 ((M : Int) - 1)).toNat, by have := hin.1; omega, by have h1 := hin.1; have h2 := hin.2.1; omega⟩
  have HJ := Lib.hid hj
  clear hj
  have hjI : (j : Int) < (M : Int) := by omega
  have hjJ : (0 : Int) ≤ (j : Int) := by omega
  obtain ⟨z0, hz0⟩ : ∃ z0, z0 = F[j]'(by rw [← HM.out]; exact hjM) := ⟨_, rfl⟩
  have HZ := Lib.hid (show (bts F)[j]? = some (B8 z0) by rw [hz0]; exact bts_get F j _)
  clear hz0
  obtain ⟨D, hD⟩ : ∃ D : UInt8, bits .xor .u8 (z0.toNat : Int) (x.toNat : Int) = (D.toNat : Int) := by
    have h1 := z0.toNat_lt
    have h2 := x.toNat_lt
    refine ⟨UInt8.ofNat (z0.toNat ^^^ x.toNat), ?_⟩
    rw [u8_xor_nat _ _ (by omega) (by omega), UInt8.toNat_ofNat']
    have h3 : z0.toNat ^^^ x.toNat < 256 := Nat.xor_lt_two_pow (n := 8) (by omega) (by omega)
    omega
  have HD := Lib.hid hD
  clear hD
  go_wp2_with (at_builtin
               refine wpList_append_src rfl (.tmp 28) (.tmp 29) 22 rfl w2.heap.size 5 i0 _ 1 Try.underlying22 hi hz hs1 hb cells_u8 (.slice (some ⟨w2.heap.size, 0, none⟩) 0 0) 0 [] rfl ho0 A2 M c2 (bts F) rfl hlF.out (HX2.out.src.keep ((Chg.refl _ _).alloc _)) (bts_one F) hx1.out hx3.out (by simp) ?_
               intro v3 w3 ho3 hg3 _
               have hc3 : Chg [] w2 w3 := ((Chg.refl [] w2).alloc _).own ho0 (Nat.le_refl _) hg3
               clear hg3
               simp only [Nat.zero_add, List.nil_append] at ho3
               obtain ⟨g, r, rfl, hbg, hW3, hr3⟩ := own_whole ho3 (by omega)
               have c0 : w3.cell? ⟨g, j, none⟩ = some (B8 z0) := by
                 rw [hW3.cell, List.getElem?_append_left (by rw [hlF.out]; exact hjM)]
                 exact HZ.out
               have f0 := hW3.frozen j
               have hW4 := hW3.set_ j (B8 D)
               rw [List.set_append_left _ _ (by rw [hlF.out]; exact hjM), bts_set] at hW4
               have hc4 : Chg [] w2 (w3.setCell ⟨g, j, none⟩ (B8 D)) := hc3.setCell (fun hlt => absurd hlt (by simp only; omega)) _
               unfold B8 at c0 hW4 hc4
               rw [← HD.out] at hW4 hc4
               clear ho3 hW3 hc3)
  with_reducible refine (within_is i 0 ((M : Int) - 1) (by omega) (by omega) (by omega) hi0 hi1).mono ?_
  rintro e w' ⟨rfl, rfl⟩
  rw [HJ.out]
  have HW4 := Lib.hid hW4
  have HC4 := Lib.hid hc4
  clear hW4 hc4
  by_cases h300 : 300 < nb
  · have hb1 : (300 : Int) < (nb : Int) := by omega
    have hcc : ¬ cb < 300 := by omega
    have hccI : (300 : Int) ≤ (cb : Int) := by omega
    have hA0 := add0 Ab
    go_wp2_with fail
    have hY4 : Bs (w3.setCell ⟨g, j, none⟩ (.int .u8 (bits .xor .u8 (z0.toNat : Int) (x.toNat : Int)))) (some ⟨g, 0, none⟩) M (M + r.length) (F.set j D) := Bs.of_whole HW4.out (by rw [List.length_set]; exact HM.out.symm) (by rw [List.take_left' (by rw [bts_len, List.length_set]; exact HM.out.symm)]) (by omega) (by simpa [maxLen] using hr3)
    have hC4 := HC4.out
    generalize w3.setCell ⟨g, j, none⟩ (.int .u8 (bits .xor .u8 (z0.toNat : Int) (x.toNat : Int))) = w5 at hY4 hC4 ⊢
    have HC5 := Lib.hid (HC2.out.new hC4)
    have hcl5 := Lib.hid (HCH2.out.keep hC4)
    have hraw5 := Lib.hid (HRAW.out.keep HC5.out)
    have hX5 := Lib.hid (HX2.out.keep hC4)
    have hY5 := Lib.hid hY4
    have hB5 := Lib.hid ((HB.out.keep HC5.out).take (m := 300) (by omega))
    clear hY4 hC4 c0 f0 HW4 HC4 ho0
    go_wp2_with fail
    refine (lsame_any (hcl5.out) HN.out (by omega) P).mono ?_
    rintro e w6 ⟨rfl, hc6⟩
    go_wp2_with fail
    refine (lsame_any ((hcl5.out).keep hc6) HN.out (by omega) ((P : Int) - 1)).mono ?_
    rintro e w7 ⟨rfl, hc7⟩
    go_wp2_with fail
    refine (lsame_any (((hraw5.out).keep hc6).keep hc7) HRL.out hrn q).mono ?_
    rintro e w8 ⟨rfl, hc8⟩
    go_wp2_with fail
    refine (lreads_any ((((hX5.out).keep hc6).keep hc7).keep hc8) P).mono ?_
    rintro e w9 ⟨rfl, hc9⟩
    go_wp2_with fail
    refine (lreads_any (((((hX5.out).keep hc6).keep hc7).keep hc8).keep hc9) ((P : Int) - 1)).mono ?_
    rintro e w10 ⟨rfl, hc10⟩
    go_wp2_with fail
    refine (lreads_any ((((((hY5.out).keep hc6).keep hc7).keep hc8).keep hc9).keep hc10) P).mono ?_
    rintro e w11 ⟨rfl, hc11⟩
    go_wp2_with fail
    refine (lreads_any (((((((hB5.out).keep hc6).keep hc7).keep hc8).keep hc9).keep hc10).keep hc11) P).mono ?_
    rintro e w12 ⟨rfl, hc12⟩
    go_wp2_with fail
    refine (lreads_any ((((((((hB5.out).keep hc6).keep hc7).keep hc8).keep hc9).keep hc10).keep hc11).keep hc12) q).mono ?_
    rintro e w13 ⟨rfl, hc13⟩
    have hcl := ((((((((hcl5.out).keep hc6).keep hc7).keep hc8).keep hc9).keep hc10).keep hc11).keep hc12).keep hc13
    have hrw := ((((((((hraw5.out).keep hc6).keep hc7).keep hc8).keep hc9).keep hc10).keep hc11).keep hc12).keep hc13
    go_wp2_with fail
    refine (need_any q).mono ?_
    rintro e w' ⟨rfl, rfl⟩
    go_wp2_with fail
    refine (rneed_any q).mono ?_
    rintro e w' ⟨rfl, rfl⟩
    go_wp2_with fail
    refine (dsame_any hcl HN.out hrw HRL.out (by omega) hrn).mono ?_
    rintro e w14 ⟨rfl, hc14⟩
    go_wp2_with fail
    refine (rsame_any (hcl.keep hc14) HN.out (hrw.keep hc14) HRL.out (by omega) hrn).mono ?_
    rintro e w15 ⟨rfl, hc15⟩
    go_wp2_with fail
    refine dknown_any.mono ?_
    rintro e w16 ⟨rfl, hc16⟩
    go_wp2_with fail
    go_ret
    exact ⟨rfl, (((((((((((HC5.out).new hc6).new hc7).new hc8).new hc9).new hc10).new hc11).new hc12).new hc13).new hc14).new hc15).new hc16⟩
  · have hb1 : ¬ (300 : Int) < (nb : Int) := by omega
    go_wp2_with fail
    have hY4 : Bs (w3.setCell ⟨g, j, none⟩ (.int .u8 (bits .xor .u8 (z0.toNat : Int) (x.toNat : Int)))) (some ⟨g, 0, none⟩) M (M + r.length) (F.set j D) := Bs.of_whole HW4.out (by rw [List.length_set]; exact HM.out.symm) (by rw [List.take_left' (by rw [bts_len, List.length_set]; exact HM.out.symm)]) (by omega) (by simpa [maxLen] using hr3)
    have hC4 := HC4.out
    generalize w3.setCell ⟨g, j, none⟩ (.int .u8 (bits .xor .u8 (z0.toNat : Int) (x.toNat : Int))) = w5 at hY4 hC4 ⊢
    have HC5 := Lib.hid (HC2.out.new hC4)
    have hcl5 := Lib.hid (HCH2.out.keep hC4)
    have hraw5 := Lib.hid (HRAW.out.keep HC5.out)
    have hX5 := Lib.hid (HX2.out.keep hC4)
    have hY5 := Lib.hid hY4
    have hB5 := Lib.hid (HB.out.keep HC5.out)
    clear hY4 hC4 c0 f0 HW4 HC4 ho0
    go_wp2_with fail
    refine (lsame_any (hcl5.out) HN.out (by omega) P).mono ?_
    rintro e w6 ⟨rfl, hc6⟩
    go_wp2_with fail
    refine (lsame_any ((hcl5.out).keep hc6) HN.out (by omega) ((P : Int) - 1)).mono ?_
    rintro e w7 ⟨rfl, hc7⟩
    go_wp2_with fail
    refine (lsame_any (((hraw5.out).keep hc6).keep hc7) HRL.out hrn q).mono ?_
    rintro e w8 ⟨rfl, hc8⟩
    go_wp2_with fail
    refine (lreads_any ((((hX5.out).keep hc6).keep hc7).keep hc8) P).mono ?_
    rintro e w9 ⟨rfl, hc9⟩
    go_wp2_with fail
    refine (lreads_any (((((hX5.out).keep hc6).keep hc7).keep hc8).keep hc9) ((P : Int) - 1)).mono ?_
    rintro e w10 ⟨rfl, hc10⟩
    go_wp2_with fail
    refine (lreads_any ((((((hY5.out).keep hc6).keep hc7).keep hc8).keep hc9).keep hc10) P).mono ?_
    rintro e w11 ⟨rfl, hc11⟩
    go_wp2_with fail
    refine (lreads_any (((((((hB5.out).keep hc6).keep hc7).keep hc8).keep hc9).keep hc10).keep hc11) P).mono ?_
    rintro e w12 ⟨rfl, hc12⟩
    go_wp2_with fail
    refine (lreads_any ((((((((hB5.out).keep hc6).keep hc7).keep hc8).keep hc9).keep hc10).keep hc11).keep hc12) q).mono ?_
    rintro e w13 ⟨rfl, hc13⟩
    have hcl := ((((((((hcl5.out).keep hc6).keep hc7).keep hc8).keep hc9).keep hc10).keep hc11).keep hc12).keep hc13
    have hrw := ((((((((hraw5.out).keep hc6).keep hc7).keep hc8).keep hc9).keep hc10).keep hc11).keep hc12).keep hc13
    go_wp2_with fail
    refine (need_any q).mono ?_
    rintro e w' ⟨rfl, rfl⟩
    go_wp2_with fail
    refine (rneed_any q).mono ?_
    rintro e w' ⟨rfl, rfl⟩
    go_wp2_with fail
    refine (dsame_any hcl HN.out hrw HRL.out (by omega) hrn).mono ?_
    rintro e w14 ⟨rfl, hc14⟩
    go_wp2_with fail
    refine (rsame_any (hcl.keep hc14) HN.out (hrw.keep hc14) HRL.out (by omega) hrn).mono ?_
    rintro e w15 ⟨rfl, hc15⟩
    go_wp2_with fail
    refine dknown_any.mono ?_
    rintro e w16 ⟨rfl, hc16⟩
    go_wp2_with fail
    go_ret
    exact ⟨rfl, (((((((((((HC5.out).new hc6).new hc7).new hc8).new hc9).new hc10).new hc11).new hc12).new hc13).new hc14).new hc15).new hc16⟩
end
end Go.Proofs.Yteodadngnlekfaa
