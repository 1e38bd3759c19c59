/-
  The walk of DeltaBack.
-/
import Derived.Test.YtigbnmckdjlihabDeltaKnown
namespace Go.Proofs.Ytigbnmckdjlihab
open Go.RowKit
theorem MadeCh.page {w : World} {B0 : Nat} {a : ChV} (h : MadeCh w B0 a) : Page a := ⟨h.small, h.bl⟩
theorem MadeCh.new {w w' : World} {B0 : Nat} {a : ChV} (h : MadeCh w B0 a) (hc : Chg [] w w') : MadeCh w' B0 a := h.chg hc (by simp)
section
variable {w : World} {A : Option Addr} {n c : Nat}
set_option maxHeartbeats 8000000 in
set_option maxRecDepth 100000 in
theorem deltaBack_any {l : List Int} (hl : l.length = n) (hs : Src w A (nms l)) (hsp : 0 < n → ∀ ad, A = some ad → ad.spot = none ∧ ad.block < w.heap.size) (hr : ∀ x ∈ l, -9223372036854775808 ≤ x ∧ x ≤ 9223372036854775807) (hn : n ≤ 9223372036854775807) (q : Int) (hq0 : -9223372036854775808 ≤ q) (hq1 : q ≤ 9223372036854775807) :
    Calls Try.prog 6 #[.slice A n c, .int .i64 q] w (LawPost w) := by
  obtain ⟨P, hP, hP1, hP20⟩ : ∃ P : Nat, withinI q 1 20 = (P : Int) ∧ 1 ≤ P ∧ P ≤ 20 := by
    have hin := into_within q 1 20 (by omega)
    exact ⟨(withinI q 1 20).toNat, by have := hin.1; omega, by have := hin.1; omega, by have := hin.1; have := hin.2.1; omega⟩
  have HP := Lib.hid hP
  have HS := Lib.hid hs
  have HL := Lib.hid hl
  have HSP := Lib.hid hsp
  have HR := Lib.hid hr
  clear hP hs hl hsp hr
  go_enter Try.func6, Try.ntmps6
  go_wp2_with fail
  with_reducible refine (within_is q 1 20 (by omega) (by omega) (by omega) hq0 hq1).mono ?_
  rintro e w' ⟨rfl, rfl⟩
  rw [HP.out]
  go_wp2_with fail
  have hT0 : Tp (w.alloc (.cells #[.slice A n c, .int .i64 0] 40)) w.heap.size A n c l 0 :=
    ⟨Whole.new w 40 [.slice A n c, .int .i64 0], HL.out, HS.out.keep ((Chg.refl _ _).alloc _), HSP.out, HR.out, Nat.zero_le _, hn⟩
  refine (changes_any hT0 P (by omega)).mono ?_
  rintro e w1 ⟨v1, rfl, ls, a', hown, hmade, _, hlen, hrise, _, hc1⟩
  obtain ⟨A1, c1, rfl, _, hch, _, _, _⟩ := chs_own hown hmade
  have hcw : Chg [] w w1 := ((Chg.refl [] w).alloc _).then_ hc1 (fun i hi hlt => by simp only [List.mem_cons, List.not_mem_nil, or_false] at hi; omega)
  have hRB : rightB P ls = true := by unfold rightB; rw [decide_eq_true (by omega), hrise P (by omega)]; rfl
  have HPG := Lib.hid (show ∀ a ∈ ls, Page a from fun a ha => (hmade a ha).page)
  have HCH := Lib.hid hch
  have HC1 := Lib.hid hcw
  have HRB := Lib.hid hRB
  obtain ⟨N, hN⟩ : ∃ N, N = ls.length := ⟨_, rfl⟩
  have HN := Lib.hid hN.symm
  rw [← hN] at hlen ⊢
  clear hT0 hown hmade hrise hc1 hch hcw hRB hN
  go_wp2_with fail
  refine (dbytes_any HCH.out (fun a ha => (HPG.out a ha).1) HN.out (by omega)).mono ?_
  rintro e w2 ⟨v2, rfl, ho2, hc2⟩
  obtain ⟨A2, c2, rfl, hB2, _⟩ := Bs.of_own ho2
  have HB2 := Lib.hid hB2
  have HBL := Lib.hid (show (bytesD ls).length = 2 + N * 66 by rw [back_len HPG.out, HN.out])
  have HCH2 := Lib.hid (HCH.out.keep hc2)
  have HC2 := Lib.hid (HC1.out.new hc2)
  clear ho2 hB2 hc2
  go_wp2_with fail
  refine (dread_any HB2.out P).mono ?_
  intro e w3 hp
  obtain ⟨A3, c3, ms, rfl, hch3, hl3, has3, hc3⟩ := read_back HPG.out (by rw [HN.out]; omega) HRB.out hp
  rw [HN.out] at hl3 ⊢
  rw [HBL.out]
  have HCH3 := Lib.hid (HCH2.out.keep hc3)
  have HLS3 := Lib.hid hch3
  have HL3 := Lib.hid hl3
  have HSS := Lib.hid (asC_same has3)
  have HC3 := Lib.hid (HC2.out.new hc3)
  clear hp hch3 hl3 has3 hc3
  go_wp2_with fail
  refine (rsame_any HLS3.out HL3.out HCH3.out HN.out (by omega) (by omega)).mono ?_
  rintro e w4 ⟨rfl, hc4⟩
  rw [HSS.out]
  have HCH4 := Lib.hid (HCH3.out.keep hc4)
  have HLS4 := Lib.hid (HLS3.out.keep hc4)
  have HC4 := Lib.hid (HC3.out.new hc4)
  clear hc4
  have hn0 : 0 ≤ (N : Int) ∧ (N : Int) ≤ 64 := by omega
  go_wp2_with fail
  refine (need_yes N (by omega)).mono ?_
  rintro e w' ⟨rfl, rfl⟩
  have hb1 : (2 + (N : Int) * 66 == 18 + (N : Int) * 66 - 16) = true := by simp; omega
  have hb2 : (2 + (N : Int) * 66 == IntKind.i64.wrap (18 + (N : Int) * 66 - 16)) = true := by rw [IntWalk.i64_in _ (by omega)]; exact hb1
  go_wp2_with fail
  refine (dsame_any HLS4.out HL3.out HCH4.out HN.out (by omega) (by omega)).mono ?_
  rintro e w5 ⟨rfl, hc5⟩
  rw [HSS.out]
  have HC5 := Lib.hid (HC4.out.new hc5)
  clear hc5
  go_wp2_with fail
  refine dknown_any.mono ?_
  rintro e w6 ⟨rfl, hc6⟩
  go_wp2_with fail
  go_ret
  exact ⟨rfl, HC5.out.new hc6⟩
end
end Go.Proofs.Ytigbnmckdjlihab
