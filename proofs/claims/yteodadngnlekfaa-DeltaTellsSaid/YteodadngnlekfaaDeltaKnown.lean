/-
  Layer 4: the law's known.
-/
import Derived.Test.YteodadngnlekfaaDeltaPure
namespace Go.Proofs.Yteodadngnlekfaa
open Go.RowKit
/-- The change of chapter 4's runs. -/
def kCh (g : Nat) : ChV := ⟨1, some ⟨g, 0, none⟩, 64, 64, zeros 64⟩
theorem kCh_page (g : Nat) : ∀ a ∈ [kCh g], Page a := by
  intro a ha
  simp only [List.mem_cons, List.not_mem_nil, or_false] at ha
  subst ha
  exact ⟨⟨by show (0 : Int) ≤ 1; omega, by show (1 : Int) < 65536; omega, rfl⟩, zeros_len _⟩
theorem kCh_right (g : Nat) : rightB 4 [kCh g] = true ∧ rightB 2 [kCh g] = true ∧ rightB 1 [kCh g] = false := ⟨rfl, rfl, rfl⟩
theorem need_int (k : Int) (h : 0 ≤ k ∧ k ≤ 64) {w : World} : Calls Try.prog 12 #[.int .i64 k] w fun e w' => e = .returned (.int .i64 (18 + k * 66)) ∧ w = w' := by
  obtain ⟨q, rfl⟩ := Int.eq_ofNat_of_zero_le h.1
  exact need_yes q (by omega)
section
variable {w : World}
set_option maxHeartbeats 4000000 in
set_option maxRecDepth 100000 in
theorem dknown_any : Calls Try.prog 14 #[] w (LawPost w) := by
  have hmk := make_page
  go_enter Try.func14, Try.ntmps14
  go_wp2_with fail
  have hP := (Whole.new w 5 (bts (zeros 64))).keep ((Chg.refl [] (w.alloc (.cells (bts (zeros 64)).toArray 5))).alloc (.cells #[.int .i64 1, .slice (some ⟨w.heap.size, 0, none⟩) 64 64] 25))
  have hL := Whole.new (w.alloc (.cells (bts (zeros 64)).toArray 5)) 25 [.int .i64 1, .slice (some ⟨w.heap.size, 0, none⟩) 64 64]
  have hz : (w.alloc (.cells (bts (zeros 64)).toArray 5)).heap.size = w.heap.size + 1 := by simp
  rw [hz] at hL
  have hc0 : Chg [] w ((w.alloc (.cells (bts (zeros 64)).toArray 5)).alloc (.cells #[.int .i64 1, .slice (some ⟨w.heap.size, 0, none⟩) 64 64] 25)) := ((Chg.refl [] w).alloc _).alloc _
  have hmade : MadeCh ((w.alloc (.cells (bts (zeros 64)).toArray 5)).alloc (.cells #[.int .i64 1, .slice (some ⟨w.heap.size, 0, none⟩) 64 64] 25)) 0 (kCh w.heap.size) :=
    ⟨⟨_, rfl, Nat.zero_le _, hP⟩, zeros_len _, rfl, rfl, by show (0 : Int) ≤ 1 ∧ (1 : Int) < 65536; omega⟩
  obtain ⟨g, hg⟩ : ∃ g, g = w.heap.size := ⟨_, rfl⟩
  rw [← hg] at hL hmade hc0
  rw [← hg]
  have hL' := hL
  generalize (w.alloc (.cells (bts (zeros 64)).toArray 5)).alloc (.cells #[.int .i64 1, .slice (some ⟨g, 0, none⟩) 64 64] 25) = w0 at hL hmade hc0 hL' ⊢
  have hch : Chs w0 (some ⟨g + 1, 0, none⟩) [kCh g] := by
    refine ⟨fun _ => ⟨g + 1, 0, rfl, hL.lt, fun k a ha => ?_⟩, fun a ha => ?_⟩
    · have hk : k = 0 := by have := (List.getElem?_eq_some_iff.1 ha).1; simp at this; omega
      subst hk
      simp at ha
      subst ha
      exact ⟨hL.cell 0, hL.cell 1⟩
    · simp only [List.mem_cons, List.not_mem_nil, or_false] at ha
      subst ha
      exact hmade.ok
  have HCH := Lib.hid hch
  have HC0 := Lib.hid hc0
  clear hP hL hL' hmade hch hc0 hg hz
  go_wp2_with fail
  refine (dread_any (Bs.nil w0) 4).mono ?_
  intro e w1 hp
  obtain ⟨he, hc1⟩ : e = .returned (.tuple #[.slice none 0 0, .bool false]) ∧ Chg [] w0 w1 := by
    rcases hp with ⟨h1, _⟩ | ⟨_, h2, h3⟩
    · simp at h1
    · exact ⟨h2, h3⟩
  subst he
  have HCH1 := Lib.hid (HCH.out.keep hc1)
  have HC1 := Lib.hid (HC0.out.new hc1)
  clear hp hc1
  go_wp2_with fail
  refine (dbytes_any (n := 1) HCH1.out (fun a ha => (kCh_page g a ha).1) rfl (by omega)).mono ?_
  rintro e w2 ⟨v2, rfl, ho2, hc2⟩
  obtain ⟨A2, c2, rfl, hB2, _⟩ := Bs.of_own ho2
  have HB2 := Lib.hid hB2
  have HCH2 := Lib.hid (HCH1.out.keep hc2)
  have HC2 := Lib.hid (HC1.out.new hc2)
  clear ho2 hB2 hc2
  go_wp2_with fail
  refine (dread_any HB2.out 4).mono ?_
  intro e w3 hp
  obtain ⟨A3, c3, ls, rfl, hch3, hl3, has3, hc3⟩ := read_back (kCh_page g) (by simp) (kCh_right g).1 hp
  have HCH3 := Lib.hid (HCH2.out.keep hc3)
  have HLS3 := Lib.hid hch3
  have HL3 := Lib.hid hl3
  have HS3 := Lib.hid (asC_same has3)
  have HSS := Lib.hid (show sameC [kCh g] ls = true by unfold sameC; rw [decide_eq_true_iff]; exact has3.1.symm)
  have HC3 := Lib.hid (HC2.out.new hc3)
  clear hp hch3 hl3 has3 hc3
  go_wp2_with fail
  refine (dbytes_any (n := 0) (Chs.nil w3 none) (fun a ha => by simp at ha) rfl (by omega)).mono ?_
  rintro e w4 ⟨v4, rfl, ho4, hc4⟩
  obtain ⟨A4, c4, rfl, hB4, _⟩ := Bs.of_own ho4
  have hs4 := hB4.str (P := Try.prog) 22 5 9 Try.underlying22 Try.underlying5 Try.underlying9
  rw [show strOf (bytesD []) = ⟨#[0, 0]⟩ from rfl] at hs4
  have HCH4 := Lib.hid (HCH3.out.keep hc4)
  have HLS4 := Lib.hid (HLS3.out.keep hc4)
  have HC4 := Lib.hid (HC3.out.new hc4)
  clear ho4 hB4 hc4
  go_wp2_with fail
  refine (dsame_any (n := 1) HCH4.out rfl HLS4.out HL3.out (by omega) (by simp)).mono ?_
  rintro e w5 ⟨rfl, hc5⟩
  rw [HSS.out]
  have HCH5 := Lib.hid (HCH4.out.keep hc5)
  have HC5 := Lib.hid (HC4.out.new hc5)
  clear hs4 hc5
  go_wp2_with fail
  refine (right_any (n := 1) HCH5.out rfl (by omega) 2).mono ?_
  rintro e w6 ⟨rfl, hc6⟩
  rw [(kCh_right g).2.1]
  have HCH6 := Lib.hid (HCH5.out.keep hc6)
  have HC6 := Lib.hid (HC5.out.new hc6)
  clear hc6
  go_wp2_with fail
  refine (right_any (n := 1) HCH6.out rfl (by omega) 1).mono ?_
  rintro e w7 ⟨rfl, hc7⟩
  rw [(kCh_right g).2.2]
  have HC7 := Lib.hid (HC6.out.new hc7)
  clear hc7
  go_wp2_with fail
  refine (need_int 0 (by omega)).mono ?_
  rintro e w' ⟨rfl, rfl⟩
  go_wp2_with fail
  refine (need_int 1 (by omega)).mono ?_
  rintro e w' ⟨rfl, rfl⟩
  go_wp2_with fail
  refine (need_no (-1) (by omega)).mono ?_
  rintro e w' ⟨rfl, rfl⟩
  go_wp2_with fail
  go_ret
  exact ⟨rfl, HC7.out⟩
end
end Go.Proofs.Yteodadngnlekfaa
