/-
  PB: UParse.
-/
import Derived.Test.YtbkfhndmeljlcaaGreatDoorZPB34
import Derived.Test.YtbkfhndmeljlcaaGreatDoorZPB40
namespace Go.Proofs.YtbkfhndmeljlcaaGreatDoor
open Go.RowKit
def okF (f : FnV) : Prop := 0 ≤ f.args ∧ f.args ≤ 9 ∧ f.code.size ≤ 2048
/-- A program, its code and what stays. -/
def PsPost (x : Int × Int × Int × List FnV) (w : World) (e : Ending) (w' : World) : Prop :=
  ∃ v, e = .returned (.tuple #[.agg #[.int .i64 x.2.1, .int .i64 x.2.2.1, v], .int .i64 x.1]) ∧ w'.ownsRow w.heap.size 58 3 v x.2.2.2.length (fnCs x.2.2.2) ∧ x.2.2.2.length ≤ 1000 ∧ (∀ f ∈ x.2.2.2, okF f) ∧ Chg [] w w'
theorem txt_ne {a b : List UInt8} (h : a ≠ b) : ((strOf a).toList == (strOf b).toList) = false := by
  rw [ByteArray.toList_eq, ByteArray.toList_eq, strOf_toList, strOf_toList, beq_eq_false_iff_ne]
  exact h
section
variable {w : World}
set_option maxHeartbeats 8000000 in
set_option maxRecDepth 100000 in
theorem uparse_any (l : List UInt8) (hl : l.length ≤ 1000000) (hP : PowB w.heap.size w) : Calls Tryz.prog 32 #[.string (strOf l)] w (PsPost (rParse l) w) := by
  have hsz := strOf_len l
  by_cases h2 : 2048 < l.length
  · have HPO := Lib.hid (show ∀ wr, Chg [] w wr → PsPost (rParse l) w (.returned (.tuple #[.agg #[.int .i64 0, .int .i64 0, .slice none 0 0], .int .i64 3])) wr from fun wr hc => by
      unfold rParse
      rw [if_pos h2]
      exact ⟨_, rfl, World.ownsRow_nil _ _ _ _, by simp, by simp, hc⟩)
    generalize PsPost (rParse l) w = PO at HPO ⊢
    have h2I : (2048 : Int) < ((strOf l).size : Int) := by omega
    generalize strOf l = S at *
    clear hl h2 hsz
    go_enter Tryz.func32, Tryz.ntmps32
    go_upto_region 1 with fail
    have hN := Whole.new w 24 [.int .i64 0, .int .i64 0, .slice none 0 0]
    have hal := (Chg.refl [] w).alloc (.cells #[.int .i64 0, .int .i64 0, .slice none 0 0] 24)
    obtain ⟨g, hg⟩ : ∃ g, g = w.heap.size := ⟨_, rfl⟩
    have hw1s : (w.alloc (.cells #[.int .i64 0, .int .i64 0, .slice none 0 0] 24)).heap.size = g + 1 := by rw [hg]; simp
    rw [← hg] at hN ⊢
    have HG := Lib.hid hN
    have HW1 := Lib.hid hal
    have HGS := Lib.hid hg
    have HGZ := Lib.hid hw1s
    have hnl : ¬ g < w.heap.size := by omega
    generalize w.alloc (.cells #[.int .i64 0, .int .i64 0, .slice none 0 0] 24) = w1 at HG HW1 HGZ ⊢
    clear hN hal hg hw1s
    have z0 := HG.out.cell 0
    have z1 := HG.out.cell 1
    have z2 := HG.out.cell 2
    have f0 := HG.out.frozen 0
    have f1 := HG.out.frozen 1
    have f2 := HG.out.frozen 2
    go_wp2_with fail
    have HCF := ((HW1.out.setCell (p := ⟨g, 0, none⟩) (fun h => absurd h hnl) (.int .i64 0)).setCell (p := ⟨g, 1, none⟩) (fun h => absurd h hnl) (.int .i64 0)).setCell (p := ⟨g, 2, none⟩) (fun h => absurd h hnl) (.slice none 0 0)
    have HSS := ((HG.out.set_ 0 (.int .i64 0)).set_ 1 (.int .i64 0)).set_ 2 (.slice none 0 0)
    exact bodyPost_ret_by (results_row_tmp (p := 2) (u := 3) (ty := 24) rfl _ _ g 24 [.int .i64 0, .int .i64 0, .slice none 0 0] _ rfl HSS Tryz.underlying24 (by kernel_rfl)) rfl (HPO.out _ HCF)
  · have h2I : ¬ (2048 : Int) < ((strOf l).size : Int) := by omega
    have HRD := Lib.hid (fun (W : World) => uread_any (w := W) l (by omega))
    cases hp : parseP l with
    | none =>
      have HPO := Lib.hid (show ∀ wr, Chg [] w wr → PsPost (rParse l) w (.returned (.tuple #[.agg #[.int .i64 0, .int .i64 0, .slice none 0 0], .int .i64 12])) wr from fun wr hc => by
        unfold rParse
        rw [if_neg h2, hp]
        exact ⟨_, rfl, World.ownsRow_nil _ _ _ _, by simp, by simp, hc⟩)
      generalize PsPost (rParse l) w = PO at HPO ⊢
      have HR2 := Lib.hid (fun (W : World) => (HRD.out W).mono (R' := fun e w' => e = .returned (.tuple #[.agg #[.int .i64 0, .int .i64 0, .slice none 0 0], .bool false]) ∧ Chg [] W w') (by
        rintro e w' (⟨p, m, fs, v, h, _⟩ | ⟨_, h1, h2⟩)
        · rw [hp] at h; cases h
        · exact ⟨h1, h2⟩))
      generalize strOf l = S at *
      clear hl h2 hsz HRD hp
      go_enter Tryz.func32, Tryz.ntmps32
      go_upto_region 1 with fail
      have hN := Whole.new w 24 [.int .i64 0, .int .i64 0, .slice none 0 0]
      have hal := (Chg.refl [] w).alloc (.cells #[.int .i64 0, .int .i64 0, .slice none 0 0] 24)
      obtain ⟨g, hg⟩ : ∃ g, g = w.heap.size := ⟨_, rfl⟩
      have hw1s : (w.alloc (.cells #[.int .i64 0, .int .i64 0, .slice none 0 0] 24)).heap.size = g + 1 := by rw [hg]; simp
      rw [← hg] at hN ⊢
      have HG := Lib.hid hN
      have HW1 := Lib.hid hal
      have HGS := Lib.hid hg
      have HGZ := Lib.hid hw1s
      have hnl : ¬ g < w.heap.size := by omega
      generalize w.alloc (.cells #[.int .i64 0, .int .i64 0, .slice none 0 0] 24) = w1 at HG HW1 HGZ ⊢
      clear hN hal hg hw1s
      go_upto_region 4 with (go_at_call 61
                             refine (HR2.out _).mono ?_
                             rintro e w2 ⟨rfl, hc2⟩
                             have HG2 := Lib.hid (HG.out.keep hc2)
                             have HW2 := Lib.hid (HW1.out.trans hc2)
                             clear hc2)
      have HG4 := Lib.hid (HG2.out.keep ((Chg.refl [] w2).alloc (.cells #[.int .i64 0, .int .i64 0, .slice none 0 0] 24)))
      have HW4 := Lib.hid (HW2.out.alloc (.cells #[.int .i64 0, .int .i64 0, .slice none 0 0] 24))
      generalize w2.heap.size = gu
      generalize w2.alloc (.cells #[.int .i64 0, .int .i64 0, .slice none 0 0] 24) = w4 at HG4 HW4 ⊢
      have z0 := HG4.out.cell 0
      have z1 := HG4.out.cell 1
      have z2 := HG4.out.cell 2
      have f0 := HG4.out.frozen 0
      have f1 := HG4.out.frozen 1
      have f2 := HG4.out.frozen 2
      go_wp2_with fail
      have HCF := ((HW4.out.setCell (p := ⟨g, 0, none⟩) (fun h => absurd h hnl) (.int .i64 0)).setCell (p := ⟨g, 1, none⟩) (fun h => absurd h hnl) (.int .i64 0)).setCell (p := ⟨g, 2, none⟩) (fun h => absurd h hnl) (.slice none 0 0)
      have HSS := ((HG4.out.set_ 0 (.int .i64 0)).set_ 1 (.int .i64 0)).set_ 2 (.slice none 0 0)
      exact bodyPost_ret_by (results_row_tmp (p := 2) (u := 3) (ty := 24) rfl _ _ g 24 [.int .i64 0, .int .i64 0, .slice none 0 0] _ rfl HSS Tryz.underlying24 (by kernel_rfl)) rfl (HPO.out _ HCF)
    | some x =>
      obtain ⟨p, m, fs⟩ := x
      have HR2 := Lib.hid (fun (W : World) => (HRD.out W).mono (R' := fun e w' => ∃ v, e = .returned (.tuple #[.agg #[.int .i64 (p : Int), .int .i64 (m : Int), v], .bool true]) ∧ w'.ownsRow W.heap.size 58 3 v fs.length (fnCs fs) ∧ fs.length ≤ 1000 ∧ (∀ f ∈ fs, okF f) ∧ Chg [] W w') (by
        rintro e w' (⟨p', m', fs', v, h, h1, h2, h3, h4, h5⟩ | ⟨h, _⟩)
        · rw [hp] at h
          injection h with h
          injection h with ha h
          injection h with hb hc
          subst ha; subst hb; subst hc
          exact ⟨v, h1, h2, h3, h4, h5⟩
        · rw [hp] at h; cases h))
      clear HRD
      have HP := Lib.hid hP
      have HRP := Lib.hid (show rParse l = if rRight (p : Int) (m : Int) fs = 0 then (if (rText (p : Int) (m : Int) fs).1 = l then (0, (p : Int), (m : Int), fs) else (12, 0, 0, [])) else (rRight (p : Int) (m : Int) fs, 0, 0, []) from by
        unfold rParse
        rw [if_neg h2, hp])
      have HRI := Lib.hid (fun (W : World) (A : Option Addr) (n c : Nat) (h : Fnr W A n c fs) (hs : ∀ f ∈ fs, f.code.size ≤ 9223372036854775807) => uright_any (pages := (p : Int)) (most := (m : Int)) h hs)
      have HTX := Lib.hid (fun (W : World) (A : Option Addr) (n c : Nat) (h : Fnr W A n c fs) (hs : ∀ f ∈ fs, f.code.size ≤ 9223372036854775807) (hp : PowB W.heap.size W) => utext_any (pages := (p : Int)) (most := (m : Int)) h hs hp)
      unfold RightPost at HRI
      unfold UTextPost at HTX
      unfold unitV at HRI HTX
      clear hp hP h2
      generalize rRight (p : Int) (m : Int) fs = R at HRP HRI
      generalize rText (p : Int) (m : Int) fs = TX at HRP HTX
      obtain ⟨T1, E1⟩ := TX
      simp only at HRP HTX
      by_cases hR : R = 0
      · subst hR
        rw [if_pos rfl] at HRP
        by_cases hT : T1 = l
        · rw [if_pos hT] at HRP
          subst hT
          have HPO := Lib.hid (show ∀ v wr, wr.ownsRow w.heap.size 58 3 v fs.length (fnCs fs) → fs.length ≤ 1000 → (∀ f ∈ fs, okF f) → Chg [] w wr → PsPost (rParse T1) w (.returned (.tuple #[.agg #[.int .i64 (p : Int), .int .i64 (m : Int), v], .int .i64 0])) wr from fun v wr h1 h2 h3 h4 => by
            rw [HRP.out]
            exact ⟨v, rfl, h1, h2, h3, h4⟩)
          generalize PsPost (rParse T1) w = PO at HPO ⊢
          generalize strOf T1 = S at *
          clear hl hsz HRP
          go_enter Tryz.func32, Tryz.ntmps32
          go_upto_region 1 with fail
          have hN := Whole.new w 24 [.int .i64 0, .int .i64 0, .slice none 0 0]
          have hal := (Chg.refl [] w).alloc (.cells #[.int .i64 0, .int .i64 0, .slice none 0 0] 24)
          obtain ⟨g, hg⟩ : ∃ g, g = w.heap.size := ⟨_, rfl⟩
          have hw1s : (w.alloc (.cells #[.int .i64 0, .int .i64 0, .slice none 0 0] 24)).heap.size = g + 1 := by rw [hg]; simp
          rw [← hg] at hN ⊢
          have HG := Lib.hid hN
          have HW1 := Lib.hid hal
          have HGS := Lib.hid hg
          have HGZ := Lib.hid hw1s
          have hnl : ¬ g < w.heap.size := by omega
          generalize w.alloc (.cells #[.int .i64 0, .int .i64 0, .slice none 0 0] 24) = w1 at HG HW1 HGZ ⊢
          clear hN hal hg hw1s
          go_upto_region 4 with (go_at_call 61
                                 refine (HR2.out _).mono ?_
                                 rintro e w2 ⟨v2, rfl, ho2, hfl2, hfa2, hc2⟩
                                 obtain ⟨A, c, rfl, hfr⟩ := Fnr.of_own ho2 (by omega) (fun f hf => by have := hfa2 f hf; unfold okF at this; omega)
                                 have HG2 := Lib.hid (HG.out.keep hc2)
                                 have HW2 := Lib.hid (HW1.out.trans hc2)
                                 have HO2 := Lib.hid ho2
                                 have HR3 := Lib.hid hfr
                                 have HFL := Lib.hid hfl2
                                 have HFA := Lib.hid hfa2
                                 clear hc2 ho2 hfr hfl2 hfa2)
          have hN := Whole.new w2 24 [.int .i64 (p : Int), .int .i64 (m : Int), .slice A fs.length c]
          have hal := (Chg.refl [] w2).alloc (.cells #[.int .i64 (p : Int), .int .i64 (m : Int), .slice A fs.length c] 24)
          have HU4 := Lib.hid hN
          have HG4 := Lib.hid (HG2.out.keep hal)
          have HO4 := Lib.hid (rown_keep HO2.out hal)
          have HR4 := Lib.hid (HR3.out.keep hal)
          have HW4 := Lib.hid (HW2.out.trans hal)
          have HSM := Lib.hid (show ∀ f ∈ fs, f.code.size ≤ 9223372036854775807 from fun f hf => by have := HFA.out f hf; unfold okF at this; omega)
          clear hN hal
          generalize w2.heap.size = gu at HU4 ⊢
          generalize w2.alloc (.cells #[.int .i64 (p : Int), .int .i64 (m : Int), .slice A fs.length c] 24) = w4 at HG4 HW4 HU4 HO4 HR4 ⊢
          generalize fs.length = n at *
          have u0 := HU4.out.cell 0
          have u1 := HU4.out.cell 1
          have u2 := HU4.out.cell 2
          go_upto_region 10 with (first
            | (go_at_call 54
               refine (HRI.out _ _ _ _ HR4.out HSM.out).mono ?_
               rintro e w5 ⟨rfl, hc5⟩
               have HG5 := Lib.hid (HG4.out.keep hc5)
               have HU5 := Lib.hid (HU4.out.keep hc5)
               have HO5 := Lib.hid (rown_keep HO4.out hc5)
               have HR5 := Lib.hid (HR4.out.keep hc5)
               have HW5 := Lib.hid (HW4.out.trans hc5)
               have y0 := HU5.out.cell 0
               have y1 := HU5.out.cell 1
               have y2 := HU5.out.cell 2
               clear hc5)
            | (go_at_call 31
               refine (HTX.out _ _ _ _ HR5.out HSM.out (HP.out.here HW5.out)).mono ?_
               rintro e w6 ⟨rfl, hc6⟩
               have HG6 := Lib.hid (HG5.out.keep hc6)
               have HU6 := Lib.hid (HU5.out.keep hc6)
               have HO6 := Lib.hid (rown_keep HO5.out hc6)
               have HW6 := Lib.hid (HW5.out.trans hc6)
               clear hc6))
          clear u0 u1 u2 y0 y1 y2
          have u0 := HU6.out.cell 0
          have u1 := HU6.out.cell 1
          have u2 := HU6.out.cell 2
          have z0 := HG6.out.cell 0
          have z1 := HG6.out.cell 1
          have z2 := HG6.out.cell 2
          have f0 := HG6.out.frozen 0
          have f1 := HG6.out.frozen 1
          have f2 := HG6.out.frozen 2
          have hfar : ∀ (W : World) (j : Nat) (u : Value), W.ownsRow w1.heap.size 58 3 (.slice A n c) n (fnCs fs) → (W.setCell ⟨g, j, none⟩ u).ownsRow w1.heap.size 58 3 (.slice A n c) n (fnCs fs) := fun W j u h => rown_far (p := ⟨g, j, none⟩) (u := u) h (fun hb => by have := (h.lt _ hb).1; have := HGZ.out; simp only at *; omega)
          have HOZ := Lib.hid (own_more_n (hfar _ 2 (.slice A n c) (hfar _ 1 (.int .i64 (m : Int)) (hfar _ 0 (.int .i64 (p : Int)) HO6.out))) (show w.heap.size ≤ w1.heap.size from HW1.out.size))
          go_wp2_with fail
          have HCF := ((HW6.out.setCell (p := ⟨g, 0, none⟩) (fun h => absurd h hnl) (.int .i64 (p : Int))).setCell (p := ⟨g, 1, none⟩) (fun h => absurd h hnl) (.int .i64 (m : Int))).setCell (p := ⟨g, 2, none⟩) (fun h => absurd h hnl) (.slice A n c)
          have HSS := ((HG6.out.set_ 0 (.int .i64 (p : Int))).set_ 1 (.int .i64 (m : Int))).set_ 2 (.slice A n c)
          exact bodyPost_ret_by (results_row_tmp (p := 2) (u := 3) (ty := 24) rfl _ _ g 24 [.int .i64 (p : Int), .int .i64 (m : Int), .slice A n c] _ rfl HSS Tryz.underlying24 (by kernel_rfl)) rfl (HPO.out _ _ HOZ.out HFL.out HFA.out HCF)
        · rw [if_neg hT] at HRP
          have HPO := Lib.hid (show ∀ wr, Chg [] w wr → PsPost (rParse l) w (.returned (.tuple #[.agg #[.int .i64 0, .int .i64 0, .slice none 0 0], .int .i64 12])) wr from fun wr hc => by
            rw [HRP.out]
            exact ⟨_, rfl, World.ownsRow_nil _ _ _ _, by simp, by simp, hc⟩)
          generalize PsPost (rParse l) w = PO at HPO ⊢
          have hne := txt_ne hT
          generalize strOf l = S at *
          generalize strOf T1 = S1 at hne HTX
          clear hl hsz HRP hT
          go_enter Tryz.func32, Tryz.ntmps32
          go_upto_region 1 with fail
          have hN := Whole.new w 24 [.int .i64 0, .int .i64 0, .slice none 0 0]
          have hal := (Chg.refl [] w).alloc (.cells #[.int .i64 0, .int .i64 0, .slice none 0 0] 24)
          obtain ⟨g, hg⟩ : ∃ g, g = w.heap.size := ⟨_, rfl⟩
          have hw1s : (w.alloc (.cells #[.int .i64 0, .int .i64 0, .slice none 0 0] 24)).heap.size = g + 1 := by rw [hg]; simp
          rw [← hg] at hN ⊢
          have HG := Lib.hid hN
          have HW1 := Lib.hid hal
          have HGS := Lib.hid hg
          have HGZ := Lib.hid hw1s
          have hnl : ¬ g < w.heap.size := by omega
          generalize w.alloc (.cells #[.int .i64 0, .int .i64 0, .slice none 0 0] 24) = w1 at HG HW1 HGZ ⊢
          clear hN hal hg hw1s
          go_upto_region 4 with (go_at_call 61
                                 refine (HR2.out _).mono ?_
                                 rintro e w2 ⟨v2, rfl, ho2, hfl2, hfa2, hc2⟩
                                 obtain ⟨A, c, rfl, hfr⟩ := Fnr.of_own ho2 (by omega) (fun f hf => by have := hfa2 f hf; unfold okF at this; omega)
                                 have HG2 := Lib.hid (HG.out.keep hc2)
                                 have HW2 := Lib.hid (HW1.out.trans hc2)
                                 have HO2 := Lib.hid ho2
                                 have HR3 := Lib.hid hfr
                                 have HFL := Lib.hid hfl2
                                 have HFA := Lib.hid hfa2
                                 clear hc2 ho2 hfr hfl2 hfa2)
          have hN := Whole.new w2 24 [.int .i64 (p : Int), .int .i64 (m : Int), .slice A fs.length c]
          have hal := (Chg.refl [] w2).alloc (.cells #[.int .i64 (p : Int), .int .i64 (m : Int), .slice A fs.length c] 24)
          have HU4 := Lib.hid hN
          have HG4 := Lib.hid (HG2.out.keep hal)
          have HO4 := Lib.hid (rown_keep HO2.out hal)
          have HR4 := Lib.hid (HR3.out.keep hal)
          have HW4 := Lib.hid (HW2.out.trans hal)
          have HSM := Lib.hid (show ∀ f ∈ fs, f.code.size ≤ 9223372036854775807 from fun f hf => by have := HFA.out f hf; unfold okF at this; omega)
          clear hN hal
          generalize w2.heap.size = gu at HU4 ⊢
          generalize w2.alloc (.cells #[.int .i64 (p : Int), .int .i64 (m : Int), .slice A fs.length c] 24) = w4 at HG4 HW4 HU4 HO4 HR4 ⊢
          generalize fs.length = n at *
          have u0 := HU4.out.cell 0
          have u1 := HU4.out.cell 1
          have u2 := HU4.out.cell 2
          go_upto_region 10 with (first
            | (go_at_call 54
               refine (HRI.out _ _ _ _ HR4.out HSM.out).mono ?_
               rintro e w5 ⟨rfl, hc5⟩
               have HG5 := Lib.hid (HG4.out.keep hc5)
               have HU5 := Lib.hid (HU4.out.keep hc5)
               have HO5 := Lib.hid (rown_keep HO4.out hc5)
               have HR5 := Lib.hid (HR4.out.keep hc5)
               have HW5 := Lib.hid (HW4.out.trans hc5)
               have y0 := HU5.out.cell 0
               have y1 := HU5.out.cell 1
               have y2 := HU5.out.cell 2
               clear hc5)
            | (go_at_call 31
               refine (HTX.out _ _ _ _ HR5.out HSM.out (HP.out.here HW5.out)).mono ?_
               rintro e w6 ⟨rfl, hc6⟩
               have HG6 := Lib.hid (HG5.out.keep hc6)
               have HU6 := Lib.hid (HU5.out.keep hc6)
               have HO6 := Lib.hid (rown_keep HO5.out hc6)
               have HW6 := Lib.hid (HW5.out.trans hc6)
               clear hc6))
          clear u0 u1 u2 y0 y1 y2
          have u0 := HU6.out.cell 0
          have u1 := HU6.out.cell 1
          have u2 := HU6.out.cell 2
          have z0 := HG6.out.cell 0
          have z1 := HG6.out.cell 1
          have z2 := HG6.out.cell 2
          have f0 := HG6.out.frozen 0
          have f1 := HG6.out.frozen 1
          have f2 := HG6.out.frozen 2
          go_wp2_with fail
          have HCF := ((HW6.out.setCell (p := ⟨g, 0, none⟩) (fun h => absurd h hnl) (.int .i64 0)).setCell (p := ⟨g, 1, none⟩) (fun h => absurd h hnl) (.int .i64 0)).setCell (p := ⟨g, 2, none⟩) (fun h => absurd h hnl) (.slice none 0 0)
          have HSS := ((HG6.out.set_ 0 (.int .i64 0)).set_ 1 (.int .i64 0)).set_ 2 (.slice none 0 0)
          exact bodyPost_ret_by (results_row_tmp (p := 2) (u := 3) (ty := 24) rfl _ _ g 24 [.int .i64 0, .int .i64 0, .slice none 0 0] _ rfl HSS Tryz.underlying24 (by kernel_rfl)) rfl (HPO.out _ HCF)
      · rw [if_neg hR] at HRP
        have HPO := Lib.hid (show ∀ wr, Chg [] w wr → PsPost (rParse l) w (.returned (.tuple #[.agg #[.int .i64 0, .int .i64 0, .slice none 0 0], .int .i64 R])) wr from fun wr hc => by
          rw [HRP.out]
          exact ⟨_, rfl, World.ownsRow_nil _ _ _ _, by simp, by simp, hc⟩)
        generalize PsPost (rParse l) w = PO at HPO ⊢
        have hd : (R == 0) = false := by simpa using hR
        generalize strOf l = S at *
        clear hl hsz HRP hR HTX
        go_enter Tryz.func32, Tryz.ntmps32
        go_upto_region 1 with fail
        have hN := Whole.new w 24 [.int .i64 0, .int .i64 0, .slice none 0 0]
        have hal := (Chg.refl [] w).alloc (.cells #[.int .i64 0, .int .i64 0, .slice none 0 0] 24)
        obtain ⟨g, hg⟩ : ∃ g, g = w.heap.size := ⟨_, rfl⟩
        have hw1s : (w.alloc (.cells #[.int .i64 0, .int .i64 0, .slice none 0 0] 24)).heap.size = g + 1 := by rw [hg]; simp
        rw [← hg] at hN ⊢
        have HG := Lib.hid hN
        have HW1 := Lib.hid hal
        have HGS := Lib.hid hg
        have HGZ := Lib.hid hw1s
        have hnl : ¬ g < w.heap.size := by omega
        generalize w.alloc (.cells #[.int .i64 0, .int .i64 0, .slice none 0 0] 24) = w1 at HG HW1 HGZ ⊢
        clear hN hal hg hw1s
        go_upto_region 4 with (go_at_call 61
                               refine (HR2.out _).mono ?_
                               rintro e w2 ⟨v2, rfl, ho2, hfl2, hfa2, hc2⟩
                               obtain ⟨A, c, rfl, hfr⟩ := Fnr.of_own ho2 (by omega) (fun f hf => by have := hfa2 f hf; unfold okF at this; omega)
                               have HG2 := Lib.hid (HG.out.keep hc2)
                               have HW2 := Lib.hid (HW1.out.trans hc2)
                               have HO2 := Lib.hid ho2
                               have HR3 := Lib.hid hfr
                               have HFL := Lib.hid hfl2
                               have HFA := Lib.hid hfa2
                               clear hc2 ho2 hfr hfl2 hfa2)
        have hN := Whole.new w2 24 [.int .i64 (p : Int), .int .i64 (m : Int), .slice A fs.length c]
        have hal := (Chg.refl [] w2).alloc (.cells #[.int .i64 (p : Int), .int .i64 (m : Int), .slice A fs.length c] 24)
        have HU4 := Lib.hid hN
        have HG4 := Lib.hid (HG2.out.keep hal)
        have HO4 := Lib.hid (rown_keep HO2.out hal)
        have HR4 := Lib.hid (HR3.out.keep hal)
        have HW4 := Lib.hid (HW2.out.trans hal)
        have HSM := Lib.hid (show ∀ f ∈ fs, f.code.size ≤ 9223372036854775807 from fun f hf => by have := HFA.out f hf; unfold okF at this; omega)
        clear hN hal
        generalize w2.heap.size = gu at HU4 ⊢
        generalize w2.alloc (.cells #[.int .i64 (p : Int), .int .i64 (m : Int), .slice A fs.length c] 24) = w4 at HG4 HW4 HU4 HO4 HR4 ⊢
        generalize fs.length = n at *
        have u0 := HU4.out.cell 0
        have u1 := HU4.out.cell 1
        have u2 := HU4.out.cell 2
        go_upto_region 7 with (first
          | (go_at_call 54
             refine (HRI.out _ _ _ _ HR4.out HSM.out).mono ?_
             rintro e w5 ⟨rfl, hc5⟩
             have HG5 := Lib.hid (HG4.out.keep hc5)
             have HU5 := Lib.hid (HU4.out.keep hc5)
             have HO5 := Lib.hid (rown_keep HO4.out hc5)
             have HR5 := Lib.hid (HR4.out.keep hc5)
             have HW5 := Lib.hid (HW4.out.trans hc5)
             have y0 := HU5.out.cell 0
             have y1 := HU5.out.cell 1
             have y2 := HU5.out.cell 2
             clear hc5))
        have z0 := HG5.out.cell 0
        have z1 := HG5.out.cell 1
        have z2 := HG5.out.cell 2
        have f0 := HG5.out.frozen 0
        have f1 := HG5.out.frozen 1
        have f2 := HG5.out.frozen 2
        go_wp2_with fail
        have HCF := ((HW5.out.setCell (p := ⟨g, 0, none⟩) (fun h => absurd h hnl) (.int .i64 0)).setCell (p := ⟨g, 1, none⟩) (fun h => absurd h hnl) (.int .i64 0)).setCell (p := ⟨g, 2, none⟩) (fun h => absurd h hnl) (.slice none 0 0)
        have HSS := ((HG5.out.set_ 0 (.int .i64 0)).set_ 1 (.int .i64 0)).set_ 2 (.slice none 0 0)
        exact bodyPost_ret_by (results_row_tmp (p := 2) (u := 3) (ty := 24) rfl _ _ g 24 [.int .i64 0, .int .i64 0, .slice none 0 0] _ rfl HSS Tryz.underlying24 (by kernel_rfl)) rfl (HPO.out _ HCF)
end
end Go.Proofs.YtbkfhndmeljlcaaGreatDoor
