/-
  PB: USize.
-/
import Derived.Test.YtbkfhndmeljlcaaGreatDoorZPB37
import Derived.Laws.ResultCell
import Derived.Laws.NewBlocks
namespace Go.Proofs.YtbkfhndmeljlcaaGreatDoor
open Go.RowKit
theorem results_row_tmp {fn : Func} {p u : Tmp} {ty : TypeId} (h : fn.results = #[.cell p ty, .tmp u]) (tmps : Array Value) (w : World) (g : Nat) (t : TypeId) (cs : List Value) (fs : Array Field)
    (hp : tmps.getD p undef = .pointer (some ⟨g, 0, none⟩)) (hg : Whole w g t cs) (hu : Tryz.prog.underlying ty = some (.struct fs)) (hi : (Tryz.prog.info? ty).map (·.size) = some cs.toArray.size) :
    (results fn tmps).run Tryz.prog w = .ok (.tuple #[.agg cs.toArray, tmps.getD u undef]) w := by
  have hp' : tmps[p]?.getD undef = .pointer (some ⟨g, 0, none⟩) := by simpa using hp
  rw [results_cell_tmp h]
  simp [hp', asAddr, run_loadVar_row w g t ty cs.toArray (0, 0) (.struct fs) hg hu rfl hi]
/-- What Cut parts. -/
def cutT (l : List UInt8) : List UInt8 × List UInt8 := match cut1 l with | some p => p | none => (l, [])
theorem cutV_T (l : List UInt8) : cutV l = .tuple #[.string (strOf (cutT l).1), .string (strOf (cutT l).2), .bool (cut1 l).isSome] := by
  unfold cutV cutT
  cases cut1 l with
  | none => rfl
  | some p => rfl
theorem cutT_len (l : List UInt8) : (cutT l).1.length ≤ l.length ∧ (cutT l).2.length ≤ l.length := by
  unfold cutT
  cases h : cut1 l with
  | none => simp
  | some p =>
    obtain ⟨a, b⟩ := p
    obtain ⟨h1, h2, h3⟩ := cut_some h
    simp only
    refine ⟨by omega, ?_⟩
    rw [h2, List.length_drop]; omega
def unitB : List UInt8 := [117, 110, 105, 116]
theorem size_head (l : List UInt8) : headP l = (if (cutT l).1 = unitB then (match valP (cutT (cutT l).2).1, valP (cutT (cutT l).2).2 with | some x, some y => some (x, y) | _, _ => none) else none) := by
  have hnil : valP [] = none := rfl
  unfold headP
  by_cases h5 : l.take 5 = [117, 110, 105, 116, 32]
  · have hl : l = unitB ++ 32 :: l.drop 5 := by
      have := List.take_append_drop 5 l
      rw [h5] at this
      rw [← this]
      rfl
    have hc : cutT l = (unitB, l.drop 5) := by
      unfold cutT
      rw [hl, cut_blank _ _ (by decide)]
      rfl
    rw [if_pos h5, hc]
    simp only [if_true]
    unfold cutT
    cases cut1 (l.drop 5) with
    | none =>
      simp only
      rw [hnil]
      cases valP (l.drop 5) <;> rfl
    | some p => rfl
  · rw [if_neg h5]
    by_cases hu : (cutT l).1 = unitB
    · rw [if_pos hu]
      unfold cutT at hu ⊢
      cases hc : cut1 l with
      | none =>
        rw [hc] at hu
        simp only at hu ⊢
        rw [show cut1 ([] : List UInt8) = none from rfl]
        simp only
        rw [hnil]
      | some p =>
        obtain ⟨a, b⟩ := p
        rw [hc] at hu
        simp only at hu
        subst hu
        exfalso
        obtain ⟨h1, h2, h3⟩ := cut_some hc
        have hl : cut1 l = some (unitB, b) := hc
        have key : ∀ (a l b : List UInt8), cut1 l = some (a, b) → l = a ++ 32 :: b := by
          intro a
          induction a with
          | nil =>
            intro l b h
            cases l with
            | nil => simp [cut1] at h
            | cons x l =>
              rw [cut1] at h
              by_cases hx : x = 32
              · rw [if_pos hx] at h
                simp at h
                rw [hx, h]
                rfl
              · rw [if_neg hx] at h
                cases hc : cut1 l with
                | none => rw [hc] at h; simp at h
                | some p => rw [hc] at h; simp at h
          | cons y a ih =>
            intro l b h
            cases l with
            | nil => simp [cut1] at h
            | cons x l =>
              rw [cut1] at h
              by_cases hx : x = 32
              · rw [if_pos hx] at h
                simp at h
              · rw [if_neg hx] at h
                cases hc : cut1 l with
                | none => rw [hc] at h; simp at h
                | some p =>
                  obtain ⟨q, r⟩ := p
                  rw [hc] at h
                  simp at h
                  obtain ⟨⟨rfl, rfl⟩, rfl⟩ := h
                  rw [ih l r hc]
                  rfl
        rw [key _ _ _ hl] at h5
        exact h5 rfl
    · rw [if_neg hu]
def sizeV (l : List UInt8) : Value := match headP l with
  | some (p, m) => .tuple #[.agg #[.int .i64 (p : Int), .int .i64 (m : Int), .slice none 0 0], .bool true]
  | none => .tuple #[.agg #[.int .i64 0, .int .i64 0, .slice none 0 0], .bool false]
def SizesPost (l : List UInt8) (w : World) (e : Ending) (w' : World) : Prop := e = .returned (sizeV l) ∧ Chg [] w w'
section
variable {w : World}
set_option maxHeartbeats 4000000 in
set_option maxRecDepth 100000 in
theorem usizes_any (l : List UInt8) (hl : l.length ≤ 1000000) : Calls Tryz.prog 94 #[.string (strOf l)] w (SizesPost l w) := by
  have hcl := cutT_len l
  have hcl2 := cutT_len (cutT l).2
  have HC1 := Lib.hid (fun (W : World) => cut_any (w := W) l hl)
  have HC2 := Lib.hid (fun (W : World) => cut_any (w := W) (cutT l).2 (by omega))
  have HN1 := Lib.hid (fun (W : World) => unumber_any (w := W) (cutT (cutT l).2).1 (by omega))
  have HN2 := Lib.hid (fun (W : World) => unumber_any (w := W) (cutT (cutT l).2).2 (by omega))
  obtain ⟨V, hV⟩ : ∃ V, V = sizeV l := ⟨_, rfl⟩
  unfold SizesPost
  rw [← hV]
  unfold sizeV at hV
  rw [size_head] at hV
  unfold CutPost at HC1 HC2
  rw [cutV_T] at HC1 HC2
  unfold UnumPost unumV at HN1 HN2
  have HV := Lib.hid hV
  clear hV hcl hcl2
  generalize (cut1 l).isSome = b1 at HC1
  generalize (cut1 (cutT l).2).isSome = b2 at HC2
  generalize hF : (cutT l).1 = F1 at HC1 HV
  generalize (cutT l).2 = R1 at *
  generalize (cutT R1).1 = S1 at *
  generalize (cutT R1).2 = S2 at *
  have hP1 : ∀ m, valP S1 = some m → m ≤ 9223372036854775807 := fun m h => valP_le h
  clear hF hP1
  generalize valP S1 = o1 at *
  generalize valP S2 = o2 at *
  by_cases hF : F1 = unitB
  · subst hF
    rw [if_pos rfl] at HV
    have e4 : strOf unitB = ⟨#[117, 110, 105, 116]⟩ := rfl
    rw [e4] at HC1
    cases o1 with
    | none =>
      simp only at HV HN1
      cases o2 with
      | none =>
        simp only at HN2
        go_enter Tryz.func94, Tryz.ntmps94
        go_upto_region 1 with fail
        have hN := Whole.new w 24 [.int .i64 0, .int .i64 0, .slice none 0 0]
        have hal := (Chg.refl [] w).alloc (.cells #[.int .i64 0, .int .i64 0, .slice none 0 0] 24)
        obtain ⟨g, hg⟩ : ∃ g, g = w.heap.size := ⟨_, rfl⟩
        rw [← hg] at hN ⊢
        have HG := Lib.hid hN
        have HW1 := Lib.hid hal
        have HGS := Lib.hid hg
        generalize w.alloc (.cells #[.int .i64 0, .int .i64 0, .slice none 0 0] 24) = w1 at HG HW1 ⊢
        clear hN hal hg
        go_wp2_with (first
                  | (go_at_call 115
                     with_reducible refine (HC1.out _).mono ?_
                     rintro e w2 ⟨rfl, hc2⟩
                     have HQ2 := Lib.hid (HW1.out.trans hc2)
                     have HG2 := Lib.hid (HG.out.keep hc2)
                     clear hc2)
                  | (go_at_call 115
                     with_reducible refine (HC2.out _).mono ?_
                     rintro e w3 ⟨rfl, hc3⟩
                     have HQ3 := Lib.hid (HQ2.out.trans hc3)
                     have HG3 := Lib.hid (HG2.out.keep hc3)
                     clear hc3)
                  | (go_at_call 116
                     with_reducible refine (HN1.out _).mono ?_
                     rintro e w4 ⟨rfl, hc4⟩
                     have HQ4 := Lib.hid (HQ3.out.trans hc4)
                     have HG4 := Lib.hid (HG3.out.keep hc4)
                     clear hc4)
                  | (go_at_call 116
                     with_reducible refine (HN2.out _).mono ?_
                     rintro e w5 ⟨rfl, hc5⟩
                     have HQ5 := Lib.hid (HQ4.out.trans hc5)
                     have HG5 := Lib.hid (HG4.out.keep hc5)
                     have z0 := HG5.out.cell 0
                     have z1 := HG5.out.cell 1
                     have z2 := HG5.out.cell 2
                     have f0 := HG5.out.frozen 0
                     have f1 := HG5.out.frozen 1
                     have f2 := HG5.out.frozen 2
                     clear hc5))
        have hnl : ¬ g < w.heap.size := by have := HGS.out; omega
        have HC := ((HQ5.out.setCell (p := ⟨g, 0, none⟩) (fun h => absurd h hnl) (.int .i64 0)).setCell (p := ⟨g, 1, none⟩) (fun h => absurd h hnl) (.int .i64 0)).setCell (p := ⟨g, 2, none⟩) (fun h => absurd h hnl) (.slice none 0 0)
        have HS := ((HG5.out.set_ 0 (.int .i64 0)).set_ 1 (.int .i64 0)).set_ 2 (.slice none 0 0)
        refine bodyPost_ret_by (results_row_tmp rfl _ _ g 24 [(.int .i64 0), (.int .i64 0), .slice none 0 0] _ rfl HS Tryz.underlying24 (by kernel_rfl)) rfl ⟨by rw [HV.out]; rfl, HC⟩
      | some y =>
        simp only at HN2
        go_enter Tryz.func94, Tryz.ntmps94
        go_upto_region 1 with fail
        have hN := Whole.new w 24 [.int .i64 0, .int .i64 0, .slice none 0 0]
        have hal := (Chg.refl [] w).alloc (.cells #[.int .i64 0, .int .i64 0, .slice none 0 0] 24)
        obtain ⟨g, hg⟩ : ∃ g, g = w.heap.size := ⟨_, rfl⟩
        rw [← hg] at hN ⊢
        have HG := Lib.hid hN
        have HW1 := Lib.hid hal
        have HGS := Lib.hid hg
        generalize w.alloc (.cells #[.int .i64 0, .int .i64 0, .slice none 0 0] 24) = w1 at HG HW1 ⊢
        clear hN hal hg
        go_wp2_with (first
                  | (go_at_call 115
                     with_reducible refine (HC1.out _).mono ?_
                     rintro e w2 ⟨rfl, hc2⟩
                     have HQ2 := Lib.hid (HW1.out.trans hc2)
                     have HG2 := Lib.hid (HG.out.keep hc2)
                     clear hc2)
                  | (go_at_call 115
                     with_reducible refine (HC2.out _).mono ?_
                     rintro e w3 ⟨rfl, hc3⟩
                     have HQ3 := Lib.hid (HQ2.out.trans hc3)
                     have HG3 := Lib.hid (HG2.out.keep hc3)
                     clear hc3)
                  | (go_at_call 116
                     with_reducible refine (HN1.out _).mono ?_
                     rintro e w4 ⟨rfl, hc4⟩
                     have HQ4 := Lib.hid (HQ3.out.trans hc4)
                     have HG4 := Lib.hid (HG3.out.keep hc4)
                     clear hc4)
                  | (go_at_call 116
                     with_reducible refine (HN2.out _).mono ?_
                     rintro e w5 ⟨rfl, hc5⟩
                     have HQ5 := Lib.hid (HQ4.out.trans hc5)
                     have HG5 := Lib.hid (HG4.out.keep hc5)
                     have z0 := HG5.out.cell 0
                     have z1 := HG5.out.cell 1
                     have z2 := HG5.out.cell 2
                     have f0 := HG5.out.frozen 0
                     have f1 := HG5.out.frozen 1
                     have f2 := HG5.out.frozen 2
                     clear hc5))
        have hnl : ¬ g < w.heap.size := by have := HGS.out; omega
        have HC := ((HQ5.out.setCell (p := ⟨g, 0, none⟩) (fun h => absurd h hnl) (.int .i64 0)).setCell (p := ⟨g, 1, none⟩) (fun h => absurd h hnl) (.int .i64 0)).setCell (p := ⟨g, 2, none⟩) (fun h => absurd h hnl) (.slice none 0 0)
        have HS := ((HG5.out.set_ 0 (.int .i64 0)).set_ 1 (.int .i64 0)).set_ 2 (.slice none 0 0)
        refine bodyPost_ret_by (results_row_tmp rfl _ _ g 24 [(.int .i64 0), (.int .i64 0), .slice none 0 0] _ rfl HS Tryz.underlying24 (by kernel_rfl)) rfl ⟨by rw [HV.out]; rfl, HC⟩
    | some x => cases o2 with
      | none =>
        simp only at HV HN1 HN2
        go_enter Tryz.func94, Tryz.ntmps94
        go_upto_region 1 with fail
        have hN := Whole.new w 24 [.int .i64 0, .int .i64 0, .slice none 0 0]
        have hal := (Chg.refl [] w).alloc (.cells #[.int .i64 0, .int .i64 0, .slice none 0 0] 24)
        obtain ⟨g, hg⟩ : ∃ g, g = w.heap.size := ⟨_, rfl⟩
        rw [← hg] at hN ⊢
        have HG := Lib.hid hN
        have HW1 := Lib.hid hal
        have HGS := Lib.hid hg
        generalize w.alloc (.cells #[.int .i64 0, .int .i64 0, .slice none 0 0] 24) = w1 at HG HW1 ⊢
        clear hN hal hg
        go_wp2_with (first
                  | (go_at_call 115
                     with_reducible refine (HC1.out _).mono ?_
                     rintro e w2 ⟨rfl, hc2⟩
                     have HQ2 := Lib.hid (HW1.out.trans hc2)
                     have HG2 := Lib.hid (HG.out.keep hc2)
                     clear hc2)
                  | (go_at_call 115
                     with_reducible refine (HC2.out _).mono ?_
                     rintro e w3 ⟨rfl, hc3⟩
                     have HQ3 := Lib.hid (HQ2.out.trans hc3)
                     have HG3 := Lib.hid (HG2.out.keep hc3)
                     clear hc3)
                  | (go_at_call 116
                     with_reducible refine (HN1.out _).mono ?_
                     rintro e w4 ⟨rfl, hc4⟩
                     have HQ4 := Lib.hid (HQ3.out.trans hc4)
                     have HG4 := Lib.hid (HG3.out.keep hc4)
                     clear hc4)
                  | (go_at_call 116
                     with_reducible refine (HN2.out _).mono ?_
                     rintro e w5 ⟨rfl, hc5⟩
                     have HQ5 := Lib.hid (HQ4.out.trans hc5)
                     have HG5 := Lib.hid (HG4.out.keep hc5)
                     have z0 := HG5.out.cell 0
                     have z1 := HG5.out.cell 1
                     have z2 := HG5.out.cell 2
                     have f0 := HG5.out.frozen 0
                     have f1 := HG5.out.frozen 1
                     have f2 := HG5.out.frozen 2
                     clear hc5))
        have hnl : ¬ g < w.heap.size := by have := HGS.out; omega
        have HC := ((HQ5.out.setCell (p := ⟨g, 0, none⟩) (fun h => absurd h hnl) (.int .i64 0)).setCell (p := ⟨g, 1, none⟩) (fun h => absurd h hnl) (.int .i64 0)).setCell (p := ⟨g, 2, none⟩) (fun h => absurd h hnl) (.slice none 0 0)
        have HS := ((HG5.out.set_ 0 (.int .i64 0)).set_ 1 (.int .i64 0)).set_ 2 (.slice none 0 0)
        refine bodyPost_ret_by (results_row_tmp rfl _ _ g 24 [(.int .i64 0), (.int .i64 0), .slice none 0 0] _ rfl HS Tryz.underlying24 (by kernel_rfl)) rfl ⟨by rw [HV.out]; rfl, HC⟩
      | some y =>
        simp only at HV HN1 HN2
        go_enter Tryz.func94, Tryz.ntmps94
        go_upto_region 1 with fail
        have hN := Whole.new w 24 [.int .i64 0, .int .i64 0, .slice none 0 0]
        have hal := (Chg.refl [] w).alloc (.cells #[.int .i64 0, .int .i64 0, .slice none 0 0] 24)
        obtain ⟨g, hg⟩ : ∃ g, g = w.heap.size := ⟨_, rfl⟩
        rw [← hg] at hN ⊢
        have HG := Lib.hid hN
        have HW1 := Lib.hid hal
        have HGS := Lib.hid hg
        generalize w.alloc (.cells #[.int .i64 0, .int .i64 0, .slice none 0 0] 24) = w1 at HG HW1 ⊢
        clear hN hal hg
        go_wp2_with (first
                  | (go_at_call 115
                     with_reducible refine (HC1.out _).mono ?_
                     rintro e w2 ⟨rfl, hc2⟩
                     have HQ2 := Lib.hid (HW1.out.trans hc2)
                     have HG2 := Lib.hid (HG.out.keep hc2)
                     clear hc2)
                  | (go_at_call 115
                     with_reducible refine (HC2.out _).mono ?_
                     rintro e w3 ⟨rfl, hc3⟩
                     have HQ3 := Lib.hid (HQ2.out.trans hc3)
                     have HG3 := Lib.hid (HG2.out.keep hc3)
                     clear hc3)
                  | (go_at_call 116
                     with_reducible refine (HN1.out _).mono ?_
                     rintro e w4 ⟨rfl, hc4⟩
                     have HQ4 := Lib.hid (HQ3.out.trans hc4)
                     have HG4 := Lib.hid (HG3.out.keep hc4)
                     clear hc4)
                  | (go_at_call 116
                     with_reducible refine (HN2.out _).mono ?_
                     rintro e w5 ⟨rfl, hc5⟩
                     have HQ5 := Lib.hid (HQ4.out.trans hc5)
                     have HG5 := Lib.hid (HG4.out.keep hc5)
                     have z0 := HG5.out.cell 0
                     have z1 := HG5.out.cell 1
                     have z2 := HG5.out.cell 2
                     have f0 := HG5.out.frozen 0
                     have f1 := HG5.out.frozen 1
                     have f2 := HG5.out.frozen 2
                     clear hc5))
        have hnl : ¬ g < w.heap.size := by have := HGS.out; omega
        have HC := ((HQ5.out.setCell (p := ⟨g, 0, none⟩) (fun h => absurd h hnl) (.int .i64 (x : Int))).setCell (p := ⟨g, 1, none⟩) (fun h => absurd h hnl) (.int .i64 (y : Int))).setCell (p := ⟨g, 2, none⟩) (fun h => absurd h hnl) (.slice none 0 0)
        have HS := ((HG5.out.set_ 0 (.int .i64 (x : Int))).set_ 1 (.int .i64 (y : Int))).set_ 2 (.slice none 0 0)
        refine bodyPost_ret_by (results_row_tmp rfl _ _ g 24 [(.int .i64 (x : Int)), (.int .i64 (y : Int)), .slice none 0 0] _ rfl HS Tryz.underlying24 (by kernel_rfl)) rfl ⟨by rw [HV.out]; rfl, HC⟩
  · rw [if_neg hF] at HV
    have hne : ¬ (strOf F1).toList = [117, 110, 105, 116] := by
      rw [ByteArray.toList_eq, strOf_toList]
      exact hF
    cases o1 with
    | none =>
      simp only at HV HN1
      cases o2 with
      | none =>
        simp only at HN2
        go_enter Tryz.func94, Tryz.ntmps94
        go_upto_region 1 with fail
        have hN := Whole.new w 24 [.int .i64 0, .int .i64 0, .slice none 0 0]
        have hal := (Chg.refl [] w).alloc (.cells #[.int .i64 0, .int .i64 0, .slice none 0 0] 24)
        obtain ⟨g, hg⟩ : ∃ g, g = w.heap.size := ⟨_, rfl⟩
        rw [← hg] at hN ⊢
        have HG := Lib.hid hN
        have HW1 := Lib.hid hal
        have HGS := Lib.hid hg
        generalize w.alloc (.cells #[.int .i64 0, .int .i64 0, .slice none 0 0] 24) = w1 at HG HW1 ⊢
        clear hN hal hg
        go_wp2_with (first
                  | (go_at_call 115
                     with_reducible refine (HC1.out _).mono ?_
                     rintro e w2 ⟨rfl, hc2⟩
                     have HQ2 := Lib.hid (HW1.out.trans hc2)
                     have HG2 := Lib.hid (HG.out.keep hc2)
                     clear hc2)
                  | (go_at_call 115
                     with_reducible refine (HC2.out _).mono ?_
                     rintro e w3 ⟨rfl, hc3⟩
                     have HQ3 := Lib.hid (HQ2.out.trans hc3)
                     have HG3 := Lib.hid (HG2.out.keep hc3)
                     clear hc3)
                  | (go_at_call 116
                     with_reducible refine (HN1.out _).mono ?_
                     rintro e w4 ⟨rfl, hc4⟩
                     have HQ4 := Lib.hid (HQ3.out.trans hc4)
                     have HG4 := Lib.hid (HG3.out.keep hc4)
                     clear hc4)
                  | (go_at_call 116
                     with_reducible refine (HN2.out _).mono ?_
                     rintro e w5 ⟨rfl, hc5⟩
                     have HQ5 := Lib.hid (HQ4.out.trans hc5)
                     have HG5 := Lib.hid (HG4.out.keep hc5)
                     have z0 := HG5.out.cell 0
                     have z1 := HG5.out.cell 1
                     have z2 := HG5.out.cell 2
                     have f0 := HG5.out.frozen 0
                     have f1 := HG5.out.frozen 1
                     have f2 := HG5.out.frozen 2
                     clear hc5))
        have hnl : ¬ g < w.heap.size := by have := HGS.out; omega
        have HC := ((HQ5.out.setCell (p := ⟨g, 0, none⟩) (fun h => absurd h hnl) (.int .i64 0)).setCell (p := ⟨g, 1, none⟩) (fun h => absurd h hnl) (.int .i64 0)).setCell (p := ⟨g, 2, none⟩) (fun h => absurd h hnl) (.slice none 0 0)
        have HS := ((HG5.out.set_ 0 (.int .i64 0)).set_ 1 (.int .i64 0)).set_ 2 (.slice none 0 0)
        refine bodyPost_ret_by (results_row_tmp rfl _ _ g 24 [(.int .i64 0), (.int .i64 0), .slice none 0 0] _ rfl HS Tryz.underlying24 (by kernel_rfl)) rfl ⟨by rw [HV.out]; rfl, HC⟩
      | some y =>
        simp only at HN2
        go_enter Tryz.func94, Tryz.ntmps94
        go_upto_region 1 with fail
        have hN := Whole.new w 24 [.int .i64 0, .int .i64 0, .slice none 0 0]
        have hal := (Chg.refl [] w).alloc (.cells #[.int .i64 0, .int .i64 0, .slice none 0 0] 24)
        obtain ⟨g, hg⟩ : ∃ g, g = w.heap.size := ⟨_, rfl⟩
        rw [← hg] at hN ⊢
        have HG := Lib.hid hN
        have HW1 := Lib.hid hal
        have HGS := Lib.hid hg
        generalize w.alloc (.cells #[.int .i64 0, .int .i64 0, .slice none 0 0] 24) = w1 at HG HW1 ⊢
        clear hN hal hg
        go_wp2_with (first
                  | (go_at_call 115
                     with_reducible refine (HC1.out _).mono ?_
                     rintro e w2 ⟨rfl, hc2⟩
                     have HQ2 := Lib.hid (HW1.out.trans hc2)
                     have HG2 := Lib.hid (HG.out.keep hc2)
                     clear hc2)
                  | (go_at_call 115
                     with_reducible refine (HC2.out _).mono ?_
                     rintro e w3 ⟨rfl, hc3⟩
                     have HQ3 := Lib.hid (HQ2.out.trans hc3)
                     have HG3 := Lib.hid (HG2.out.keep hc3)
                     clear hc3)
                  | (go_at_call 116
                     with_reducible refine (HN1.out _).mono ?_
                     rintro e w4 ⟨rfl, hc4⟩
                     have HQ4 := Lib.hid (HQ3.out.trans hc4)
                     have HG4 := Lib.hid (HG3.out.keep hc4)
                     clear hc4)
                  | (go_at_call 116
                     with_reducible refine (HN2.out _).mono ?_
                     rintro e w5 ⟨rfl, hc5⟩
                     have HQ5 := Lib.hid (HQ4.out.trans hc5)
                     have HG5 := Lib.hid (HG4.out.keep hc5)
                     have z0 := HG5.out.cell 0
                     have z1 := HG5.out.cell 1
                     have z2 := HG5.out.cell 2
                     have f0 := HG5.out.frozen 0
                     have f1 := HG5.out.frozen 1
                     have f2 := HG5.out.frozen 2
                     clear hc5))
        have hnl : ¬ g < w.heap.size := by have := HGS.out; omega
        have HC := ((HQ5.out.setCell (p := ⟨g, 0, none⟩) (fun h => absurd h hnl) (.int .i64 0)).setCell (p := ⟨g, 1, none⟩) (fun h => absurd h hnl) (.int .i64 0)).setCell (p := ⟨g, 2, none⟩) (fun h => absurd h hnl) (.slice none 0 0)
        have HS := ((HG5.out.set_ 0 (.int .i64 0)).set_ 1 (.int .i64 0)).set_ 2 (.slice none 0 0)
        refine bodyPost_ret_by (results_row_tmp rfl _ _ g 24 [(.int .i64 0), (.int .i64 0), .slice none 0 0] _ rfl HS Tryz.underlying24 (by kernel_rfl)) rfl ⟨by rw [HV.out]; rfl, HC⟩
    | some x => cases o2 with
      | none =>
        simp only at HV HN1 HN2
        go_enter Tryz.func94, Tryz.ntmps94
        go_upto_region 1 with fail
        have hN := Whole.new w 24 [.int .i64 0, .int .i64 0, .slice none 0 0]
        have hal := (Chg.refl [] w).alloc (.cells #[.int .i64 0, .int .i64 0, .slice none 0 0] 24)
        obtain ⟨g, hg⟩ : ∃ g, g = w.heap.size := ⟨_, rfl⟩
        rw [← hg] at hN ⊢
        have HG := Lib.hid hN
        have HW1 := Lib.hid hal
        have HGS := Lib.hid hg
        generalize w.alloc (.cells #[.int .i64 0, .int .i64 0, .slice none 0 0] 24) = w1 at HG HW1 ⊢
        clear hN hal hg
        go_wp2_with (first
                  | (go_at_call 115
                     with_reducible refine (HC1.out _).mono ?_
                     rintro e w2 ⟨rfl, hc2⟩
                     have HQ2 := Lib.hid (HW1.out.trans hc2)
                     have HG2 := Lib.hid (HG.out.keep hc2)
                     clear hc2)
                  | (go_at_call 115
                     with_reducible refine (HC2.out _).mono ?_
                     rintro e w3 ⟨rfl, hc3⟩
                     have HQ3 := Lib.hid (HQ2.out.trans hc3)
                     have HG3 := Lib.hid (HG2.out.keep hc3)
                     clear hc3)
                  | (go_at_call 116
                     with_reducible refine (HN1.out _).mono ?_
                     rintro e w4 ⟨rfl, hc4⟩
                     have HQ4 := Lib.hid (HQ3.out.trans hc4)
                     have HG4 := Lib.hid (HG3.out.keep hc4)
                     clear hc4)
                  | (go_at_call 116
                     with_reducible refine (HN2.out _).mono ?_
                     rintro e w5 ⟨rfl, hc5⟩
                     have HQ5 := Lib.hid (HQ4.out.trans hc5)
                     have HG5 := Lib.hid (HG4.out.keep hc5)
                     have z0 := HG5.out.cell 0
                     have z1 := HG5.out.cell 1
                     have z2 := HG5.out.cell 2
                     have f0 := HG5.out.frozen 0
                     have f1 := HG5.out.frozen 1
                     have f2 := HG5.out.frozen 2
                     clear hc5))
        have hnl : ¬ g < w.heap.size := by have := HGS.out; omega
        have HC := ((HQ5.out.setCell (p := ⟨g, 0, none⟩) (fun h => absurd h hnl) (.int .i64 0)).setCell (p := ⟨g, 1, none⟩) (fun h => absurd h hnl) (.int .i64 0)).setCell (p := ⟨g, 2, none⟩) (fun h => absurd h hnl) (.slice none 0 0)
        have HS := ((HG5.out.set_ 0 (.int .i64 0)).set_ 1 (.int .i64 0)).set_ 2 (.slice none 0 0)
        refine bodyPost_ret_by (results_row_tmp rfl _ _ g 24 [(.int .i64 0), (.int .i64 0), .slice none 0 0] _ rfl HS Tryz.underlying24 (by kernel_rfl)) rfl ⟨by rw [HV.out]; rfl, HC⟩
      | some y =>
        simp only at HV HN1 HN2
        go_enter Tryz.func94, Tryz.ntmps94
        go_upto_region 1 with fail
        have hN := Whole.new w 24 [.int .i64 0, .int .i64 0, .slice none 0 0]
        have hal := (Chg.refl [] w).alloc (.cells #[.int .i64 0, .int .i64 0, .slice none 0 0] 24)
        obtain ⟨g, hg⟩ : ∃ g, g = w.heap.size := ⟨_, rfl⟩
        rw [← hg] at hN ⊢
        have HG := Lib.hid hN
        have HW1 := Lib.hid hal
        have HGS := Lib.hid hg
        generalize w.alloc (.cells #[.int .i64 0, .int .i64 0, .slice none 0 0] 24) = w1 at HG HW1 ⊢
        clear hN hal hg
        go_wp2_with (first
                  | (go_at_call 115
                     with_reducible refine (HC1.out _).mono ?_
                     rintro e w2 ⟨rfl, hc2⟩
                     have HQ2 := Lib.hid (HW1.out.trans hc2)
                     have HG2 := Lib.hid (HG.out.keep hc2)
                     clear hc2)
                  | (go_at_call 115
                     with_reducible refine (HC2.out _).mono ?_
                     rintro e w3 ⟨rfl, hc3⟩
                     have HQ3 := Lib.hid (HQ2.out.trans hc3)
                     have HG3 := Lib.hid (HG2.out.keep hc3)
                     clear hc3)
                  | (go_at_call 116
                     with_reducible refine (HN1.out _).mono ?_
                     rintro e w4 ⟨rfl, hc4⟩
                     have HQ4 := Lib.hid (HQ3.out.trans hc4)
                     have HG4 := Lib.hid (HG3.out.keep hc4)
                     clear hc4)
                  | (go_at_call 116
                     with_reducible refine (HN2.out _).mono ?_
                     rintro e w5 ⟨rfl, hc5⟩
                     have HQ5 := Lib.hid (HQ4.out.trans hc5)
                     have HG5 := Lib.hid (HG4.out.keep hc5)
                     have z0 := HG5.out.cell 0
                     have z1 := HG5.out.cell 1
                     have z2 := HG5.out.cell 2
                     have f0 := HG5.out.frozen 0
                     have f1 := HG5.out.frozen 1
                     have f2 := HG5.out.frozen 2
                     clear hc5))
        have hnl : ¬ g < w.heap.size := by have := HGS.out; omega
        have HC := ((HQ5.out.setCell (p := ⟨g, 0, none⟩) (fun h => absurd h hnl) (.int .i64 0)).setCell (p := ⟨g, 1, none⟩) (fun h => absurd h hnl) (.int .i64 0)).setCell (p := ⟨g, 2, none⟩) (fun h => absurd h hnl) (.slice none 0 0)
        have HS := ((HG5.out.set_ 0 (.int .i64 0)).set_ 1 (.int .i64 0)).set_ 2 (.slice none 0 0)
        refine bodyPost_ret_by (results_row_tmp rfl _ _ g 24 [(.int .i64 0), (.int .i64 0), .slice none 0 0] _ rfl HS Tryz.underlying24 (by kernel_rfl)) rfl ⟨by rw [HV.out]; rfl, HC⟩
end
end Go.Proofs.YtbkfhndmeljlcaaGreatDoor
