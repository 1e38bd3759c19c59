/-
  check's walk: halve.
-/
import Derived.Test.YtafgpmempgoikaaZNestWithin1
import Derived.Test.YtafgpmempgoikaaZNestWithin2
import Derived.Test.YtafgpmempgoikaaZNestWithin3
import Derived.Test.YtafgpmempgoikaaZNestWithin4
import Derived.Test.YtafgpmempgoikaaZNestWithin5
import Derived.Test.YtafgpmempgoikaaZNestWithin6
import Derived.Test.YtafgpmempgoikaaFrZ
import Derived.Test.YtafgpmempgoikaaCTakesZ
import Derived.Test.YtafgpmempgoikaaWkMemZ
namespace Go.Proofs.Ytafgpmempgoikaa
open Go.RowKit
theorem Whole.grownNe {w w' : World} {g t : Nat} {cs : List Value} {row : Option Nat} (h : Whole w g t cs) (hg : w.grownBy w' row) (hne : row ≠ some g) : Whole w' g t cs := (hg.block g h.lt (fun e => hne e.symm)).trans h
section
variable {W : World} {g : Nat} {h : Int} {v : Value} {bs ys : List BkV} {x : BkV}
def WVoid (W : World) (g : Nat) (h : Int) (bs : List BkV) (e : Ending) (w' : World) : Prop := e = .returned (.tuple #[]) ∧ ∃ v', Wk w' g h v' bs ∧ Fr g wkT W w'
set_option maxHeartbeats 8000000 in
set_option maxRecDepth 100000 in
theorem whalve_any (s : Wk W g h v (ys ++ [x])) (hx : x.sign = 63) : Calls Try.prog 67 #[.pointer (some ⟨g, 0, none⟩)] W (WVoid W g x.base (ys ++ [⟨58, x.base, h, x.left⟩])) := by
  obtain ⟨i0, hi0, hz0, hz1, hz2⟩ := info_parts info_cpart
  have HRB := Lib.hid (s.rb x (by simp))
  have HSH := Lib.hid (shut_any s)
  have hf : ys.length ≤ 99 := by have := s.few; rw [List.length_append, List.length_singleton] at this; omega
  have HHR := Lib.hid s.hr
  obtain ⟨sg, xb, xo, xl⟩ := x
  simp only at hx HRB
  subst hx
  simp only
  clear s
  go_enter Try.func67, Try.ntmps67
  go_wp2_with fail
  refine HSH.out.mono ?_
  rintro e w1 ⟨v1, rfl, hw1, hf1⟩
  have HW1 := Lib.hid hw1
  have HF1 := Lib.hid hf1
  have c0 := hw1.rec_.cell 0
  clear hw1 hf1
  have e1 : (ptC ⟨63, xb, xo, xl⟩).toArray = #[.bool false, .int .i64 xb, .bool false, .int .i64 xo, .bool xl] := rfl
  rw [e1]
  clear e1
  go_upto_region 1 with fail
  have hX := Whole.new w1 106 [.bool false, .int .i64 xb, .bool false, .int .i64 xo, .bool xl]
  have hal := (Chg.refl [] w1).alloc (.cells #[.bool false, .int .i64 xb, .bool false, .int .i64 xo, .bool xl] 106)
  obtain ⟨gX, hgX⟩ : ∃ gX, gX = w1.heap.size := ⟨_, rfl⟩
  have HGX := Lib.hid (show g < gX ∧ ∀ b, v1.ownBlock = some b → b < gX from ⟨by have := HW1.out.rec_.lt; omega, fun b hb => by have := (HW1.out.own.lt b hb).2; omega⟩)
  rw [← hgX] at hX ⊢
  have HX := Lib.hid hX
  have HW2 := Lib.hid (HW1.out.keep hal)
  have HF2 := Lib.hid (HF1.out.new hal)
  generalize w1.alloc (.cells #[.bool false, .int .i64 xb, .bool false, .int .i64 xo, .bool xl] 106) = w2 at HX HW2 HF2 ⊢
  clear hX hal hgX c0 HW1 HF1
  have c0 := HW2.out.rec_.cell 0
  have x2 := HX.out.cell 2
  have x3 := HX.out.cell 3
  have f2 := HX.out.frozen 2
  have f3 := HX.out.frozen 3
  go_upto_region 3 with fail
  have hne : g ≠ gX := by have := HGX.out.1; omega
  have hnv : v1.ownBlock ≠ some gX := fun e => by have := HGX.out.2 gX e; omega
  have HX3 := Lib.hid (show Whole ((w2.setCell ⟨gX, 2, none⟩ (.bool true)).setCell ⟨gX, 3, none⟩ (.int .i64 h)) gX 106 [.bool false, .int .i64 xb, .bool true, .int .i64 h, .bool xl] from by have := (HX.out.set_ 2 (.bool true)).set_ 3 (.int .i64 h); simpa using this)
  have HW3 := Lib.hid ((HW2.out.far (p := ⟨gX, 2, none⟩) hne hnv (.bool true)).far (p := ⟨gX, 3, none⟩) hne hnv (.int .i64 h))
  have HF3 := Lib.hid ((HF2.out.setw HX.out (j := 2) (by have := HGX.out.1; omega) (by simp [wkT]) (.bool true)).setw (HX.out.set_ 2 (.bool true)) (j := 3) (by have := HGX.out.1; omega) (by simp [wkT]) (.int .i64 h))
  generalize (w2.setCell ⟨gX, 2, none⟩ (.bool true)).setCell ⟨gX, 3, none⟩ (.int .i64 h) = w3 at HX3 HW3 HF3 ⊢
  clear c0 x2 x3 f2 f3 hne hnv HX HW2 HF2
  have x0 := HX3.out.cell 0
  have x1 := HX3.out.cell 1
  have x2 := HX3.out.cell 2
  have x3 := HX3.out.cell 3
  have x4 := HX3.out.cell 4
  obtain ⟨A3, n3, c3, hv1, hn3, hc3⟩ := HW3.out.slice
  subst hv1
  have k1 := HW3.out.rec_.cell 1
  have hal : Chg [] w3 (w3.alloc (.cells #[.bool false, .int .i64 xb, .bool true, .int .i64 h, .bool xl] 106)) := (Chg.refl [] w3).alloc _
  have q1 : (w3.alloc (.cells #[.bool false, .int .i64 xb, .bool true, .int .i64 h, .bool xl] 106)).cell? ⟨g, 1, none⟩ = some (.slice A3 n3 c3) := cell_keep (by simpa using k1) hal
  have HOW := Lib.hid (show w3.ownsRow (g + 1) 106 5 (.slice A3 n3 c3) n3 (ptCs ys) from by have := HW3.out.own; rw [← hn3] at this; exact this)
  have hBW : g + 1 ≤ w3.heap.size := HW3.out.rec_.lt
  have HN := Lib.hid hn3
  have hn99 : n3 ≤ 99 := by omega
  clear hn3 hal
  go_region_law (
    (refine step_append_n rfl (.tmp 15) (.tmp 17) 75 rfl (g + 1) 106 i0 _ 5 40 Try.underlying75 hi0 hz0 hz1 hz2 rfl (by decide) (.slice A3 n3 c3) n3 (ptCs ys) rfl (rown_keep HOW.out (((Chg.refl [] w3).alloc _).drew)) ⟨w3.heap.size, 0, none⟩ 1 1 [.bool false, .int .i64 xb, .bool true, .int .i64 h, .bool xl] rfl rfl (cells_page w3 _ _) (by simp [Value.oneCell']) (by unfold maxLen; omega) (by omega) (by simp; omega) ?_
     intro v' w' ho hg
     obtain ⟨A6, k6, rfl, _⟩ := rown_slice ho
     have HO := Lib.hid ho
     have HG := Lib.hid hg
     have HR6 := Lib.hid (whole_grown (HW3.out.rec_.keep (((Chg.refl [] w3).alloc (.cells #[.bool false, .int .i64 xb, .bool true, .int .i64 h, .bool xl] 106)).drew)) (rown_keep HW3.out.own (((Chg.refl [] w3).alloc (.cells #[.bool false, .int .i64 xb, .bool true, .int .i64 h, .bool xl] 106)).drew)) (by decide) hg)
     have f1 := HR6.out.frozen 1
     have k1 := HR6.out.cell 1
     clear ho hg))
  all_goals
    obtain ⟨hP, hF⟩ := HW3.out.push (x := ⟨58, xb, h, xl⟩) (((Chg.refl [] w3).alloc (.cells #[.bool false, .int .i64 xb, .bool true, .int .i64 h, .bool xl] 106)).drew) (by have := HN.out; omega) HO.out HG.out hf (by have := HRB.out; have := HHR.out; simp only; omega)
    have HP := Lib.hid hP
    have HFF := Lib.hid (HF3.out.trans hF)
    have HXw := Lib.hid ((HX3.out.keep (((Chg.refl [] w3).alloc (.cells #[.bool false, .int .i64 xb, .bool true, .int .i64 h, .bool xl] 106)).drew)).grownNe HG.out (fun e => by have := HGX.out.2 gX e; omega))
    have HXv := Lib.hid (HXw.out.far (p := ⟨g, 1, none⟩) (by have := HGX.out.1; simp only; omega) (.slice A6 (n3 + 1) k6))
    clear hP hF
    go_upto_region 4 with fail
    generalize hw5 : w'.setCell ⟨g, 1, none⟩ (.slice A6 (n3 + 1) k6) = w5 at HP HFF HXv ⊢
    clear hw5 f1 k1 HXw HO HG HR6
    have c0 := HP.out.rec_.cell 0
    have f0 := HP.out.rec_.frozen 0
    have x1 := HXv.out.cell 1
    go_wp2_with fail
    obtain ⟨hP2, hF2⟩ := HP.out.high xb (by have := HRB.out; omega)
    have HQ := Lib.hid (show WVoid W g xb (ys ++ [⟨58, xb, h, xl⟩]) (.returned (.tuple #[])) _ from ⟨rfl, _, hP2, HFF.out.trans hF2⟩)
    go_end0
    exact HQ.out
end
end Go.Proofs.Ytafgpmempgoikaa
