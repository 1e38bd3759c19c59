/-
  PB: WkHalve, WkEnd.
-/
import Derived.Test.YtbkfhndmeljlcaaGreatDoorZPB20
namespace Go.Proofs.YtbkfhndmeljlcaaGreatDoor
open Go.RowKit
theorem Whole.grownNe {w w' : World} {g t : Nat} {cs : List Value} {row : Option Nat} (h : Whole w g t cs) (hg : w.grownBy w' row) (hne : row ≠ some g) : Whole w' g t cs := (hg.block g h.lt (fun e => hne e.symm)).trans h
section
variable {W : World} {g : Nat} {h : Int} {v : Value} {bs ys : List BkV} {x : BkV}
def WVoid (W : World) (g : Nat) (h : Int) (bs : List BkV) (e : Ending) (w' : World) : Prop := e = .returned (.tuple #[]) ∧ ∃ v', Wk w' g h v' bs ∧ Fr g wkT W w'
set_option maxHeartbeats 8000000 in
set_option maxRecDepth 100000 in
theorem whalve_any (s : Wk W g h v (ys ++ [x])) (hx : x.sign = 63) : Calls Tryz.prog 129 #[.pointer (some ⟨g, 0, none⟩)] W (WVoid W g x.base (ys ++ [⟨58, x.base, h, x.left⟩])) := by
  obtain ⟨i0, hi0, hz0, hz1, hz2⟩ := info_parts info_cpart
  have HRB := Lib.hid (s.rb x (by simp))
  have HSH := Lib.hid (shut_any s)
  have hf : ys.length ≤ 99 := by have := s.few; rw [List.length_append, List.length_singleton] at this; omega
  have HHR := Lib.hid s.hr
  obtain ⟨sg, xb, xo, xl⟩ := x
  simp only at hx HRB
  subst hx
  simp only
  clear s
  go_enter Tryz.func129, Tryz.ntmps129
  go_wp2_with fail
  refine HSH.out.mono ?_
  rintro e w1 ⟨v1, rfl, hw1, hf1⟩
  have HW1 := Lib.hid hw1
  have HF1 := Lib.hid hf1
  have c0 := hw1.rec_.cell 0
  clear hw1 hf1
  have e1 : (ptC ⟨63, xb, xo, xl⟩).toArray = #[.bool false, .int .i64 xb, .bool false, .int .i64 xo, .bool xl] := rfl
  rw [e1]
  clear e1
  go_upto_region 1 with fail
  have hX := Whole.new w1 171 [.bool false, .int .i64 xb, .bool false, .int .i64 xo, .bool xl]
  have hal := (Chg.refl [] w1).alloc (.cells #[.bool false, .int .i64 xb, .bool false, .int .i64 xo, .bool xl] 171)
  obtain ⟨gX, hgX⟩ : ∃ gX, gX = w1.heap.size := ⟨_, rfl⟩
  have HGX := Lib.hid (show g < gX ∧ ∀ b, v1.ownBlock = some b → b < gX from ⟨by have := HW1.out.rec_.lt; omega, fun b hb => by have := (HW1.out.own.lt b hb).2; omega⟩)
  rw [← hgX] at hX ⊢
  have HX := Lib.hid hX
  have HW2 := Lib.hid (HW1.out.keep hal)
  have HF2 := Lib.hid (HF1.out.new hal)
  generalize w1.alloc (.cells #[.bool false, .int .i64 xb, .bool false, .int .i64 xo, .bool xl] 171) = w2 at HX HW2 HF2 ⊢
  clear hX hal hgX c0 HW1 HF1
  have c0 := HW2.out.rec_.cell 0
  have x2 := HX.out.cell 2
  have x3 := HX.out.cell 3
  have f2 := HX.out.frozen 2
  have f3 := HX.out.frozen 3
  go_upto_region 3 with fail
  have hne : g ≠ gX := by have := HGX.out.1; omega
  have hnv : v1.ownBlock ≠ some gX := fun e => by have := HGX.out.2 gX e; omega
  have HX3 := Lib.hid (show Whole ((w2.setCell ⟨gX, 2, none⟩ (.bool true)).setCell ⟨gX, 3, none⟩ (.int .i64 h)) gX 171 [.bool false, .int .i64 xb, .bool true, .int .i64 h, .bool xl] from by have := (HX.out.set_ 2 (.bool true)).set_ 3 (.int .i64 h); simpa using this)
  have HW3 := Lib.hid ((HW2.out.far (p := ⟨gX, 2, none⟩) hne hnv (.bool true)).far (p := ⟨gX, 3, none⟩) hne hnv (.int .i64 h))
  have HF3 := Lib.hid ((HF2.out.setw HX.out (j := 2) (by have := HGX.out.1; omega) (by simp [wkT]) (.bool true)).setw (HX.out.set_ 2 (.bool true)) (j := 3) (by have := HGX.out.1; omega) (by simp [wkT]) (.int .i64 h))
  generalize (w2.setCell ⟨gX, 2, none⟩ (.bool true)).setCell ⟨gX, 3, none⟩ (.int .i64 h) = w3 at HX3 HW3 HF3 ⊢
  clear c0 x2 x3 f2 f3 hne hnv HX HW2 HF2
  have x0 := HX3.out.cell 0
  have x1 := HX3.out.cell 1
  have x2 := HX3.out.cell 2
  have x3 := HX3.out.cell 3
  have x4 := HX3.out.cell 4
  obtain ⟨A3, n3, c3, hv1, hn3, hc3⟩ := HW3.out.slice
  subst hv1
  have k1 := HW3.out.rec_.cell 1
  have hal : Chg [] w3 (w3.alloc (.cells #[.bool false, .int .i64 xb, .bool true, .int .i64 h, .bool xl] 171)) := (Chg.refl [] w3).alloc _
  have q1 : (w3.alloc (.cells #[.bool false, .int .i64 xb, .bool true, .int .i64 h, .bool xl] 171)).cell? ⟨g, 1, none⟩ = some (.slice A3 n3 c3) := cell_keep (by simpa using k1) hal
  have HOW := Lib.hid (show w3.ownsRow (g + 1) 171 5 (.slice A3 n3 c3) n3 (ptCs ys) from by have := HW3.out.own; rw [← hn3] at this; exact this)
  have hBW : g + 1 ≤ w3.heap.size := HW3.out.rec_.lt
  have HN := Lib.hid hn3
  have hn99 : n3 ≤ 99 := by omega
  clear hn3 hal
  go_region_law (
    (refine step_append_n rfl (.tmp 15) (.tmp 17) 143 rfl (g + 1) 171 i0 _ 5 40 Tryz.underlying143 hi0 hz0 hz1 hz2 rfl (by decide) (.slice A3 n3 c3) n3 (ptCs ys) rfl (rown_keep HOW.out (((Chg.refl [] w3).alloc _).drew)) ⟨w3.heap.size, 0, none⟩ 1 1 [.bool false, .int .i64 xb, .bool true, .int .i64 h, .bool xl] rfl rfl (cells_page w3 _ _) (by simp [Value.oneCell']) (by unfold maxLen; omega) (by omega) (by simp; omega) ?_
     intro v' w' ho hg
     obtain ⟨A6, k6, rfl, _⟩ := rown_slice ho
     have HO := Lib.hid ho
     have HG := Lib.hid hg
     have HR6 := Lib.hid (whole_grown (HW3.out.rec_.keep (((Chg.refl [] w3).alloc (.cells #[.bool false, .int .i64 xb, .bool true, .int .i64 h, .bool xl] 171)).drew)) (rown_keep HW3.out.own (((Chg.refl [] w3).alloc (.cells #[.bool false, .int .i64 xb, .bool true, .int .i64 h, .bool xl] 171)).drew)) (by decide) hg)
     have f1 := HR6.out.frozen 1
     have k1 := HR6.out.cell 1
     clear ho hg))
  all_goals
    obtain ⟨hP, hF⟩ := HW3.out.push (x := ⟨58, xb, h, xl⟩) (((Chg.refl [] w3).alloc (.cells #[.bool false, .int .i64 xb, .bool true, .int .i64 h, .bool xl] 171)).drew) (by have := HN.out; omega) HO.out HG.out hf (by have := HRB.out; have := HHR.out; simp only; omega)
    have HP := Lib.hid hP
    have HFF := Lib.hid (HF3.out.trans hF)
    have HXw := Lib.hid ((HX3.out.keep (((Chg.refl [] w3).alloc (.cells #[.bool false, .int .i64 xb, .bool true, .int .i64 h, .bool xl] 171)).drew)).grownNe HG.out (fun e => by have := HGX.out.2 gX e; omega))
    have HXv := Lib.hid (HXw.out.far (p := ⟨g, 1, none⟩) (by have := HGX.out.1; simp only; omega) (.slice A6 (n3 + 1) k6))
    clear hP hF
    go_upto_region 4 with fail
    generalize hw5 : w'.setCell ⟨g, 1, none⟩ (.slice A6 (n3 + 1) k6) = w5 at HP HFF HXv ⊢
    clear hw5 f1 k1 HXw HO HG HR6
    have c0 := HP.out.rec_.cell 0
    have f0 := HP.out.rec_.frozen 0
    have x1 := HXv.out.cell 1
    go_wp2_with fail
    obtain ⟨hP2, hF2⟩ := HP.out.high xb (by have := HRB.out; omega)
    have HQ := Lib.hid (show WVoid W g xb (ys ++ [⟨58, xb, h, xl⟩]) (.returned (.tuple #[])) _ from ⟨rfl, _, hP2, HFF.out.trans hF2⟩)
    go_end0
    exact HQ.out
end
end Go.Proofs.YtbkfhndmeljlcaaGreatDoor
namespace Go.Proofs.YtbkfhndmeljlcaaGreatDoor
open Go.RowKit
def eEnd (h : Int) (ys : List BkV) (x : BkV) (r : Int) : Int × Int × List BkV := match rEnds h ys x r with | (true, h', bs') => (0, h', bs') | (false, h', bs') => (14, h', bs')
theorem end_58 {h : Int} {ys : List BkV} {x : BkV} (hx : x.sign = 58) (ho : -1 ≤ x.other) (hh : -1 ≤ h) : eEnd h ys x 59 = if h = -1 then (0, x.other, ys) else if x.other ≠ -1 ∧ x.other ≠ h then (14, h, ys) else (0, h, ys) := by
  unfold eEnd rEnds
  rw [if_neg (by omega), if_pos hx]
  by_cases h1 : h = -1
  · rw [if_pos h1, if_neg (by omega)]
    simp only
    rw [show max h x.other = x.other from by omega]
  · rw [if_neg h1]
    by_cases h2 : x.other ≠ -1 ∧ x.other ≠ h
    · rw [if_pos h2, if_pos (by omega)]
    · rw [if_neg h2, if_neg (by omega)]
      simp only
      rw [show max h x.other = h from by omega]
theorem end_63 {h : Int} {ys : List BkV} {x : BkV} (hx : x.sign ≠ 58) (hx2 : x.sign ≠ 91) (ho : 0 ≤ x.base) (hh : -1 ≤ h) : eEnd h ys x 59 = if h = -1 then (0, x.base, ys) else if x.base ≠ -1 ∧ x.base ≠ h then (14, h, ys) else (0, h, ys) := by
  unfold eEnd rEnds
  rw [if_neg (by omega), if_neg hx]
  by_cases h1 : h = -1
  · rw [if_pos h1, if_neg (by omega)]
    simp only
    rw [if_neg (fun hc => hx2 hc.1)]
  · rw [if_neg h1]
    by_cases h2 : x.base ≠ -1 ∧ x.base ≠ h
    · rw [if_pos h2, if_pos (by omega)]
    · rw [if_neg h2, if_neg (by omega)]
      simp only
      rw [if_neg (fun hc => hx2 hc.1), show x.base = h from by omega]
theorem end_91 {h : Int} {ys : List BkV} {x : BkV} (hx : x.sign = 91) (hh : -1 ≤ h) : eEnd h ys x 93 = if h ≠ -1 ∧ h ≠ x.base then (14, h, ys) else if x.left = true then (0, x.base, ys) else (0, -1, ys) := by
  unfold eEnd rEnds
  rw [if_neg (by omega), if_neg (by omega)]
  by_cases h1 : h ≠ -1 ∧ h ≠ x.base
  · rw [if_pos h1, if_pos (by omega)]
  · rw [if_neg h1, if_neg (by omega)]
    simp only
    cases hl : x.left with
    | true => rw [if_neg (by simp), if_pos rfl]
    | false => rw [if_pos ⟨hx, rfl⟩, if_neg (by simp)]
section
variable {W : World} {g : Nat} {h : Int} {v : Value} {bs ys : List BkV} {x : BkV}
set_option maxHeartbeats 8000000 in
set_option maxRecDepth 100000 in
theorem wendif_any (s : Wk W g h v (ys ++ [x])) (hx : x.sign ≠ 91) : Calls Tryz.prog 130 #[.pointer (some ⟨g, 0, none⟩)] W (WPost W g (eEnd h ys x 59)) := by
  have HRB := Lib.hid (s.rb x (by simp))
  have HSH := Lib.hid (shut_any s)
  have HHR := Lib.hid s.hr
  generalize hb91 : (x.sign == 91) = b91
  generalize hb58 : (x.sign == 58) = b58
  have HPX := Lib.hid (show (ptC x).toArray = #[.bool b91, .int .i64 x.base, .bool b58, .int .i64 x.other, .bool x.left] from by unfold ptC; rw [hb91, hb58])
  have HE := Lib.hid (show b58 = true → eEnd h ys x 59 = if h = -1 then (0, x.other, ys) else if x.other ≠ -1 ∧ x.other ≠ h then (14, h, ys) else (0, h, ys) from fun hb => end_58 (by rw [hb] at hb58; simpa using hb58) HRB.out.2.2.1 HHR.out.1)
  have HE2 := Lib.hid (show b58 = false → eEnd h ys x 59 = if h = -1 then (0, x.base, ys) else if x.base ≠ -1 ∧ x.base ≠ h then (14, h, ys) else (0, h, ys) from fun hb => end_63 (by rw [hb] at hb58; simpa using hb58) hx HRB.out.1 HHR.out.1)
  generalize eEnd h ys x 59 = R at HE HE2 ⊢
  clear s hb91 hb58 hx
  generalize x.base = xb at *
  generalize x.other = xo at *
  generalize x.left = xl at *
  go_enter Tryz.func130, Tryz.ntmps130
  go_wp2_with fail
  refine HSH.out.mono ?_
  rintro e w1 ⟨v1, rfl, hw1, hf1⟩
  rw [HPX.out]
  have HW1 := Lib.hid hw1
  have HF1 := Lib.hid hf1
  clear hw1 hf1
  go_upto_region 2 with fail
  have hX := Whole.new w1 171 [.bool b91, .int .i64 xb, .bool b58, .int .i64 xo, .bool xl]
  have hal := (Chg.refl [] w1).alloc (.cells #[.bool b91, .int .i64 xb, .bool b58, .int .i64 xo, .bool xl] 171)
  obtain ⟨gX, hgX⟩ : ∃ gX, gX = w1.heap.size := ⟨_, rfl⟩
  have hgg : g < gX := by have := HW1.out.rec_.lt; omega
  have hgv : ∀ b, v1.ownBlock = some b → b < gX := fun b hb => by have := (HW1.out.own.lt b hb).2; omega
  have HGX := Lib.hid (And.intro hgg hgv)
  clear hgg hgv
  rw [← hgX] at hX ⊢
  have HX := Lib.hid hX
  have HW2 := Lib.hid (HW1.out.keep hal)
  have HF2 := Lib.hid (HF1.out.new hal)
  generalize w1.alloc (.cells #[.bool b91, .int .i64 xb, .bool b58, .int .i64 xo, .bool xl] 171) = w2 at HX HW2 HF2 ⊢
  clear hX hal hgX HW1 HF1
  have c0 := HW2.out.rec_.cell 0
  have g0 := HW2.out.rec_.frozen 0
  have x1 := HX.out.cell 1
  have x2 := HX.out.cell 2
  have x3 := HX.out.cell 3
  have x4 := HX.out.cell 4
  have f3 := HX.out.frozen 3
  have hne : g ≠ gX := by have := HGX.out.1; omega
  have hnv : v1.ownBlock ≠ some gX := fun e => by have := HGX.out.2 gX e; omega
  have HHI := Lib.hid (show -1 ≤ xo ∧ xo ≤ 64 ∧ 0 ≤ xb ∧ xb ≤ 64 from ⟨HRB.out.2.2.1, HRB.out.2.2.2, HRB.out.1, HRB.out.2.1⟩)
  go_upto_if 8 with fail
  go_cut [] (fun wx => ∃ t : Int, Hid (R = if h = -1 then (0, t, ys) else if t ≠ -1 ∧ t ≠ h then (14, h, ys) else (0, h, ys)) ∧ Hid (-1 ≤ t ∧ t ≤ 64) ∧ Hid (Whole wx gX 171 [.bool b91, .int .i64 xb, .bool b58, .int .i64 t, .bool xl]) ∧ Hid (Wk wx g h v1 ys) ∧ Hid (Fr g wkT W wx))
  case first =>
    cases b58 with
    | true =>
      go_wp2_with fail
      go_meet
      exact ⟨xo, Lib.hid (HE.out (by first | rfl | trivial)), Lib.hid ⟨HHI.out.1, HHI.out.2.1⟩, HX, HW2, HF2⟩
    | false =>
      have hX3 := HX.out.set_ 3 (.int .i64 xb)
      have hW3 := HW2.out.far (p := ⟨gX, 3, none⟩) hne hnv (.int .i64 xb)
      have hF3 := HF2.out.setw HX.out (j := 3) (by have := HGX.out.1; omega) (by simp [wkT]) (.int .i64 xb)
      go_wp2_with fail
      go_meet
      exact ⟨xb, Lib.hid (HE2.out (by first | rfl | trivial)), Lib.hid ⟨by have := HHI.out.2.2.1; omega, HHI.out.2.2.2⟩, Lib.hid (by simpa using hX3), Lib.hid hW3, Lib.hid hF3⟩
  case rest =>
    obtain ⟨t, HR, HT, HXt, HWt, HFt⟩ := hcut
    obtain ⟨w3, rfl⟩ : ∃ w3 : World, w3 = wc := ⟨_, rfl⟩
    clear c0 g0 x1 x2 x3 x4 f3 HX HW2 HF2
    have c0 := HWt.out.rec_.cell 0
    have g0 := HWt.out.rec_.frozen 0
    have x3 := HXt.out.cell 3
    by_cases h1 : h = -1
    · subst h1
      obtain ⟨hP2, hF2⟩ := HWt.out.high t HT.out
      have HQ := Lib.hid (show WPost W g R (.returned (.int .i64 0)) _ from ⟨HFt.out.trans hF2, by rw [HR.out, if_pos rfl], fun _ => by rw [HR.out, if_pos rfl]; exact ⟨_, hP2⟩⟩)
      clear hP2 hF2
      go_wp2_with fail
      go_ret
      exact HQ.out
    · have q1 : (h == -1) = false := by simpa using h1
      by_cases ht : t = -1
      · have qt : (t != -1) = false := by simpa using ht
        have HQ := Lib.hid (fun (W' : World) (hc : Chg [] w3 W') => show WPost W g R (.returned (.int .i64 0)) W' from ⟨HFt.out.new hc, by rw [HR.out, if_neg h1, if_neg (fun hh => hh.1 ht)], fun _ => by rw [HR.out, if_neg h1, if_neg (fun hh => hh.1 ht)]; exact ⟨_, HWt.out.keep hc⟩⟩)
        have qt2 : (t == -1) = true := by simpa using ht
        clear ht h1
        go_upto_region 6 with fail
        go_quiet (fail)
        have HQ2 := Lib.hid (HQ.out _ ((Chg.refl [] w3).drewN nq))
        go_wp2_with fail
        go_ret
        exact HQ2.out
      · have qt : (t != -1) = true := by simpa using ht
        have qt2 : (t == -1) = false := by simpa using ht
        by_cases hth : t = h
        · have qh : (t != h) = false := by simpa using hth
          have qh2 : (t == h) = true := by simpa using hth
          have HQ := Lib.hid (fun (W' : World) (hc : Chg [] w3 W') => show WPost W g R (.returned (.int .i64 0)) W' from ⟨HFt.out.new hc, by rw [HR.out, if_neg h1, if_neg (fun hh => hh.2 hth)], fun _ => by rw [HR.out, if_neg h1, if_neg (fun hh => hh.2 hth)]; exact ⟨_, HWt.out.keep hc⟩⟩)
          clear ht h1 hth
          go_upto_region 6 with fail
          go_quiet (fail)
          have HQ2 := Lib.hid (HQ.out _ ((Chg.refl [] w3).drewN nq))
          go_wp2_with fail
          go_ret
          exact HQ2.out
        · have qh : (t != h) = true := by simpa using hth
          have qh2 : (t == h) = false := by simpa using hth
          have HQ := Lib.hid (fun (W' : World) (hc : Chg [] w3 W') => show WPost W g R (.returned (.int .i64 14)) W' from ⟨HFt.out.new hc, by rw [HR.out, if_neg h1, if_pos ⟨ht, hth⟩], fun hh => by rw [HR.out, if_neg h1, if_pos ⟨ht, hth⟩] at hh; exact absurd hh (by simp)⟩)
          clear ht h1 hth
          go_upto_region 6 with fail
          go_quiet (fail)
          have HQ2 := Lib.hid (HQ.out _ ((Chg.refl [] w3).drewN nq))
          go_wp2_with fail
          go_ret
          exact HQ2.out
set_option maxHeartbeats 8000000 in
set_option maxRecDepth 100000 in
theorem wendloop_any (s : Wk W g h v (ys ++ [x])) (hx : x.sign = 91) : Calls Tryz.prog 131 #[.pointer (some ⟨g, 0, none⟩)] W (WPost W g (eEnd h ys x 93)) := by
  have HRB := Lib.hid (s.rb x (by simp))
  have HSH := Lib.hid (shut_any s)
  have HHR := Lib.hid s.hr
  generalize hb91 : (x.sign == 91) = b91
  generalize hb58 : (x.sign == 58) = b58
  have HPX := Lib.hid (show (ptC x).toArray = #[.bool b91, .int .i64 x.base, .bool b58, .int .i64 x.other, .bool x.left] from by unfold ptC; rw [hb91, hb58])
  have HR := Lib.hid (end_91 (ys := ys) hx HHR.out.1)
  generalize eEnd h ys x 93 = R at HR ⊢
  clear s hb91 hb58 hx
  generalize x.base = xb at *
  generalize x.other = xo at *
  generalize x.left = xl at *
  go_enter Tryz.func131, Tryz.ntmps131
  go_wp2_with fail
  refine HSH.out.mono ?_
  rintro e w1 ⟨v1, rfl, hw1, hf1⟩
  rw [HPX.out]
  have HW1 := Lib.hid hw1
  have HF1 := Lib.hid hf1
  clear hw1 hf1
  go_upto_region 2 with fail
  have hX := Whole.new w1 171 [.bool b91, .int .i64 xb, .bool b58, .int .i64 xo, .bool xl]
  have hal := (Chg.refl [] w1).alloc (.cells #[.bool b91, .int .i64 xb, .bool b58, .int .i64 xo, .bool xl] 171)
  obtain ⟨gX, hgX⟩ : ∃ gX, gX = w1.heap.size := ⟨_, rfl⟩
  have hgg : g < gX := by have := HW1.out.rec_.lt; omega
  have hgv : ∀ b, v1.ownBlock = some b → b < gX := fun b hb => by have := (HW1.out.own.lt b hb).2; omega
  have HGX := Lib.hid (And.intro hgg hgv)
  clear hgg hgv
  rw [← hgX] at hX ⊢
  have HX := Lib.hid hX
  have HW2 := Lib.hid (HW1.out.keep hal)
  have HF2 := Lib.hid (HF1.out.new hal)
  generalize w1.alloc (.cells #[.bool b91, .int .i64 xb, .bool b58, .int .i64 xo, .bool xl] 171) = w2 at HX HW2 HF2 ⊢
  clear hX hal hgX HW1 HF1
  have c0 := HW2.out.rec_.cell 0
  have g0 := HW2.out.rec_.frozen 0
  have x1 := HX.out.cell 1
  have x2 := HX.out.cell 2
  have x3 := HX.out.cell 3
  have x4 := HX.out.cell 4
  have f3 := HX.out.frozen 3
  have HHI := Lib.hid (show 0 ≤ xb ∧ xb ≤ 64 from ⟨HRB.out.1, HRB.out.2.1⟩)
  by_cases hbad : h ≠ -1 ∧ h ≠ xb
  · have HQ := Lib.hid (fun (W' : World) (hc : Chg [] w2 W') => show WPost W g R (.returned (.int .i64 14)) W' from ⟨HF2.out.new hc, by rw [HR.out, if_pos hbad], fun hh => by rw [HR.out, if_pos hbad] at hh; exact absurd hh (by simp)⟩)
    have q1 : (h != -1) = true := by simpa using hbad.1
    have q2 : (h != xb) = true := by simpa using hbad.2
    have q3 : (h == -1) = false := by simpa using hbad.1
    have q4 : (h == xb) = false := by simpa using hbad.2
    clear hbad
    go_quiet (fail)
    have HQ2 := Lib.hid (HQ.out _ ((Chg.refl [] w2).drewN nq))
    go_wp2_with fail
    go_ret
    exact HQ2.out
  · have hR2 := HR.out
    rw [if_neg hbad] at hR2
    have HR2 := Lib.hid hR2
    have hcase : h = -1 ∨ (h ≠ -1 ∧ h = xb) := by omega
    clear hR2 hbad
    have HCX := Lib.hid (fun (W' : World) (hc : Chg [] w2 W') => show Wk W' g h v1 ys ∧ Fr g wkT W W' ∧ Whole W' gX 171 [.bool b91, .int .i64 xb, .bool b58, .int .i64 xo, .bool xl] from ⟨HW2.out.keep hc, HF2.out.new hc, HX.out.keep hc⟩)
    rcases hcase with h1 | ⟨h1, h2⟩
    · have q1 : (h != -1) = false := by simpa using h1
      have q3 : (h == -1) = true := by simpa using h1
      clear h1
      go_quiet (fail)
      obtain ⟨hwA, hfA, hxA⟩ := HCX.out _ ((Chg.refl [] w2).drewN nq)
      generalize w2.drewN nq = w3 at hwA hfA hxA ⊢
      have HWA := Lib.hid hwA
      have HFA := Lib.hid hfA
      have HXA := Lib.hid hxA
      clear hwA hfA hxA c0 g0 x1 x2 x3 x4 f3
      have c0 := HWA.out.rec_.cell 0
      have g0 := HWA.out.rec_.frozen 0
      go_upto_region 5 with fail
      have HWB := Lib.hid (HWA.out.high (-1) (by omega))
      have HXB := Lib.hid (HXA.out.far (p := ⟨g, 0, none⟩) (by have := HGX.out.1; simp only; omega) (.int .i64 (-1)))
      generalize w3.setCell ⟨g, 0, none⟩ (.int .i64 (-1)) = w4 at HWB HXB ⊢
      clear c0 g0
      have c0 := HWB.out.1.rec_.cell 0
      have g0 := HWB.out.1.rec_.frozen 0
      have x1 := HXB.out.cell 1
      have x4 := HXB.out.cell 4
      cases xl with
      | true =>
        have HWC := Lib.hid (HWB.out.1.high xb (by have := HHI.out; omega))
        have HQ := Lib.hid (show WPost W g R (.returned (.int .i64 0)) _ from ⟨(HFA.out.trans HWB.out.2).trans HWC.out.2, by rw [HR2.out, if_pos (by first | rfl | trivial)], fun _ => by rw [HR2.out, if_pos (by first | rfl | trivial)]; exact ⟨_, HWC.out.1⟩⟩)
        go_wp2_with fail
        go_ret
        exact HQ.out
      | false =>
        have HQ := Lib.hid (show WPost W g R (.returned (.int .i64 0)) _ from ⟨HFA.out.trans HWB.out.2, by rw [HR2.out, if_neg (by simp)], fun _ => by rw [HR2.out, if_neg (by simp)]; exact ⟨_, HWB.out.1⟩⟩)
        go_wp2_with fail
        go_ret
        exact HQ.out
    · have q1 : (h != -1) = true := by simpa using h1
      have q3 : (h == -1) = false := by simpa using h1
      have q2 : (h != xb) = false := by simpa using h2
      have q4 : (h == xb) = true := by simpa using h2
      clear h1 h2
      go_quiet (fail)
      obtain ⟨hwA, hfA, hxA⟩ := HCX.out _ ((Chg.refl [] w2).drewN nq)
      generalize w2.drewN nq = w3 at hwA hfA hxA ⊢
      have HWA := Lib.hid hwA
      have HFA := Lib.hid hfA
      have HXA := Lib.hid hxA
      clear hwA hfA hxA c0 g0 x1 x2 x3 x4 f3
      have c0 := HWA.out.rec_.cell 0
      have g0 := HWA.out.rec_.frozen 0
      go_upto_region 5 with fail
      have HWB := Lib.hid (HWA.out.high (-1) (by omega))
      have HXB := Lib.hid (HXA.out.far (p := ⟨g, 0, none⟩) (by have := HGX.out.1; simp only; omega) (.int .i64 (-1)))
      generalize w3.setCell ⟨g, 0, none⟩ (.int .i64 (-1)) = w4 at HWB HXB ⊢
      clear c0 g0
      have c0 := HWB.out.1.rec_.cell 0
      have g0 := HWB.out.1.rec_.frozen 0
      have x1 := HXB.out.cell 1
      have x4 := HXB.out.cell 4
      cases xl with
      | true =>
        have HWC := Lib.hid (HWB.out.1.high xb (by have := HHI.out; omega))
        have HQ := Lib.hid (show WPost W g R (.returned (.int .i64 0)) _ from ⟨(HFA.out.trans HWB.out.2).trans HWC.out.2, by rw [HR2.out, if_pos (by first | rfl | trivial)], fun _ => by rw [HR2.out, if_pos (by first | rfl | trivial)]; exact ⟨_, HWC.out.1⟩⟩)
        go_wp2_with fail
        go_ret
        exact HQ.out
      | false =>
        have HQ := Lib.hid (show WPost W g R (.returned (.int .i64 0)) _ from ⟨HFA.out.trans HWB.out.2, by rw [HR2.out, if_neg (by simp)], fun _ => by rw [HR2.out, if_neg (by simp)]; exact ⟨_, HWB.out.1⟩⟩)
        go_wp2_with fail
        go_ret
        exact HQ.out
end
end Go.Proofs.YtbkfhndmeljlcaaGreatDoor
