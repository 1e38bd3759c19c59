/-
  PN: GlTake.
-/
import Derived.Test.YtbkfhndmeljlcaaGreatDoorZPN17
namespace Go.Proofs.YtbkfhndmeljlcaaGreatDoor
open Go.RowKit
section
variable {W W' : World} {g : Nat} {v : Value} {ys : List TkV} {ph : GPh}
/-- No digit more. -/
theorem Gl.done_ (h : Gl W g v ys ph) (hw : waits ph = false) (hf : ys.length ≤ 900) : Gl (W.setCell ⟨g, 1, none⟩ (.bool false)) g v (ys ++ pend ph) .idle ∧ Fr g glT W (W.setCell ⟨g, 1, none⟩ (.bool false)) := by
  have hp := pend_len ph
  refine ⟨⟨?_, ?_, by rw [List.length_append]; omega, fun m e => by cases e⟩, (Fr.refl g glT W).setw h.rec_ (Nat.le_refl _) (by simp [glT]) _⟩
  · have := h.rec_.set_ 1 (.bool false)
    rw [hw] at this
    exact this
  · have := rown_far (p := ⟨g, 1, none⟩) (u := .bool false) h.own (fun e => h.away e)
    rw [List.length_append]
    simpa [pend] using this
/-- A sign more. -/
theorem Gl.more_ {W2 w3 : World} {v' : Value} {n1 : Nat} {t : TkV} (h : Gl W g v ys .idle) (hc : Chg [] W W2) (hn1 : n1 = ys.length + 1) (ho : w3.ownsRow (g + 1) 110 3 v' n1 (tkCs ys ++ tkC t)) (hg : W2.grownBy w3 v.ownBlock) (hf : ys.length ≤ 950) :
    Gl (w3.setCell ⟨g, 0, none⟩ v') g v' (ys ++ [t]) .idle ∧ Fr g glT W (w3.setCell ⟨g, 0, none⟩ v') := by
  subst hn1
  have ho1 : W.ownsRow (g + 1) 110 3 v ys.length (tkCs ys) := by have := h.own; simpa [pend] using this
  have hr3 := whole_grown (h.rec_.keep hc) (rown_keep ho1 hc) (by decide) hg
  refine ⟨⟨?_, ?_, by rw [List.length_append]; simp; omega, fun m e => by cases e⟩, ?_⟩
  · have := hr3.set_ 0 v'
    simpa [counts, waits] using this
  · have := rown_far (p := ⟨g, 0, none⟩) (u := v') ho (fun e => by have := (ho.lt g e).1; omega)
    rw [List.append_assoc, tkCs_app, show tkCs ([t] ++ pend .idle) = tkC t from by simp [pend, tkCs], List.length_append]
    exact this
  · exact (((Fr.of_chg hc : Fr g glT W W2)).grown (rown_keep ho1 hc) (Nat.le_succ g) (by simp [glT]) hg).setw hr3 (Nat.le_refl _) (by simp [glT]) _
/-- The sign waits for its name, or not. -/
theorem Gl.waits_ {q : Nat} (h : Gl W g v (ys ++ [⟨(q : Int), 0, 0⟩]) .idle) : Gl (W.setCell ⟨g, 2, none⟩ (.bool true)) g v ys (.wait q) := by
  refine ⟨?_, ?_, by have := h.few; rw [List.length_append] at this; omega, fun m e => by cases e⟩
  · have := h.rec_.set_ 2 (.bool true)
    simpa [counts, waits] using this
  · have := rown_far (p := ⟨g, 2, none⟩) (u := .bool true) h.own (fun e => h.away e)
    simpa [pend] using this
theorem Gl.not_ (h : Gl W g v ys .idle) : Gl (W.setCell ⟨g, 2, none⟩ (.bool false)) g v ys .idle := by
  refine ⟨?_, ?_, h.few, fun m e => by cases e⟩
  · have := h.rec_.set_ 2 (.bool false)
    simpa [counts, waits] using this
  · exact rown_far (p := ⟨g, 2, none⟩) (u := .bool false) h.own (fun e => h.away e)
/-- A name comes. -/
theorem Gl.name_ {gr c q : Nat} (h : Gl W g (.slice (some ⟨gr, 0, none⟩) (ys.length + 1) c) ys (.wait q)) {W1 : World} (hW : Chg [] (W.setCell ⟨g, 2, none⟩ (.bool false)) W1) (r : Int) (hf : ys.length ≤ 900) :
    Gl (W1.setCell ⟨gr, ys.length * 3 + 2, none⟩ (.int .i32 r)) g (.slice (some ⟨gr, 0, none⟩) (ys.length + 1) c) (ys ++ [⟨(q : Int), 0, r⟩]) .idle ∧ Fr g glT W (W1.setCell ⟨gr, ys.length * 3 + 2, none⟩ (.int .i32 r)) := by
  have hgr := (h.own.lt gr rfl).1
  have h0 : Whole (W.setCell ⟨g, 2, none⟩ (.bool false)) g 132 [.slice (some ⟨gr, 0, none⟩) (ys.length + 1) c, .bool false, .bool false] := by have := h.rec_.set_ 2 (.bool false); simpa [counts, waits] using this
  have h1 := h0.keep hW
  have h2 := rown_keep (rown_far (p := ⟨g, 2, none⟩) (u := .bool false) h.own (fun e => h.away e)) hW
  have hL0 : Fr g glT W (W.setCell ⟨g, 2, none⟩ (.bool false)) := (Fr.refl g glT W).setw h.rec_ (Nat.le_refl _) (by simp [glT]) _
  refine ⟨⟨h1.far (by simp only; omega) _, ?_, by rw [List.length_append]; simp; omega, fun m e => by cases e⟩, (hL0.new hW).seto h2 (Nat.le_succ g) (by simp [glT]) _⟩
  have h3 := rown_set (j := ys.length * 3 + 2) (u := .int .i32 r) h2
  have e : (tkCs (ys ++ pend (.wait q))).set (ys.length * 3 + 2) (.int .i32 r) = tkCs (ys ++ [⟨(q : Int), 0, r⟩] ++ pend .idle) := by
    rw [tkCs_app, tkCs_app, tkCs_app, List.set_append_right _ _ (by rw [tkCs_len]; omega), tkCs_len, show ys.length * 3 + 2 - ys.length * 3 = 2 from by omega]
    simp [pend, tkCs, tkC]
  rw [e] at h3
  have e2 : (ys ++ [(⟨(q : Int), 0, r⟩ : TkV)]).length + (pend .idle).length = ys.length + (pend (.wait q)).length := by simp [pend]
  rw [e2]
  exact h3
end
section
variable {W : World} {g : Nat} {v : Value} {ys : List TkV}
set_option maxHeartbeats 4000000 in
set_option maxRecDepth 100000 in
theorem gtake_wait {q : Nat} (h : Gl W g v ys (.wait q)) (r : Nat) (hfew : ys.length ≤ 900) : Calls Tryz.prog 88 #[.pointer (some ⟨g, 0, none⟩), .int .i32 (r : Int)] W (GPost W g (gTake ys (.wait q) r)) := by
  obtain ⟨A, n, c, rfl, hn⟩ := h.slice
  have hn2 : n = ys.length + 1 := hn
  obtain ⟨gr, hgr, y2⟩ := rown_cell h.own (j := ys.length * 3 + 2) (u := .int .i32 0) (by rw [← hn]) (by rw [tkCs_app, List.getElem?_append_right (by rw [tkCs_len]; omega), tkCs_len, show ys.length * 3 + 2 - ys.length * 3 = 2 from by omega]; rfl)
  subst hgr
  have hown := h.own
  rw [← hn] at hown
  have fy2 := rown_frozen (j := ys.length * 3 + 2) hown
  have hgr := (hown.lt gr rfl).1
  have r2 := h.rec_.cell 2
  have f2 := h.rec_.frozen 2
  clear hn hown
  subst hn2
  have H := Lib.hid h
  clear h
  obtain ⟨k, hk⟩ : ∃ k, k = ys.length := ⟨_, rfl⟩
  have HK := Lib.hid hk
  rw [← hk] at y2 fy2 hfew r2
  rw [← hk] at H
  have HNM := Lib.hid (fun (W1 : World) (hW : Chg [] (W.setCell ⟨g, 2, none⟩ (.bool false)) W1) => show Gl (W1.setCell ⟨gr, k * 3 + 2, none⟩ (.int .i32 (r : Int))) g (.slice (some ⟨gr, 0, none⟩) (k + 1) c) (ys ++ [⟨(q : Int), 0, (r : Int)⟩]) .idle ∧ Fr g glT W (W1.setCell ⟨gr, k * 3 + 2, none⟩ (.int .i32 (r : Int))) from by
    have h := H.out
    rw [hk] at h ⊢
    exact h.name_ hW (r : Int) (by omega))
  clear hk
  go_enter Tryz.func88, Tryz.ntmps88
  go_upto_region 3 with fail
  have hr1 : Whole (W.setCell ⟨g, 2, none⟩ (.bool false)) g 132 [.slice (some ⟨gr, 0, none⟩) (k + 1) c, .bool false, .bool false] := by have := H.out.rec_.set_ 2 (.bool false); simpa [counts, waits] using this
  have z2 : (W.setCell ⟨g, 2, none⟩ (.bool false)).cell? ⟨gr, k * 3 + 2, none⟩ = some (.int .i32 0) := by rw [← y2]; exact World.cell?_of_block (w := W) (Below.heap_setCell W _ _ _ (by simp only; omega))
  have fz2 : (W.setCell ⟨g, 2, none⟩ (.bool false)).frozen? ⟨gr, k * 3 + 2, none⟩ = false := by rw [← fy2]; exact World.frozen?_of_block (w := W) (Below.heap_setCell W _ _ _ (by simp only; omega))
  generalize W.setCell ⟨g, 2, none⟩ (.bool false) = w1 at HNM hr1 z2 fz2 ⊢
  have hdw : Chg [] (w1.setCell ⟨gr, k * 3 + 2, none⟩ (.int .i32 (r : Int))) (w1.setCell ⟨gr, k * 3 + 2, none⟩ (.int .i32 (r : Int))).drew := (Chg.refl [] _).drew
  have HG1 := Lib.hid (And.intro ((HNM.out _ (Chg.refl [] w1)).1.keep hdw) ((HNM.out _ (Chg.refl [] w1)).2.new hdw))
  clear hdw
  have hk1 : IntKind.i64.wrap ((k : Int) + 1 - 1) = (k : Int) := by rw [show (k : Int) + 1 - 1 = (k : Int) from by omega]; exact IntWalk.i64_in _ (by omega)
  have hk2 : IntKind.i64.wrap (k : Int) = (k : Int) := IntWalk.i64_in _ (by omega)
  have hk3 : (k : Int).toNat = k := Int.toNat_natCast _
  have hk4 : (0 : Int) ≤ (k : Int) := by omega
  have hk5 : (k : Int) < (k : Int) + 1 := by omega
  have d0 : w1.drew.cell? ⟨g, 0, none⟩ = some (.slice (some ⟨gr, 0, none⟩) (k + 1) c) := hr1.drew.cell 0
  have c0 := hr1.cell 0
  clear y2 fy2 r2 f2
  go_still_tail 13, (by kernel_rfl)
  change wpList _ _ _ _ _ w1.drew
  go_wp2_with fail
  generalize (w1.setCell ⟨gr, k * 3 + 2, none⟩ (.int .i32 (r : Int))).drew = w2 at HG1 ⊢
  refine (gname_any (r : Int) _).mono ?_
  rintro e w3 ⟨rfl, rfl⟩
  have HP := Lib.hid (show GPost W g (gTake ys (.wait q) r) (.returned (.bool (nameB (r : Int)))) w2 from ⟨HG1.out.2, by
    cases hb : nameB (r : Int) with
    | false => exact .inl ⟨by rw [gTake, if_neg (by rw [hb]; decide)], rfl⟩
    | true => exact .inr ⟨_, _, _, by rw [gTake, if_pos hb], rfl, HG1.out.1⟩⟩)
  go_wp2_with fail
  go_ret
  exact HP.out
set_option maxHeartbeats 4000000 in
set_option maxRecDepth 100000 in
theorem gtake_digit {ph : GPh} (h : Gl W g v ys ph) (hw : waits ph = false) (r : Nat) (hr : 48 ≤ r ∧ r ≤ 57) (hfew : ys.length ≤ 900) : Calls Tryz.prog 88 #[.pointer (some ⟨g, 0, none⟩), .int .i32 (r : Int)] W (GPost W g (gTake ys ph r)) := by
  have e : gTake ys ph r = gCount ys (numOf ph) (r - 48) := by
    cases ph with
    | wait q => cases hw
    | num m => rw [gTake, if_pos hr]; rfl
    | idle => rw [gTake, if_pos hr]; rfl
  rw [e]
  have hd : digitB (r : Int) = true := by unfold digitB; simp; omega
  have HD := Lib.hid hd
  have HC := Lib.hid (gcount_any h hw (r - 48) (by omega) hfew)
  rw [show ((r - 48 : Nat) : Int) = (r : Int) - 48 from by omega] at HC
  have r2 : W.cell? ⟨g, 2, none⟩ = some (.bool false) := by have := h.rec_.cell 2; rw [hw] at this; exact this
  obtain ⟨hr1, hr2⟩ := hr
  have hr1I : (48 : Int) ≤ (r : Int) := by omega
  have hr2I : (r : Int) ≤ 57 := by omega
  clear h hd e hw
  go_enter Tryz.func88, Tryz.ntmps88
  go_wp2_with fail
  refine (digit_any (r : Int) _).mono ?_
  rw [HD.out]
  rintro e w3 ⟨rfl, rfl⟩
  go_wp2_with fail
  refine HC.out.mono ?_
  rintro e w2 ⟨hl, hp⟩
  rcases hp with ⟨ho, rfl⟩ | ⟨ys', ph', v', ho, rfl, hG⟩
  · have HP := Lib.hid (show GPost W g (gCount ys (numOf ph) (r - 48)) (.returned (.bool false)) w2 from ⟨hl, .inl ⟨ho, rfl⟩⟩)
    clear ho hl
    go_wp2_with fail
    go_ret
    exact HP.out
  · have HP := Lib.hid (show GPost W g (gCount ys (numOf ph) (r - 48)) (.returned (.bool true)) w2 from ⟨hl, .inr ⟨ys', ph', v', ho, rfl, hG⟩⟩)
    clear ho hl hG
    go_wp2_with fail
    go_ret
    exact HP.out
set_option maxHeartbeats 8000000 in
set_option maxRecDepth 100000 in
theorem gtake_other {ph : GPh} (h : Gl W g v ys ph) (hw : waits ph = false) (r : Nat) (hr : ¬ (48 ≤ r ∧ r ≤ 57)) (hrm : r ≤ 2147483647) (hfew : ys.length ≤ 900) : Calls Tryz.prog 88 #[.pointer (some ⟨g, 0, none⟩), .int .i32 (r : Int)] W (GPost W g (gTake ys ph r)) := by
  obtain ⟨i0, hi0, hz0, hz1, hz2⟩ := info_parts info_token
  have e : gTake ys ph r = gOther (ys ++ pend ph) r := by
    cases ph with
    | wait q => cases hw
    | num m => rw [gTake, if_neg hr]; rfl
    | idle => rw [gTake, if_neg hr, pend, List.append_nil]
  rw [e]
  have hd : digitB (r : Int) = false := by unfold digitB; simp; omega
  have HD := Lib.hid hd
  have r2 : W.cell? ⟨g, 2, none⟩ = some (.bool false) := by have := h.rec_.cell 2; rw [hw] at this; exact this
  have r1 := h.rec_.cell 1
  have f1 := h.rec_.frozen 1
  have HG := Lib.hid (h.done_ hw hfew)
  have hbl : (ys ++ pend ph).length ≤ 901 := by rw [List.length_append]; have := pend_len ph; omega
  generalize ys ++ pend ph = bs at HG hbl ⊢
  clear h hd e hw hr hfew
  go_enter Tryz.func88, Tryz.ntmps88
  go_wp2_with fail
  refine (digit_any (r : Int) _).mono ?_
  rw [HD.out]
  rintro e w3 ⟨rfl, rfl⟩
  go_upto_region 8 with fail
  generalize W.setCell ⟨g, 1, none⟩ (.bool false) = w1 at HG ⊢
  clear r1 r2 f1
  by_cases h32 : r = 32
  · subst h32
    have HP := Lib.hid (show GPost W g (gOther bs 32) (.returned (.bool true)) w1 from ⟨HG.out.2, .inr ⟨bs, .idle, v, rfl, rfl, HG.out.1⟩⟩)
    go_wp2_with fail
    go_ret
    exact HP.out
  · have q32 : ((r : Int) == 32) = false := by simp; omega
    obtain ⟨A, n, c, rfl, hn⟩ := HG.out.1.slice
    have hn2 : n = bs.length := by simpa [pend] using hn
    have c0 := HG.out.1.rec_.cell 0
    have hal : Chg [] w1 (w1.alloc (.cells #[.int .i32 (r : Int), .int .i64 0, .int .i32 0] 110)) := (Chg.refl [] w1).alloc _
    have ho1 : w1.ownsRow (g + 1) 110 3 (.slice A n c) n (tkCs bs) := by have := HG.out.1.own; rw [← hn] at this; simpa [pend] using this
    have HO2 := Lib.hid (rown_keep ho1 hal)
    have HAL := Lib.hid hal
    have HR2 := Lib.hid (HG.out.1.rec_.keep hal)
    have HBZ := Lib.hid (show g + 1 ≤ (w1.alloc (.cells #[.int .i32 (r : Int), .int .i64 0, .int .i32 0] 110)).heap.size from by have := hal.size; have := HG.out.1.rec_.lt; omega)
    have HN := Lib.hid hn2
    have hn9 : n ≤ 901 := by omega
    clear hn hn2 ho1 hal h32
    go_upto_region 11 with (at_builtin
                            refine wpList_append_own _ rfl (.tmp 43) (.tmp 46) _ rfl (g + 1) 110 i0 _ 3 24 Tryz.underlying90 hi0 hz0 hz1 hz2 rfl (by decide) (.slice A n c) n (tkCs bs) rfl HO2.out ⟨w1.heap.size, 0, none⟩ 1 1 [.int .i32 (r : Int), .int .i64 0, .int .i32 0] rfl rfl (cells_page _ _ _) (by simp [Value.oneCell']) (by simp only [maxLen]; omega) (by omega) HBZ.out ?_
                            intro v' w3 ho3 hg3 _
                            have HO3 := Lib.hid ho3
                            have HG3 := Lib.hid hg3
                            have hr3 := whole_grown HR2.out HO2.out (by decide) hg3
                            have c3 := hr3.cell 0
                            have f3 := hr3.frozen 0
                            obtain ⟨A3, c3', rfl, _⟩ := rown_slice ho3
                            clear ho3 hg3 hr3)
    obtain ⟨hm1, hm2⟩ := HG.out.1.more_ (t := ⟨(r : Int), 0, 0⟩) HAL.out (by have := HN.out; omega) HO3.out HG3.out (by omega)
    have HM := Lib.hid hm1
    have HL := Lib.hid (HG.out.2.trans hm2)
    generalize w3.setCell ⟨g, 0, none⟩ (.slice A3 (n + 1) c3') = w4 at HM HL ⊢
    clear hm1 hm2 c3 f3 c0 HO2 HO3 HG3 HAL HR2 HBZ
    have s2 := HM.out.rec_.cell 2
    have t2 := HM.out.rec_.frozen 2
    go_wp2_with fail
    refine (named_any (r : Int) _).mono ?_
    rintro e w5 ⟨rfl, rfl⟩
    cases hnm : namedB (r : Int) with
    | true =>
      have hkn : knownB (r : Int) = true := by rcases (named_iff r).1 hnm with rfl | rfl <;> decide
      have HP := Lib.hid (fun (W' : World) (hc : Chg [] (w4.setCell ⟨g, 2, none⟩ (.bool true)) W') => show GPost W g (gOther bs r) (.returned (.bool (knownB (r : Int)))) W' from
        ⟨(HL.out.setw HM.out.rec_ (Nat.le_refl _) (by simp [glT]) _).new hc, .inr ⟨bs, .wait r, _, by unfold gOther; rw [if_neg (by intro e; subst e; revert hnm; decide), if_pos hkn, if_pos hnm], by rw [hkn], HM.out.waits_.keep hc⟩⟩)
      clear hnm hkn
      go_wp2_with fail
      refine (gknown_any (r : Int) _).mono ?_
      rintro e w6 ⟨rfl, hc6⟩
      have HQ := Lib.hid (HP.out w6 hc6)
      clear hc6
      go_wp2_with fail
      go_ret
      exact HQ.out
    | false =>
      have h32 : ¬ r = 32 := by intro e; subst e; revert q32; decide
      have HP := Lib.hid (fun (W' : World) (hc : Chg [] (w4.setCell ⟨g, 2, none⟩ (.bool false)) W') => show GPost W g (gOther bs r) (.returned (.bool (knownB (r : Int)))) W' from
        ⟨(HL.out.setw HM.out.rec_ (Nat.le_refl _) (by simp [glT]) _).new hc, by
          cases hkn : knownB (r : Int) with
          | true => exact .inr ⟨_, .idle, _, by unfold gOther; rw [if_neg h32, if_pos hkn, if_neg (by rw [hnm]; decide)], rfl, HM.out.not_.keep hc⟩
          | false => exact .inl ⟨by unfold gOther; rw [if_neg h32, if_neg (by rw [hkn]; decide)], rfl⟩⟩)
      clear hnm h32
      go_wp2_with fail
      refine (gknown_any (r : Int) _).mono ?_
      rintro e w6 ⟨rfl, hc6⟩
      have HQ := Lib.hid (HP.out w6 hc6)
      clear hc6
      go_wp2_with fail
      go_ret
      exact HQ.out
theorem gtake_any {ph : GPh} (h : Gl W g v ys ph) (r : Nat) (hrm : r ≤ 2147483647) (hfew : ys.length ≤ 900) : Calls Tryz.prog 88 #[.pointer (some ⟨g, 0, none⟩), .int .i32 (r : Int)] W (GPost W g (gTake ys ph r)) := by
  cases hw : waits ph with
  | true =>
    cases ph with
    | wait q => exact gtake_wait h r hfew
    | num m => cases hw
    | idle => cases hw
  | false =>
    by_cases hr : 48 ≤ r ∧ r ≤ 57
    · exact gtake_digit h hw r hr hfew
    · exact gtake_other h hw r hr hrm hfew
end
end Go.Proofs.YtbkfhndmeljlcaaGreatDoor
