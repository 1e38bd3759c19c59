/-
  PN: NestTake.
-/
import Derived.Test.YtbkfhndmeljlcaaGreatDoorZPN30
namespace Go.Proofs.YtbkfhndmeljlcaaGreatDoor
open Go.RowKit
section
variable {W : World} {gm gt B n : Nat} {m : NSt} {vo : Value} {xs : List PV}
/-- A part is opened. -/
theorem Mt.push {W1 w' : World} {v' : Value} {lp : Bool} {i : Nat} (h : Mt W gm gt B n m vo xs) (hc : Chg [] W W1) (hi : i < n) (hn : xs.length < 16)
    (ho : w'.ownsRow B 182 4 v' (xs.length + 1) (pvCs xs ++ [.bool lp, .int .i64 (i : Int), .int .i64 (i : Int), .slice none 0 0])) (hg : W1.grownBy w' vo.ownBlock) :
    Mt (w'.setCell ⟨gm, 2, none⟩ v') gm gt B n ⟨m.tO, m.deep, ⟨lp, i, i, []⟩ :: m.op⟩ v' (xs ++ [⟨⟨lp, i, i, []⟩, .slice none 0 0⟩]) := by
  have h1 := h.keep hc
  have hlo := h.lo
  have hown : ∀ {e k q : Nat} {v : Value} {cs : List Value}, w'.ownsRow B e k v q cs → v.ownBlock ≠ some gm := fun ho hc => by
    have := (ho.lt gm hc).1; omega
  have hw : Whole w' gm 168 [.slice (some ⟨gt, 0, none⟩) n n, .int .i64 (m.deep : Int), vo] := whole_grown h1.rec_ h1.own (by decide) hg
  refine ⟨?_, (whole_grown h1.to_ h1.own (by decide) hg).far (by simp only; omega) _, h.len, by rw [h.op]; simp, ?_, fun y hy => ?_, ?_, h.lo, by simp; omega, h.deep, fun y hy => ?_, h.big, by rw [size_set]; exact Nat.le_trans h1.room hg.size⟩
  · have := hw.set_ 2 v'
    simpa using this
  · have ho2 := rown_far (u := v') (p := ⟨gm, 2, none⟩) ho (hown ho)
    rw [List.length_append, pvCs_app, pvCs_one]
    exact ho2
  · rcases List.mem_append.1 hy with hy | hy
    · have := rown_grown (h1.left y hy) h1.own (by decide) hg
      exact rown_far this (hown this)
    · simp only [List.mem_cons, List.not_mem_nil, or_false] at hy
      subst hy
      exact ⟨rfl, .inl ⟨rfl, rfl⟩⟩
  · rw [List.pairwise_append]
    refine ⟨h.apart, List.pairwise_singleton _ _, fun y hy z hz => ?_⟩
    simp only [List.mem_cons, List.not_mem_nil, or_false] at hz
    subst hz
    cases hy2 : y.v.ownBlock with
    | none => exact .inl rfl
    | some b => exact .inr (by simp [Value.ownBlock])
  · rcases List.mem_append.1 hy with hy | hy
    · exact h.wf y hy
    · simp only [List.mem_cons, List.not_mem_nil, or_false] at hy
      subst hy
      exact ⟨hi, hi, Nat.zero_le _, fun j hj => by cases hj⟩
/-- How deep. -/
theorem Mt.deeper (h : Mt W gm gt B n m vo xs) (d : Nat) (hd : d ≤ 16) : Mt (W.setCell ⟨gm, 1, none⟩ (.int .i64 (d : Int))) gm gt B n ⟨m.tO, d, m.op⟩ vo xs := by
  have hlo := h.lo
  have hown : ∀ {e k q : Nat} {v : Value} {cs : List Value}, W.ownsRow B e k v q cs → v.ownBlock ≠ some gm := fun ho hc => by
    have := (ho.lt gm hc).1; omega
  refine { h with rec_ := ?_, to_ := h.to_.far (by simp only; omega) _, own := rown_far h.own (hown h.own), left := fun y hy => rown_far (h.left y hy) (hown (h.left y hy)), deep := hd, room := by rw [size_set]; exact h.room }
  have := h.rec_.set_ 1 (.int .i64 (d : Int))
  simpa using this
theorem info_part : (Tryz.prog.info? 182).map (fun i => (i.zero, i.size, i.bytes)) = some (some (.agg #[.bool false, .int .i64 0, .int .i64 0, .slice none 0 0]), 4, 48) := by kernel_rfl
/-- What a token does. -/
def TakePost8 (gm gt B n i : Nat) (s : Int) (m : NSt) (W : World) (e : Ending) (w' : World) : Prop :=
  (∃ m', nTake i s m = some m' ∧ NextPost8 gm gt B n m' W e w') ∨ (nTake i s m = none ∧ e = .returned (.bool false) ∧ Lo B [gm, gt] W w')
set_option maxHeartbeats 4000000 in
set_option maxRecDepth 100000 in
theorem take_if (h : Mt W gm gt B n m vo xs) (i : Nat) (hi : i < n) : Calls Tryz.prog 128 #[.pointer (some ⟨gm, 0, none⟩), .int .i64 (i : Int), .int .i32 63] W (TakePost8 gm gt B n i 63 m W) := by
  obtain ⟨i0, hi0, hz0, hz1, hz2⟩ := info_parts info_part
  have hBW := h.room
  obtain ⟨A, c, rfl, hc1, hc2, _⟩ := rown_slice h.own
  have c2 := h.rec_.cell 2
  have hfew := h.few
  have hop : m.op.length = xs.length := by rw [h.op]; simp
  have hdp := h.deep
  have H := Lib.hid h
  obtain ⟨q, hq⟩ : ∃ q, q = xs.length := ⟨_, rfl⟩
  rw [← hq] at c2 hfew hc1
  have HQ := Lib.hid hq
  have HOP := Lib.hid hop
  have HDP := Lib.hid hdp
  have hal : Chg [] W (W.alloc (.cells #[.bool false, .int .i64 (i : Int), .int .i64 (i : Int), .slice none 0 0] 182)) := (Chg.refl [] W).alloc _
  have HAL := Lib.hid hal
  have HO1 := Lib.hid (show (W.alloc (.cells #[.bool false, .int .i64 (i : Int), .int .i64 (i : Int), .slice none 0 0] 182)).ownsRow B 182 4 (.slice A q c) q (pvCs xs) from by
    have h := rown_keep H.out.own hal
    rw [← hq] at h
    exact h)
  have q2 : (W.alloc (.cells #[.bool false, .int .i64 (i : Int), .int .i64 (i : Int), .slice none 0 0] 182)).cell? ⟨gm, 2, none⟩ = some (.slice A q c) := cell_keep (by simpa using c2) hal
  clear h hq hop hdp hal
  go_enter Tryz.func128, Tryz.ntmps128
  go_wp2_with (at_builtin
               refine wpList_append_own _ rfl (.tmp 15) (.tmp 21) _ rfl B 182 i0 _ 4 48 Tryz.underlying166 hi0 hz0 hz1 hz2 rfl (by decide) (.slice A q c) q (pvCs xs) rfl HO1.out ⟨W.heap.size, 0, none⟩ 1 1 [.bool false, .int .i64 (i : Int), .int .i64 (i : Int), .slice none 0 0] rfl rfl ?c1 ?c2 ?c3 ?c4 ?c5 ?_
               case c1 => exact cells_page _ _ _
               case c2 => simp [Value.oneCell']
               case c3 => simp only [maxLen]; omega
               case c4 => omega
               case c5 => simp; omega
               intro v' w6 ho6 hg6 _
               obtain ⟨A6, c6, rfl, hc61, _, _⟩ := rown_slice ho6
               have HO6 := Lib.hid ho6
               have HG6 := Lib.hid hg6
               have HW6 := Lib.hid (whole_grown (H.out.rec_.keep HAL.out) HO1.out (by decide) hg6)
               have k2 : w6.cell? ⟨gm, 2, none⟩ = some (.slice A q c) := by
                 have h := HW6.out.cell 2
                 rw [← HQ.out] at h
                 simpa using h
               have f2 := HW6.out.frozen 2
               clear ho6 hg6)
  go_upto_region 5 with fail
  have HW7 := Lib.hid (HW6.out.set_ 2 (.slice A6 (q + 1) c6))
  simp only [List.set_cons_zero, List.set_cons_succ] at HW7
  have HL7 := Lib.hid (show Lo B [gm, gt] W (w6.setCell ⟨gm, 2, none⟩ (.slice A6 (q + 1) c6)) from ((Lo.of_chg HAL.out (by simp)).trans (Lo.of_grown HO1.out (Nat.le_refl _) HG6.out)).trans (Lo.of_chg ((Chg.refl [gm] w6).setCell (p := ⟨gm, 2, none⟩) (by simp) _) (by simp)))
  have HM7 := Lib.hid (fun hq16 : xs.length < 16 => show Mt (w6.setCell ⟨gm, 2, none⟩ (.slice A6 (q + 1) c6)) gm gt B n ⟨m.tO, m.deep, ⟨false, i, i, []⟩ :: m.op⟩ (.slice A6 (q + 1) c6) (xs ++ [⟨⟨false, i, i, []⟩, .slice none 0 0⟩]) from H.out.push HAL.out hi hq16 (by rw [← HQ.out]; exact HO6.out) (by rw [← HQ.out]; exact HG6.out))
  generalize w6.setCell ⟨gm, 2, none⟩ (.slice A6 (q + 1) c6) = w7 at HW7 HL7 HM7 ⊢
  clear k2 f2 c2 q2
  have k1 := HW7.out.cell 1
  have k2 := HW7.out.cell 2
  have f1 := HW7.out.frozen 1
  go_wp2_with fail
  go_region
  have hmx : max (m.deep : Int) ((q : Int) + 1) = ((max m.deep (q + 1) : Nat) : Int) := by omega
  rw [hmx]
  clear hmx
  have HL8 := Lib.hid (show Lo B [gm, gt] W (w7.setCell ⟨gm, 1, none⟩ (.int .i64 ((max m.deep (q + 1) : Nat) : Int))).drew from HL7.out.trans (Lo.of_chg ((Chg.refl [gm] w7).setCell (p := ⟨gm, 1, none⟩) (by simp) _).drew (by simp)))
  have HW8 := Lib.hid (HW7.out.set_ 1 (.int .i64 ((max m.deep (q + 1) : Nat) : Int))).drew
  have HM8 := Lib.hid (fun hq16 : xs.length < 16 => (((HM7.out hq16).deeper (max m.deep (q + 1)) (by have := HDP.out; have := HQ.out; omega)).keep (Chg.refl [] _).drew))
  generalize (w7.setCell ⟨gm, 1, none⟩ (.int .i64 ((max m.deep (q + 1) : Nat) : Int))).drew = w8 at HL8 HW8 HM8 ⊢
  clear k1 k2 f1
  have k2 := HW8.out.cell 2
  by_cases hq16 : q < 16
  · have hle : (q : Int) + 1 ≤ 16 := by omega
    have HPO := Lib.hid (show TakePost8 gm gt B n i 63 m W (.returned (.bool true)) w8 from .inl ⟨_, by unfold nTake; rw [if_pos (by decide), HOP.out, ← HQ.out, if_pos (by omega)]; rfl, rfl, ⟨_, _, HM8.out (by rw [← HQ.out]; exact hq16)⟩, HL8.out⟩)
    go_wp2_with fail
    go_ret
    exact HPO.out
  · have hle : ¬ (q : Int) + 1 ≤ 16 := by omega
    have HPO := Lib.hid (show TakePost8 gm gt B n i 63 m W (.returned (.bool false)) w8 from .inr ⟨by unfold nTake; rw [if_pos (by decide), HOP.out, ← HQ.out, if_neg (by omega)], rfl, HL8.out⟩)
    go_wp2_with fail
    go_ret
    exact HPO.out
set_option maxHeartbeats 4000000 in
set_option maxRecDepth 100000 in
theorem take_loop (h : Mt W gm gt B n m vo xs) (i : Nat) (hi : i < n) : Calls Tryz.prog 128 #[.pointer (some ⟨gm, 0, none⟩), .int .i64 (i : Int), .int .i32 91] W (TakePost8 gm gt B n i 91 m W) := by
  obtain ⟨i0, hi0, hz0, hz1, hz2⟩ := info_parts info_part
  have hBW := h.room
  obtain ⟨A, c, rfl, hc1, hc2, _⟩ := rown_slice h.own
  have c2 := h.rec_.cell 2
  have hfew := h.few
  have hop : m.op.length = xs.length := by rw [h.op]; simp
  have hdp := h.deep
  have H := Lib.hid h
  obtain ⟨q, hq⟩ : ∃ q, q = xs.length := ⟨_, rfl⟩
  rw [← hq] at c2 hfew hc1
  have HQ := Lib.hid hq
  have HOP := Lib.hid hop
  have HDP := Lib.hid hdp
  have hal : Chg [] W (W.alloc (.cells #[.bool true, .int .i64 (i : Int), .int .i64 (i : Int), .slice none 0 0] 182)) := (Chg.refl [] W).alloc _
  have HAL := Lib.hid hal
  have HO1 := Lib.hid (show (W.alloc (.cells #[.bool true, .int .i64 (i : Int), .int .i64 (i : Int), .slice none 0 0] 182)).ownsRow B 182 4 (.slice A q c) q (pvCs xs) from by
    have h := rown_keep H.out.own hal
    rw [← hq] at h
    exact h)
  have q2 : (W.alloc (.cells #[.bool true, .int .i64 (i : Int), .int .i64 (i : Int), .slice none 0 0] 182)).cell? ⟨gm, 2, none⟩ = some (.slice A q c) := cell_keep (by simpa using c2) hal
  clear h hq hop hdp hal
  go_enter Tryz.func128, Tryz.ntmps128
  go_wp2_with (at_builtin
               refine wpList_append_own _ rfl (.tmp 15) (.tmp 21) _ rfl B 182 i0 _ 4 48 Tryz.underlying166 hi0 hz0 hz1 hz2 rfl (by decide) (.slice A q c) q (pvCs xs) rfl HO1.out ⟨W.heap.size, 0, none⟩ 1 1 [.bool true, .int .i64 (i : Int), .int .i64 (i : Int), .slice none 0 0] rfl rfl ?c1 ?c2 ?c3 ?c4 ?c5 ?_
               case c1 => exact cells_page _ _ _
               case c2 => simp [Value.oneCell']
               case c3 => simp only [maxLen]; omega
               case c4 => omega
               case c5 => simp; omega
               intro v' w6 ho6 hg6 _
               obtain ⟨A6, c6, rfl, hc61, _, _⟩ := rown_slice ho6
               have HO6 := Lib.hid ho6
               have HG6 := Lib.hid hg6
               have HW6 := Lib.hid (whole_grown (H.out.rec_.keep HAL.out) HO1.out (by decide) hg6)
               have k2 : w6.cell? ⟨gm, 2, none⟩ = some (.slice A q c) := by
                 have h := HW6.out.cell 2
                 rw [← HQ.out] at h
                 simpa using h
               have f2 := HW6.out.frozen 2
               clear ho6 hg6)
  go_upto_region 5 with fail
  have HW7 := Lib.hid (HW6.out.set_ 2 (.slice A6 (q + 1) c6))
  simp only [List.set_cons_zero, List.set_cons_succ] at HW7
  have HL7 := Lib.hid (show Lo B [gm, gt] W (w6.setCell ⟨gm, 2, none⟩ (.slice A6 (q + 1) c6)) from ((Lo.of_chg HAL.out (by simp)).trans (Lo.of_grown HO1.out (Nat.le_refl _) HG6.out)).trans (Lo.of_chg ((Chg.refl [gm] w6).setCell (p := ⟨gm, 2, none⟩) (by simp) _) (by simp)))
  have HM7 := Lib.hid (fun hq16 : xs.length < 16 => show Mt (w6.setCell ⟨gm, 2, none⟩ (.slice A6 (q + 1) c6)) gm gt B n ⟨m.tO, m.deep, ⟨true, i, i, []⟩ :: m.op⟩ (.slice A6 (q + 1) c6) (xs ++ [⟨⟨true, i, i, []⟩, .slice none 0 0⟩]) from H.out.push HAL.out hi hq16 (by rw [← HQ.out]; exact HO6.out) (by rw [← HQ.out]; exact HG6.out))
  generalize w6.setCell ⟨gm, 2, none⟩ (.slice A6 (q + 1) c6) = w7 at HW7 HL7 HM7 ⊢
  clear k2 f2 c2 q2
  have k1 := HW7.out.cell 1
  have k2 := HW7.out.cell 2
  have f1 := HW7.out.frozen 1
  go_wp2_with fail
  go_region
  have hmx : max (m.deep : Int) ((q : Int) + 1) = ((max m.deep (q + 1) : Nat) : Int) := by omega
  rw [hmx]
  clear hmx
  have HL8 := Lib.hid (show Lo B [gm, gt] W (w7.setCell ⟨gm, 1, none⟩ (.int .i64 ((max m.deep (q + 1) : Nat) : Int))).drew from HL7.out.trans (Lo.of_chg ((Chg.refl [gm] w7).setCell (p := ⟨gm, 1, none⟩) (by simp) _).drew (by simp)))
  have HW8 := Lib.hid (HW7.out.set_ 1 (.int .i64 ((max m.deep (q + 1) : Nat) : Int))).drew
  have HM8 := Lib.hid (fun hq16 : xs.length < 16 => (((HM7.out hq16).deeper (max m.deep (q + 1)) (by have := HDP.out; have := HQ.out; omega)).keep (Chg.refl [] _).drew))
  generalize (w7.setCell ⟨gm, 1, none⟩ (.int .i64 ((max m.deep (q + 1) : Nat) : Int))).drew = w8 at HL8 HW8 HM8 ⊢
  clear k1 k2 f1
  have k2 := HW8.out.cell 2
  by_cases hq16 : q < 16
  · have hle : (q : Int) + 1 ≤ 16 := by omega
    have HPO := Lib.hid (show TakePost8 gm gt B n i 91 m W (.returned (.bool true)) w8 from .inl ⟨_, by unfold nTake; rw [if_pos (by decide), HOP.out, ← HQ.out, if_pos (by omega)]; rfl, rfl, ⟨_, _, HM8.out (by rw [← HQ.out]; exact hq16)⟩, HL8.out⟩)
    go_wp2_with fail
    go_ret
    exact HPO.out
  · have hle : ¬ (q : Int) + 1 ≤ 16 := by omega
    have HPO := Lib.hid (show TakePost8 gm gt B n i 91 m W (.returned (.bool false)) w8 from .inr ⟨by unfold nTake; rw [if_pos (by decide), HOP.out, ← HQ.out, if_neg (by omega)], rfl, HL8.out⟩)
    go_wp2_with fail
    go_ret
    exact HPO.out
set_option maxHeartbeats 1000000 in
set_option maxRecDepth 100000 in
theorem take_halve {i : Nat} {Q : Bool → World → Prop} (h : Calls Tryz.prog 140 #[.pointer (some ⟨gm, 0, none⟩), .int .i64 (i : Int)] W fun e w' => ∃ b, e = .returned (.bool b) ∧ Hid (Q b w')) :
    Calls Tryz.prog 128 #[.pointer (some ⟨gm, 0, none⟩), .int .i64 (i : Int), .int .i32 58] W fun e w' => ∃ b, e = .returned (.bool b) ∧ Hid (Q b w') := by
  go_enter Tryz.func128, Tryz.ntmps128
  go_wp2_with fail
  refine h.mono ?_
  rintro e w1 ⟨b, rfl, hq⟩
  clear h
  go_wp2_with fail
  go_ret
  exact ⟨_, rfl, hq⟩
set_option maxHeartbeats 1000000 in
set_option maxRecDepth 100000 in
theorem take_endIf {i : Nat} {Q : Bool → World → Prop} (h : Calls Tryz.prog 141 #[.pointer (some ⟨gm, 0, none⟩), .int .i64 (i : Int)] W fun e w' => ∃ b, e = .returned (.bool b) ∧ Hid (Q b w')) :
    Calls Tryz.prog 128 #[.pointer (some ⟨gm, 0, none⟩), .int .i64 (i : Int), .int .i32 59] W fun e w' => ∃ b, e = .returned (.bool b) ∧ Hid (Q b w') := by
  go_enter Tryz.func128, Tryz.ntmps128
  go_wp2_with fail
  refine h.mono ?_
  rintro e w1 ⟨b, rfl, hq⟩
  clear h
  go_wp2_with fail
  go_ret
  exact ⟨_, rfl, hq⟩
set_option maxHeartbeats 1000000 in
set_option maxRecDepth 100000 in
theorem take_endLoop {i : Nat} {Q : Bool → World → Prop} (h : Calls Tryz.prog 142 #[.pointer (some ⟨gm, 0, none⟩), .int .i64 (i : Int)] W fun e w' => ∃ b, e = .returned (.bool b) ∧ Hid (Q b w')) :
    Calls Tryz.prog 128 #[.pointer (some ⟨gm, 0, none⟩), .int .i64 (i : Int), .int .i32 93] W fun e w' => ∃ b, e = .returned (.bool b) ∧ Hid (Q b w') := by
  go_enter Tryz.func128, Tryz.ntmps128
  go_wp2_with fail
  refine h.mono ?_
  rintro e w1 ⟨b, rfl, hq⟩
  clear h
  go_wp2_with fail
  go_ret
  exact ⟨_, rfl, hq⟩
set_option maxHeartbeats 1000000 in
set_option maxRecDepth 100000 in
theorem take_leave {i : Nat} {Q : Bool → World → Prop} (h : Calls Tryz.prog 143 #[.pointer (some ⟨gm, 0, none⟩), .int .i64 (i : Int)] W fun e w' => ∃ b, e = .returned (.bool b) ∧ Hid (Q b w')) :
    Calls Tryz.prog 128 #[.pointer (some ⟨gm, 0, none⟩), .int .i64 (i : Int), .int .i32 126] W fun e w' => ∃ b, e = .returned (.bool b) ∧ Hid (Q b w') := by
  go_enter Tryz.func128, Tryz.ntmps128
  go_wp2_with fail
  refine h.mono ?_
  rintro e w1 ⟨b, rfl, hq⟩
  clear h
  go_wp2_with fail
  go_ret
  exact ⟨_, rfl, hq⟩
set_option maxHeartbeats 1000000 in
set_option maxRecDepth 100000 in
theorem take_plain {i : Nat} (s : Int) (h1 : s ≠ 63) (h2 : s ≠ 91) (h3 : s ≠ 58) (h4 : s ≠ 59) (h5 : s ≠ 93) (h6 : s ≠ 126) :
    Calls Tryz.prog 128 #[.pointer (some ⟨gm, 0, none⟩), .int .i64 (i : Int), .int .i32 s] W fun e w' => e = .returned (.bool true) ∧ W = w' := by
  have k1 : (s == 63) = false := by simpa using h1
  have k2 : (s == 91) = false := by simpa using h2
  have k3 : (s == 58) = false := by simpa using h3
  have k4 : (s == 59) = false := by simpa using h4
  have k5 : (s == 93) = false := by simpa using h5
  have k6 : (s == 126) = false := by simpa using h6
  clear h1 h2 h3 h4 h5 h6
  go_enter Tryz.func128, Tryz.ntmps128
  go_wp2_with fail
  go_ret
  exact ⟨rfl, rfl⟩
/-- No part has more ~ than there were tokens. -/
def Few (i : Nat) (m : NSt) : Prop := ∀ p ∈ m.op, p.left.length ≤ i
theorem few_leave {i : Nat} : ∀ {l o : List NPart}, (∀ p ∈ l, p.left.length ≤ i) → leaveP i l = some o → ∀ p ∈ o, p.left.length ≤ i + 1 := fun {l o} h ho => by
  obtain ⟨a, p, r, rfl, _, _, rfl⟩ := leaveP_split ho
  intro q hq
  rcases List.mem_append.1 hq with hq | hq
  · have := h q (List.mem_append_left _ hq); omega
  · rcases List.mem_cons.1 hq with rfl | hq
    · have := h p (by simp); simp; omega
    · have := h q (by simp [hq]); omega
theorem few_take {i : Nat} {s : Int} {m m' : NSt} (h : Few i m) (ht : nTake i s m = some m') : Few (i + 1) m' := by
  have hm : ∀ p ∈ m.op, p.left.length ≤ i + 1 := fun p hp => by have := h p hp; omega
  unfold nTake at ht
  split at ht
  · split at ht
    · injection ht with ht; subst ht
      intro p hp
      rcases List.mem_cons.1 hp with rfl | hp
      · simp
      · exact hm p hp
    · cases ht
  split at ht
  · split at ht
    · rename_i p r hop
      split at ht
      · injection ht with ht; subst ht
        intro q hq
        rcases List.mem_cons.1 hq with rfl | hq
        · exact hm p (by rw [hop]; simp)
        · exact hm q (by rw [hop]; simp [hq])
      · cases ht
    · cases ht
  split at ht
  · split at ht
    · rename_i p r hop
      split at ht
      · injection ht with ht; subst ht
        exact fun q hq => hm q (by rw [hop]; simp only at hq; simp [hq])
      · cases ht
    · cases ht
  split at ht
  · split at ht
    · rename_i p r hop
      split at ht
      · injection ht with ht; subst ht
        exact fun q hq => hm q (by rw [hop]; simp only at hq; simp [hq])
      · cases ht
    · cases ht
  split at ht
  · cases ho : leaveP i m.op with
    | none => rw [ho] at ht; cases ht
    | some o =>
      rw [ho] at ht
      injection ht with ht; subst ht
      exact few_leave h ho
  · injection ht with ht; subst ht
    exact hm
theorem last_split {α : Type} (l : List α) : l = [] ∨ ∃ ys x, l = ys ++ [x] := by
  rcases List.eq_nil_or_concat l with h | ⟨ys, x, h⟩
  · exact .inl h
  · exact .inr ⟨ys, x, by simpa using h⟩
theorem loop_split : ∀ l : List PV, (∀ x ∈ l, x.p.loop = false) ∨ ∃ ys x zs, l = ys ++ x :: zs ∧ x.p.loop = true ∧ ∀ z ∈ zs, z.p.loop = false
  | [] => .inl fun x hx => by cases hx
  | a :: l => by
    rcases loop_split l with h | ⟨ys, x, zs, rfl, h1, h2⟩
    · by_cases hl : a.p.loop = true
      · exact .inr ⟨[], a, l, rfl, hl, h⟩
      · refine .inl fun x hx => ?_
        rcases List.mem_cons.1 hx with rfl | hx
        · simpa using hl
        · exact h x hx
    · exact .inr ⟨a :: ys, x, zs, rfl, h1, h2⟩
theorem take_any (h : Mt W gm gt B n m vo xs) (i : Nat) (hi : i < n) (s : Int) (hf : Few i m) : Calls Tryz.prog 128 #[.pointer (some ⟨gm, 0, none⟩), .int .i64 (i : Int), .int .i32 s] W (TakePost8 gm gt B n i s m W) := by
  have hlo : ∀ {w' : World}, Chg [] W w' → Lo B [gm, gt] W w' := fun hc => Lo.of_chg hc (by simp)
  by_cases s1 : s = 63
  · subst s1; exact take_if h i hi
  by_cases s2 : s = 91
  · subst s2; exact take_loop h i hi
  have e12 : ¬ (s = 63 ∨ s = 91) := by simp [s1, s2]
  have hop := h.op
  by_cases s3 : s = 58
  · subst s3
    refine (take_halve (Q := fun b w' => TakePost8 gm gt B n i 58 m W (.returned (.bool b)) w') ?_).mono fun e w' ⟨b, he, hq⟩ => by rw [he]; exact hq.out
    rcases last_split xs with rfl | ⟨ys, x, rfl⟩
    · refine (halve_none h i).mono fun e w' ⟨he, hc⟩ => ⟨false, he, Lib.hid (.inr ⟨?_, rfl, hlo hc⟩)⟩
      simp only [List.map_nil, List.reverse_nil] at hop
      unfold nTake; rw [if_neg e12, if_pos rfl, hop]
    · simp only [List.map_append, List.map_cons, List.map_nil, List.reverse_append, List.reverse_cons, List.reverse_nil, List.nil_append, List.cons_append] at hop
      by_cases hc : x.p.loop = false ∧ x.p.waits = x.p.at_
      · refine (halve_yes h hc.1 hc.2 i hi).mono fun e w' hp => ⟨true, hp.1, Lib.hid (.inl ⟨_, ?_, hp.1 ▸ hp⟩)⟩
        unfold nTake; rw [if_neg e12, if_pos rfl, hop]; simp only; rw [if_pos hc]
      · refine (halve_no h (by
          by_cases hl : x.p.loop = true
          · exact .inl hl
          · exact .inr fun e => hc ⟨by simpa using hl, e⟩) i).mono fun e w' ⟨he, hcc⟩ => ⟨false, he, Lib.hid (.inr ⟨?_, rfl, hlo hcc⟩)⟩
        unfold nTake; rw [if_neg e12, if_pos rfl, hop]; simp only; rw [if_neg hc]
  by_cases s4 : s = 59
  · subst s4
    refine (take_endIf (Q := fun b w' => TakePost8 gm gt B n i 59 m W (.returned (.bool b)) w') ?_).mono fun e w' ⟨b, he, hq⟩ => by rw [he]; exact hq.out
    rcases last_split xs with rfl | ⟨ys, x, rfl⟩
    · refine (endIf_none h i).mono fun e w' ⟨he, hc⟩ => ⟨false, he, Lib.hid (.inr ⟨?_, rfl, hlo hc⟩)⟩
      simp only [List.map_nil, List.reverse_nil] at hop
      unfold nTake; rw [if_neg e12, if_neg s3, if_pos rfl, hop]
    · simp only [List.map_append, List.map_cons, List.map_nil, List.reverse_append, List.reverse_cons, List.reverse_nil, List.nil_append, List.cons_append] at hop
      by_cases hc : x.p.loop = false
      · refine (endIf_yes h hc i).mono fun e w' hp => ⟨true, hp.1, Lib.hid (.inl ⟨_, ?_, hp.1 ▸ hp⟩)⟩
        unfold nTake; rw [if_neg e12, if_neg s3, if_pos rfl, hop]; simp only; rw [if_pos hc]
      · refine (endIf_no h (by simpa using hc) i).mono fun e w' ⟨he, hcc⟩ => ⟨false, he, Lib.hid (.inr ⟨?_, rfl, hlo hcc⟩)⟩
        unfold nTake; rw [if_neg e12, if_neg s3, if_pos rfl, hop]; simp only; rw [if_neg hc]
  by_cases s5 : s = 93
  · subst s5
    refine (take_endLoop (Q := fun b w' => TakePost8 gm gt B n i 93 m W (.returned (.bool b)) w') ?_).mono fun e w' ⟨b, he, hq⟩ => by rw [he]; exact hq.out
    rcases last_split xs with rfl | ⟨ys, x, rfl⟩
    · refine (endLoop_none h i).mono fun e w' ⟨he, hc⟩ => ⟨false, he, Lib.hid (.inr ⟨?_, rfl, hlo hc⟩)⟩
      simp only [List.map_nil, List.reverse_nil] at hop
      unfold nTake; rw [if_neg e12, if_neg s3, if_neg s4, if_pos rfl, hop]
    · simp only [List.map_append, List.map_cons, List.map_nil, List.reverse_append, List.reverse_cons, List.reverse_nil, List.nil_append, List.cons_append] at hop
      by_cases hc : x.p.loop = true
      · refine (endLoop_yes h hc i hi).mono fun e w' hp => ⟨true, hp.1, Lib.hid (.inl ⟨_, ?_, hp.1 ▸ hp⟩)⟩
        unfold nTake; rw [if_neg e12, if_neg s3, if_neg s4, if_pos rfl, hop]; simp only; rw [if_pos hc]
      · refine (endLoop_no h (by simpa using hc) i).mono fun e w' ⟨he, hcc⟩ => ⟨false, he, Lib.hid (.inr ⟨?_, rfl, hlo hcc⟩)⟩
        unfold nTake; rw [if_neg e12, if_neg s3, if_neg s4, if_pos rfl, hop]; simp only; rw [if_neg hc]
  by_cases s6 : s = 126
  · subst s6
    refine (take_leave (Q := fun b w' => TakePost8 gm gt B n i 126 m W (.returned (.bool b)) w') ?_).mono fun e w' ⟨b, he, hq⟩ => by rw [he]; exact hq.out
    rcases loop_split xs with hno | ⟨ys, x, zs, rfl, hx, hz⟩
    · refine (leave_no h hno i).mono fun e w' ⟨he, hc⟩ => ⟨false, he, Lib.hid (.inr ⟨?_, rfl, hlo hc⟩)⟩
      unfold nTake; rw [if_neg e12, if_neg s3, if_neg s4, if_neg s5, if_pos rfl, hop, leaveP_no]
      · rfl
      · intro z hz
        simp only [List.mem_reverse, List.mem_map] at hz
        obtain ⟨y, hy, rfl⟩ := hz
        exact hno y hy
    · have hop2 : m.op = (zs.map (·.p)).reverse ++ x.p :: (ys.map (·.p)).reverse := by rw [hop]; simp
      have hfx : x.p.left.length ≤ i := hf x.p (by rw [hop2]; simp)
      refine (leave_yes h hx hz i hi (by omega)).mono fun e w' hp => ⟨true, hp.1, Lib.hid (.inl ⟨_, ?_, hp.1 ▸ hp⟩)⟩
      unfold nTake; rw [if_neg e12, if_neg s3, if_neg s4, if_neg s5, if_pos rfl, hop2, leaveP_rev i _ _ hx]
      · rfl
      · intro z hz2
        simp only [List.mem_reverse, List.mem_map] at hz2
        obtain ⟨y, hy, rfl⟩ := hz2
        exact hz y hy
  · refine (take_plain s s1 s2 s3 s4 s5 s6).mono fun e w' ⟨he, hw⟩ => ?_
    subst hw
    exact .inl ⟨m, by unfold nTake; rw [if_neg e12, if_neg s3, if_neg s4, if_neg s5, if_neg s6], he, ⟨_, _, h⟩, Lo.refl _ _ _⟩
end
end Go.Proofs.YtbkfhndmeljlcaaGreatDoor
