/-
  EC: NestTake, NestMatch, NestRef.
-/
import Derived.Test.YtfhgnoajfipjdaaZEC5
import Derived.Test.YtfhgnoajfipjdaaZEC16
import Derived.Deep.QuietTactic
import Derived.BigQuiet
namespace Go.Proofs.Ytfhgnoajfipjdaa
open Go.RowKit
section
variable {W : World} {gm gt B n : Nat} {m : NSt} {vo : Value} {xs : List PV}
/-- A part is opened. -/
theorem Mt.push {W1 w' : World} {v' : Value} {lp : Bool} {i : Nat} (h : Mt W gm gt B n m vo xs) (hc : Chg [] W W1) (hi : i < n) (hn : xs.length < 16)
    (ho : w'.ownsRow B 248 4 v' (xs.length + 1) (pvCs xs ++ [.bool lp, .int .i64 (i : Int), .int .i64 (i : Int), .slice none 0 0])) (hg : W1.grownBy w' vo.ownBlock) :
    Mt (w'.setCell ⟨gm, 2, none⟩ v') gm gt B n ⟨m.tO, m.deep, ⟨lp, i, i, []⟩ :: m.op⟩ v' (xs ++ [⟨⟨lp, i, i, []⟩, .slice none 0 0⟩]) := by
  have h1 := h.keep hc
  have hlo := h.lo
  have hown : ∀ {e k q : Nat} {v : Value} {cs : List Value}, w'.ownsRow B e k v q cs → v.ownBlock ≠ some gm := fun ho hc => by
    have := (ho.lt gm hc).1; omega
  have hw : Whole w' gm 229 [.slice (some ⟨gt, 0, none⟩) n n, .int .i64 (m.deep : Int), vo] := whole_grown h1.rec_ h1.own (by decide) hg
  refine ⟨?_, (whole_grown h1.to_ h1.own (by decide) hg).far (by simp only; omega) _, h.len, by rw [h.op]; simp, ?_, fun y hy => ?_, ?_, h.lo, by simp; omega, h.deep, fun y hy => ?_, h.big, by rw [size_set]; exact Nat.le_trans h1.room hg.size⟩
  · have := hw.set_ 2 v'
    simpa using this
  · have ho2 := rown_far (u := v') (p := ⟨gm, 2, none⟩) ho (hown ho)
    rw [List.length_append, pvCs_app, pvCs_one]
    exact ho2
  · rcases List.mem_append.1 hy with hy | hy
    · have := rown_grown (h1.left y hy) h1.own (by decide) hg
      exact rown_far this (hown this)
    · simp only [List.mem_cons, List.not_mem_nil, or_false] at hy
      subst hy
      exact ⟨rfl, .inl ⟨rfl, rfl⟩⟩
  · rw [List.pairwise_append]
    refine ⟨h.apart, List.pairwise_singleton _ _, fun y hy z hz => ?_⟩
    simp only [List.mem_cons, List.not_mem_nil, or_false] at hz
    subst hz
    cases hy2 : y.v.ownBlock with
    | none => exact .inl rfl
    | some b => exact .inr (by simp [Value.ownBlock])
  · rcases List.mem_append.1 hy with hy | hy
    · exact h.wf y hy
    · simp only [List.mem_cons, List.not_mem_nil, or_false] at hy
      subst hy
      exact ⟨hi, hi, Nat.zero_le _, fun j hj => by cases hj⟩
/-- How deep. -/
theorem Mt.deeper (h : Mt W gm gt B n m vo xs) (d : Nat) (hd : d ≤ 16) : Mt (W.setCell ⟨gm, 1, none⟩ (.int .i64 (d : Int))) gm gt B n ⟨m.tO, d, m.op⟩ vo xs := by
  have hlo := h.lo
  have hown : ∀ {e k q : Nat} {v : Value} {cs : List Value}, W.ownsRow B e k v q cs → v.ownBlock ≠ some gm := fun ho hc => by
    have := (ho.lt gm hc).1; omega
  refine { h with rec_ := ?_, to_ := h.to_.far (by simp only; omega) _, own := rown_far h.own (hown h.own), left := fun y hy => rown_far (h.left y hy) (hown (h.left y hy)), deep := hd, room := by rw [size_set]; exact h.room }
  have := h.rec_.set_ 1 (.int .i64 (d : Int))
  simpa using this
theorem info_part : (Try.prog.info? 248).map (fun i => (i.zero, i.size, i.bytes)) = some (some (.agg #[.bool false, .int .i64 0, .int .i64 0, .slice none 0 0]), 4, 48) := by kernel_rfl
/-- What a token does. -/
def TakePost8 (gm gt B n i : Nat) (s : Int) (m : NSt) (W : World) (e : Ending) (w' : World) : Prop :=
  (∃ m', nTake i s m = some m' ∧ NextPost8 gm gt B n m' W e w') ∨ (nTake i s m = none ∧ e = .returned (.bool false) ∧ Lo B [gm, gt] W w')
set_option maxHeartbeats 4000000 in
set_option maxRecDepth 100000 in
theorem take_if (h : Mt W gm gt B n m vo xs) (i : Nat) (hi : i < n) : Calls Try.prog 151 #[.pointer (some ⟨gm, 0, none⟩), .int .i64 (i : Int), .int .i32 63] W (TakePost8 gm gt B n i 63 m W) := by
  obtain ⟨i0, hi0, hz0, hz1, hz2⟩ := info_parts info_part
  have hBW := h.room
  obtain ⟨A, c, rfl, hc1, hc2, _⟩ := rown_slice h.own
  have c2 := h.rec_.cell 2
  have hfew := h.few
  have hop : m.op.length = xs.length := by rw [h.op]; simp
  have hdp := h.deep
  have H := Lib.hid h
  obtain ⟨q, hq⟩ : ∃ q, q = xs.length := ⟨_, rfl⟩
  rw [← hq] at c2 hfew hc1
  have HQ := Lib.hid hq
  have HOP := Lib.hid hop
  have HDP := Lib.hid hdp
  have hal : Chg [] W (W.alloc (.cells #[.bool false, .int .i64 (i : Int), .int .i64 (i : Int), .slice none 0 0] 248)) := (Chg.refl [] W).alloc _
  have HAL := Lib.hid hal
  have HO1 := Lib.hid (show (W.alloc (.cells #[.bool false, .int .i64 (i : Int), .int .i64 (i : Int), .slice none 0 0] 248)).ownsRow B 248 4 (.slice A q c) q (pvCs xs) from by
    have h := rown_keep H.out.own hal
    rw [← hq] at h
    exact h)
  have q2 : (W.alloc (.cells #[.bool false, .int .i64 (i : Int), .int .i64 (i : Int), .slice none 0 0] 248)).cell? ⟨gm, 2, none⟩ = some (.slice A q c) := cell_keep (by simpa using c2) hal
  clear h hq hop hdp hal
  go_enter Try.func151, Try.ntmps151
  go_wp2_with (at_builtin
               refine wpList_append_own _ rfl (.tmp 15) (.tmp 21) _ rfl B 248 i0 _ 4 48 Try.underlying227 hi0 hz0 hz1 hz2 rfl (by decide) (.slice A q c) q (pvCs xs) rfl HO1.out ⟨W.heap.size, 0, none⟩ 1 1 [.bool false, .int .i64 (i : Int), .int .i64 (i : Int), .slice none 0 0] rfl rfl ?c1 ?c2 ?c3 ?c4 ?c5 ?_
               case c1 => exact cells_page _ _ _
               case c2 => simp [Value.oneCell']
               case c3 => simp only [maxLen]; omega
               case c4 => omega
               case c5 => simp; omega
               intro v' w6 ho6 hg6 _
               obtain ⟨A6, c6, rfl, hc61, _, _⟩ := rown_slice ho6
               have HO6 := Lib.hid ho6
               have HG6 := Lib.hid hg6
               have HW6 := Lib.hid (whole_grown (H.out.rec_.keep HAL.out) HO1.out (by decide) hg6)
               have k2 : w6.cell? ⟨gm, 2, none⟩ = some (.slice A q c) := by
                 have h := HW6.out.cell 2
                 rw [← HQ.out] at h
                 simpa using h
               have f2 := HW6.out.frozen 2
               clear ho6 hg6)
  go_upto_region 5 with fail
  have HW7 := Lib.hid (HW6.out.set_ 2 (.slice A6 (q + 1) c6))
  simp only [List.set_cons_zero, List.set_cons_succ] at HW7
  have HL7 := Lib.hid (show Lo B [gm, gt] W (w6.setCell ⟨gm, 2, none⟩ (.slice A6 (q + 1) c6)) from ((Lo.of_chg HAL.out (by simp)).trans (Lo.of_grown HO1.out (Nat.le_refl _) HG6.out)).trans (Lo.of_chg ((Chg.refl [gm] w6).setCell (p := ⟨gm, 2, none⟩) (by simp) _) (by simp)))
  have HM7 := Lib.hid (fun hq16 : xs.length < 16 => show Mt (w6.setCell ⟨gm, 2, none⟩ (.slice A6 (q + 1) c6)) gm gt B n ⟨m.tO, m.deep, ⟨false, i, i, []⟩ :: m.op⟩ (.slice A6 (q + 1) c6) (xs ++ [⟨⟨false, i, i, []⟩, .slice none 0 0⟩]) from H.out.push HAL.out hi hq16 (by rw [← HQ.out]; exact HO6.out) (by rw [← HQ.out]; exact HG6.out))
  generalize w6.setCell ⟨gm, 2, none⟩ (.slice A6 (q + 1) c6) = w7 at HW7 HL7 HM7 ⊢
  clear k2 f2 c2 q2
  have k1 := HW7.out.cell 1
  have k2 := HW7.out.cell 2
  have f1 := HW7.out.frozen 1
  go_wp2_with fail
  go_region
  have hmx : max (m.deep : Int) ((q : Int) + 1) = ((max m.deep (q + 1) : Nat) : Int) := by omega
  rw [hmx]
  clear hmx
  have HL8 := Lib.hid (show Lo B [gm, gt] W (w7.setCell ⟨gm, 1, none⟩ (.int .i64 ((max m.deep (q + 1) : Nat) : Int))).drew from HL7.out.trans (Lo.of_chg ((Chg.refl [gm] w7).setCell (p := ⟨gm, 1, none⟩) (by simp) _).drew (by simp)))
  have HW8 := Lib.hid (HW7.out.set_ 1 (.int .i64 ((max m.deep (q + 1) : Nat) : Int))).drew
  have HM8 := Lib.hid (fun hq16 : xs.length < 16 => (((HM7.out hq16).deeper (max m.deep (q + 1)) (by have := HDP.out; have := HQ.out; omega)).keep (Chg.refl [] _).drew))
  generalize (w7.setCell ⟨gm, 1, none⟩ (.int .i64 ((max m.deep (q + 1) : Nat) : Int))).drew = w8 at HL8 HW8 HM8 ⊢
  clear k1 k2 f1
  have k2 := HW8.out.cell 2
  by_cases hq16 : q < 16
  · have hle : (q : Int) + 1 ≤ 16 := by omega
    have HPO := Lib.hid (show TakePost8 gm gt B n i 63 m W (.returned (.bool true)) w8 from .inl ⟨_, by unfold nTake; rw [if_pos (by decide), HOP.out, ← HQ.out, if_pos (by omega)]; rfl, rfl, ⟨_, _, HM8.out (by rw [← HQ.out]; exact hq16)⟩, HL8.out⟩)
    go_wp2_with fail
    go_ret
    exact HPO.out
  · have hle : ¬ (q : Int) + 1 ≤ 16 := by omega
    have HPO := Lib.hid (show TakePost8 gm gt B n i 63 m W (.returned (.bool false)) w8 from .inr ⟨by unfold nTake; rw [if_pos (by decide), HOP.out, ← HQ.out, if_neg (by omega)], rfl, HL8.out⟩)
    go_wp2_with fail
    go_ret
    exact HPO.out
set_option maxHeartbeats 4000000 in
set_option maxRecDepth 100000 in
theorem take_loop (h : Mt W gm gt B n m vo xs) (i : Nat) (hi : i < n) : Calls Try.prog 151 #[.pointer (some ⟨gm, 0, none⟩), .int .i64 (i : Int), .int .i32 91] W (TakePost8 gm gt B n i 91 m W) := by
  obtain ⟨i0, hi0, hz0, hz1, hz2⟩ := info_parts info_part
  have hBW := h.room
  obtain ⟨A, c, rfl, hc1, hc2, _⟩ := rown_slice h.own
  have c2 := h.rec_.cell 2
  have hfew := h.few
  have hop : m.op.length = xs.length := by rw [h.op]; simp
  have hdp := h.deep
  have H := Lib.hid h
  obtain ⟨q, hq⟩ : ∃ q, q = xs.length := ⟨_, rfl⟩
  rw [← hq] at c2 hfew hc1
  have HQ := Lib.hid hq
  have HOP := Lib.hid hop
  have HDP := Lib.hid hdp
  have hal : Chg [] W (W.alloc (.cells #[.bool true, .int .i64 (i : Int), .int .i64 (i : Int), .slice none 0 0] 248)) := (Chg.refl [] W).alloc _
  have HAL := Lib.hid hal
  have HO1 := Lib.hid (show (W.alloc (.cells #[.bool true, .int .i64 (i : Int), .int .i64 (i : Int), .slice none 0 0] 248)).ownsRow B 248 4 (.slice A q c) q (pvCs xs) from by
    have h := rown_keep H.out.own hal
    rw [← hq] at h
    exact h)
  have q2 : (W.alloc (.cells #[.bool true, .int .i64 (i : Int), .int .i64 (i : Int), .slice none 0 0] 248)).cell? ⟨gm, 2, none⟩ = some (.slice A q c) := cell_keep (by simpa using c2) hal
  clear h hq hop hdp hal
  go_enter Try.func151, Try.ntmps151
  go_wp2_with (at_builtin
               refine wpList_append_own _ rfl (.tmp 15) (.tmp 21) _ rfl B 248 i0 _ 4 48 Try.underlying227 hi0 hz0 hz1 hz2 rfl (by decide) (.slice A q c) q (pvCs xs) rfl HO1.out ⟨W.heap.size, 0, none⟩ 1 1 [.bool true, .int .i64 (i : Int), .int .i64 (i : Int), .slice none 0 0] rfl rfl ?c1 ?c2 ?c3 ?c4 ?c5 ?_
               case c1 => exact cells_page _ _ _
               case c2 => simp [Value.oneCell']
               case c3 => simp only [maxLen]; omega
               case c4 => omega
               case c5 => simp; omega
               intro v' w6 ho6 hg6 _
               obtain ⟨A6, c6, rfl, hc61, _, _⟩ := rown_slice ho6
               have HO6 := Lib.hid ho6
               have HG6 := Lib.hid hg6
               have HW6 := Lib.hid (whole_grown (H.out.rec_.keep HAL.out) HO1.out (by decide) hg6)
               have k2 : w6.cell? ⟨gm, 2, none⟩ = some (.slice A q c) := by
                 have h := HW6.out.cell 2
                 rw [← HQ.out] at h
                 simpa using h
               have f2 := HW6.out.frozen 2
               clear ho6 hg6)
  go_upto_region 5 with fail
  have HW7 := Lib.hid (HW6.out.set_ 2 (.slice A6 (q + 1) c6))
  simp only [List.set_cons_zero, List.set_cons_succ] at HW7
  have HL7 := Lib.hid (show Lo B [gm, gt] W (w6.setCell ⟨gm, 2, none⟩ (.slice A6 (q + 1) c6)) from ((Lo.of_chg HAL.out (by simp)).trans (Lo.of_grown HO1.out (Nat.le_refl _) HG6.out)).trans (Lo.of_chg ((Chg.refl [gm] w6).setCell (p := ⟨gm, 2, none⟩) (by simp) _) (by simp)))
  have HM7 := Lib.hid (fun hq16 : xs.length < 16 => show Mt (w6.setCell ⟨gm, 2, none⟩ (.slice A6 (q + 1) c6)) gm gt B n ⟨m.tO, m.deep, ⟨true, i, i, []⟩ :: m.op⟩ (.slice A6 (q + 1) c6) (xs ++ [⟨⟨true, i, i, []⟩, .slice none 0 0⟩]) from H.out.push HAL.out hi hq16 (by rw [← HQ.out]; exact HO6.out) (by rw [← HQ.out]; exact HG6.out))
  generalize w6.setCell ⟨gm, 2, none⟩ (.slice A6 (q + 1) c6) = w7 at HW7 HL7 HM7 ⊢
  clear k2 f2 c2 q2
  have k1 := HW7.out.cell 1
  have k2 := HW7.out.cell 2
  have f1 := HW7.out.frozen 1
  go_wp2_with fail
  go_region
  have hmx : max (m.deep : Int) ((q : Int) + 1) = ((max m.deep (q + 1) : Nat) : Int) := by omega
  rw [hmx]
  clear hmx
  have HL8 := Lib.hid (show Lo B [gm, gt] W (w7.setCell ⟨gm, 1, none⟩ (.int .i64 ((max m.deep (q + 1) : Nat) : Int))).drew from HL7.out.trans (Lo.of_chg ((Chg.refl [gm] w7).setCell (p := ⟨gm, 1, none⟩) (by simp) _).drew (by simp)))
  have HW8 := Lib.hid (HW7.out.set_ 1 (.int .i64 ((max m.deep (q + 1) : Nat) : Int))).drew
  have HM8 := Lib.hid (fun hq16 : xs.length < 16 => (((HM7.out hq16).deeper (max m.deep (q + 1)) (by have := HDP.out; have := HQ.out; omega)).keep (Chg.refl [] _).drew))
  generalize (w7.setCell ⟨gm, 1, none⟩ (.int .i64 ((max m.deep (q + 1) : Nat) : Int))).drew = w8 at HL8 HW8 HM8 ⊢
  clear k1 k2 f1
  have k2 := HW8.out.cell 2
  by_cases hq16 : q < 16
  · have hle : (q : Int) + 1 ≤ 16 := by omega
    have HPO := Lib.hid (show TakePost8 gm gt B n i 91 m W (.returned (.bool true)) w8 from .inl ⟨_, by unfold nTake; rw [if_pos (by decide), HOP.out, ← HQ.out, if_pos (by omega)]; rfl, rfl, ⟨_, _, HM8.out (by rw [← HQ.out]; exact hq16)⟩, HL8.out⟩)
    go_wp2_with fail
    go_ret
    exact HPO.out
  · have hle : ¬ (q : Int) + 1 ≤ 16 := by omega
    have HPO := Lib.hid (show TakePost8 gm gt B n i 91 m W (.returned (.bool false)) w8 from .inr ⟨by unfold nTake; rw [if_pos (by decide), HOP.out, ← HQ.out, if_neg (by omega)], rfl, HL8.out⟩)
    go_wp2_with fail
    go_ret
    exact HPO.out
set_option maxHeartbeats 1000000 in
theorem take_halve {i : Nat} {Q : Bool → World → Prop} (h : Calls Try.prog 174 #[.pointer (some ⟨gm, 0, none⟩), .int .i64 (i : Int)] W fun e w' => ∃ b, e = .returned (.bool b) ∧ Hid (Q b w')) :
    Calls Try.prog 151 #[.pointer (some ⟨gm, 0, none⟩), .int .i64 (i : Int), .int .i32 58] W fun e w' => ∃ b, e = .returned (.bool b) ∧ Hid (Q b w') := by
  go_enter Try.func151, Try.ntmps151
  go_wp2_with fail
  refine h.mono ?_
  rintro e w1 ⟨b, rfl, hq⟩
  clear h
  go_wp2_with fail
  go_ret
  exact ⟨_, rfl, hq⟩
set_option maxHeartbeats 1000000 in
theorem take_endIf {i : Nat} {Q : Bool → World → Prop} (h : Calls Try.prog 175 #[.pointer (some ⟨gm, 0, none⟩), .int .i64 (i : Int)] W fun e w' => ∃ b, e = .returned (.bool b) ∧ Hid (Q b w')) :
    Calls Try.prog 151 #[.pointer (some ⟨gm, 0, none⟩), .int .i64 (i : Int), .int .i32 59] W fun e w' => ∃ b, e = .returned (.bool b) ∧ Hid (Q b w') := by
  go_enter Try.func151, Try.ntmps151
  go_wp2_with fail
  refine h.mono ?_
  rintro e w1 ⟨b, rfl, hq⟩
  clear h
  go_wp2_with fail
  go_ret
  exact ⟨_, rfl, hq⟩
set_option maxHeartbeats 1000000 in
theorem take_endLoop {i : Nat} {Q : Bool → World → Prop} (h : Calls Try.prog 176 #[.pointer (some ⟨gm, 0, none⟩), .int .i64 (i : Int)] W fun e w' => ∃ b, e = .returned (.bool b) ∧ Hid (Q b w')) :
    Calls Try.prog 151 #[.pointer (some ⟨gm, 0, none⟩), .int .i64 (i : Int), .int .i32 93] W fun e w' => ∃ b, e = .returned (.bool b) ∧ Hid (Q b w') := by
  go_enter Try.func151, Try.ntmps151
  go_wp2_with fail
  refine h.mono ?_
  rintro e w1 ⟨b, rfl, hq⟩
  clear h
  go_wp2_with fail
  go_ret
  exact ⟨_, rfl, hq⟩
set_option maxHeartbeats 1000000 in
theorem take_leave {i : Nat} {Q : Bool → World → Prop} (h : Calls Try.prog 177 #[.pointer (some ⟨gm, 0, none⟩), .int .i64 (i : Int)] W fun e w' => ∃ b, e = .returned (.bool b) ∧ Hid (Q b w')) :
    Calls Try.prog 151 #[.pointer (some ⟨gm, 0, none⟩), .int .i64 (i : Int), .int .i32 126] W fun e w' => ∃ b, e = .returned (.bool b) ∧ Hid (Q b w') := by
  go_enter Try.func151, Try.ntmps151
  go_wp2_with fail
  refine h.mono ?_
  rintro e w1 ⟨b, rfl, hq⟩
  clear h
  go_wp2_with fail
  go_ret
  exact ⟨_, rfl, hq⟩
set_option maxHeartbeats 1000000 in
theorem take_plain {i : Nat} (s : Int) (h1 : s ≠ 63) (h2 : s ≠ 91) (h3 : s ≠ 58) (h4 : s ≠ 59) (h5 : s ≠ 93) (h6 : s ≠ 126) :
    Calls Try.prog 151 #[.pointer (some ⟨gm, 0, none⟩), .int .i64 (i : Int), .int .i32 s] W fun e w' => e = .returned (.bool true) ∧ W = w' := by
  have k1 : (s == 63) = false := by simpa using h1
  have k2 : (s == 91) = false := by simpa using h2
  have k3 : (s == 58) = false := by simpa using h3
  have k4 : (s == 59) = false := by simpa using h4
  have k5 : (s == 93) = false := by simpa using h5
  have k6 : (s == 126) = false := by simpa using h6
  clear h1 h2 h3 h4 h5 h6
  go_enter Try.func151, Try.ntmps151
  go_wp2_with fail
  go_ret
  exact ⟨rfl, rfl⟩
/-- No part has more ~ than there were tokens. -/
def Few (i : Nat) (m : NSt) : Prop := ∀ p ∈ m.op, p.left.length ≤ i
theorem few_leave {i : Nat} : ∀ {l o : List NPart}, (∀ p ∈ l, p.left.length ≤ i) → leaveP i l = some o → ∀ p ∈ o, p.left.length ≤ i + 1 := fun {l o} h ho => by
  obtain ⟨a, p, r, rfl, _, _, rfl⟩ := leaveP_split ho
  intro q hq
  rcases List.mem_append.1 hq with hq | hq
  · have := h q (List.mem_append_left _ hq); omega
  · rcases List.mem_cons.1 hq with rfl | hq
    · have := h p (by simp); simp; omega
    · have := h q (by simp [hq]); omega
theorem few_take {i : Nat} {s : Int} {m m' : NSt} (h : Few i m) (ht : nTake i s m = some m') : Few (i + 1) m' := by
  have hm : ∀ p ∈ m.op, p.left.length ≤ i + 1 := fun p hp => by have := h p hp; omega
  unfold nTake at ht
  split at ht
  · split at ht
    · injection ht with ht; subst ht
      intro p hp
      rcases List.mem_cons.1 hp with rfl | hp
      · simp
      · exact hm p hp
    · cases ht
  split at ht
  · split at ht
    · rename_i p r hop
      split at ht
      · injection ht with ht; subst ht
        intro q hq
        rcases List.mem_cons.1 hq with rfl | hq
        · exact hm p (by rw [hop]; simp)
        · exact hm q (by rw [hop]; simp [hq])
      · cases ht
    · cases ht
  split at ht
  · split at ht
    · rename_i p r hop
      split at ht
      · injection ht with ht; subst ht
        exact fun q hq => hm q (by rw [hop]; simp only at hq; simp [hq])
      · cases ht
    · cases ht
  split at ht
  · split at ht
    · rename_i p r hop
      split at ht
      · injection ht with ht; subst ht
        exact fun q hq => hm q (by rw [hop]; simp only at hq; simp [hq])
      · cases ht
    · cases ht
  split at ht
  · cases ho : leaveP i m.op with
    | none => rw [ho] at ht; cases ht
    | some o =>
      rw [ho] at ht
      injection ht with ht; subst ht
      exact few_leave h ho
  · injection ht with ht; subst ht
    exact hm
theorem last_split {α : Type} (l : List α) : l = [] ∨ ∃ ys x, l = ys ++ [x] := by
  rcases List.eq_nil_or_concat l with h | ⟨ys, x, h⟩
  · exact .inl h
  · exact .inr ⟨ys, x, by simpa using h⟩
theorem loop_split : ∀ l : List PV, (∀ x ∈ l, x.p.loop = false) ∨ ∃ ys x zs, l = ys ++ x :: zs ∧ x.p.loop = true ∧ ∀ z ∈ zs, z.p.loop = false
  | [] => .inl fun x hx => by cases hx
  | a :: l => by
    rcases loop_split l with h | ⟨ys, x, zs, rfl, h1, h2⟩
    · by_cases hl : a.p.loop = true
      · exact .inr ⟨[], a, l, rfl, hl, h⟩
      · refine .inl fun x hx => ?_
        rcases List.mem_cons.1 hx with rfl | hx
        · simpa using hl
        · exact h x hx
    · exact .inr ⟨a :: ys, x, zs, rfl, h1, h2⟩
theorem take_any (h : Mt W gm gt B n m vo xs) (i : Nat) (hi : i < n) (s : Int) (hf : Few i m) : Calls Try.prog 151 #[.pointer (some ⟨gm, 0, none⟩), .int .i64 (i : Int), .int .i32 s] W (TakePost8 gm gt B n i s m W) := by
  have hlo : ∀ {w' : World}, Chg [] W w' → Lo B [gm, gt] W w' := fun hc => Lo.of_chg hc (by simp)
  by_cases s1 : s = 63
  · subst s1; exact take_if h i hi
  by_cases s2 : s = 91
  · subst s2; exact take_loop h i hi
  have e12 : ¬ (s = 63 ∨ s = 91) := by simp [s1, s2]
  have hop := h.op
  by_cases s3 : s = 58
  · subst s3
    refine (take_halve (Q := fun b w' => TakePost8 gm gt B n i 58 m W (.returned (.bool b)) w') ?_).mono fun e w' ⟨b, he, hq⟩ => by rw [he]; exact hq.out
    rcases last_split xs with rfl | ⟨ys, x, rfl⟩
    · refine (halve_none h i).mono fun e w' ⟨he, hc⟩ => ⟨false, he, Lib.hid (.inr ⟨?_, rfl, hlo hc⟩)⟩
      simp only [List.map_nil, List.reverse_nil] at hop
      unfold nTake; rw [if_neg e12, if_pos rfl, hop]
    · simp only [List.map_append, List.map_cons, List.map_nil, List.reverse_append, List.reverse_cons, List.reverse_nil, List.nil_append, List.cons_append] at hop
      by_cases hc : x.p.loop = false ∧ x.p.waits = x.p.at_
      · refine (halve_yes h hc.1 hc.2 i hi).mono fun e w' hp => ⟨true, hp.1, Lib.hid (.inl ⟨_, ?_, hp.1 ▸ hp⟩)⟩
        unfold nTake; rw [if_neg e12, if_pos rfl, hop]; simp only; rw [if_pos hc]
      · refine (halve_no h (by
          by_cases hl : x.p.loop = true
          · exact .inl hl
          · exact .inr fun e => hc ⟨by simpa using hl, e⟩) i).mono fun e w' ⟨he, hcc⟩ => ⟨false, he, Lib.hid (.inr ⟨?_, rfl, hlo hcc⟩)⟩
        unfold nTake; rw [if_neg e12, if_pos rfl, hop]; simp only; rw [if_neg hc]
  by_cases s4 : s = 59
  · subst s4
    refine (take_endIf (Q := fun b w' => TakePost8 gm gt B n i 59 m W (.returned (.bool b)) w') ?_).mono fun e w' ⟨b, he, hq⟩ => by rw [he]; exact hq.out
    rcases last_split xs with rfl | ⟨ys, x, rfl⟩
    · refine (endIf_none h i).mono fun e w' ⟨he, hc⟩ => ⟨false, he, Lib.hid (.inr ⟨?_, rfl, hlo hc⟩)⟩
      simp only [List.map_nil, List.reverse_nil] at hop
      unfold nTake; rw [if_neg e12, if_neg s3, if_pos rfl, hop]
    · simp only [List.map_append, List.map_cons, List.map_nil, List.reverse_append, List.reverse_cons, List.reverse_nil, List.nil_append, List.cons_append] at hop
      by_cases hc : x.p.loop = false
      · refine (endIf_yes h hc i).mono fun e w' hp => ⟨true, hp.1, Lib.hid (.inl ⟨_, ?_, hp.1 ▸ hp⟩)⟩
        unfold nTake; rw [if_neg e12, if_neg s3, if_pos rfl, hop]; simp only; rw [if_pos hc]
      · refine (endIf_no h (by simpa using hc) i).mono fun e w' ⟨he, hcc⟩ => ⟨false, he, Lib.hid (.inr ⟨?_, rfl, hlo hcc⟩)⟩
        unfold nTake; rw [if_neg e12, if_neg s3, if_pos rfl, hop]; simp only; rw [if_neg hc]
  by_cases s5 : s = 93
  · subst s5
    refine (take_endLoop (Q := fun b w' => TakePost8 gm gt B n i 93 m W (.returned (.bool b)) w') ?_).mono fun e w' ⟨b, he, hq⟩ => by rw [he]; exact hq.out
    rcases last_split xs with rfl | ⟨ys, x, rfl⟩
    · refine (endLoop_none h i).mono fun e w' ⟨he, hc⟩ => ⟨false, he, Lib.hid (.inr ⟨?_, rfl, hlo hc⟩)⟩
      simp only [List.map_nil, List.reverse_nil] at hop
      unfold nTake; rw [if_neg e12, if_neg s3, if_neg s4, if_pos rfl, hop]
    · simp only [List.map_append, List.map_cons, List.map_nil, List.reverse_append, List.reverse_cons, List.reverse_nil, List.nil_append, List.cons_append] at hop
      by_cases hc : x.p.loop = true
      · refine (endLoop_yes h hc i hi).mono fun e w' hp => ⟨true, hp.1, Lib.hid (.inl ⟨_, ?_, hp.1 ▸ hp⟩)⟩
        unfold nTake; rw [if_neg e12, if_neg s3, if_neg s4, if_pos rfl, hop]; simp only; rw [if_pos hc]
      · refine (endLoop_no h (by simpa using hc) i).mono fun e w' ⟨he, hcc⟩ => ⟨false, he, Lib.hid (.inr ⟨?_, rfl, hlo hcc⟩)⟩
        unfold nTake; rw [if_neg e12, if_neg s3, if_neg s4, if_pos rfl, hop]; simp only; rw [if_neg hc]
  by_cases s6 : s = 126
  · subst s6
    refine (take_leave (Q := fun b w' => TakePost8 gm gt B n i 126 m W (.returned (.bool b)) w') ?_).mono fun e w' ⟨b, he, hq⟩ => by rw [he]; exact hq.out
    rcases loop_split xs with hno | ⟨ys, x, zs, rfl, hx, hz⟩
    · refine (leave_no h hno i).mono fun e w' ⟨he, hc⟩ => ⟨false, he, Lib.hid (.inr ⟨?_, rfl, hlo hc⟩)⟩
      unfold nTake; rw [if_neg e12, if_neg s3, if_neg s4, if_neg s5, if_pos rfl, hop, leaveP_no]
      · rfl
      · intro z hz
        simp only [List.mem_reverse, List.mem_map] at hz
        obtain ⟨y, hy, rfl⟩ := hz
        exact hno y hy
    · have hop2 : m.op = (zs.map (·.p)).reverse ++ x.p :: (ys.map (·.p)).reverse := by rw [hop]; simp
      have hfx : x.p.left.length ≤ i := hf x.p (by rw [hop2]; simp)
      refine (leave_yes h hx hz i hi (by omega)).mono fun e w' hp => ⟨true, hp.1, Lib.hid (.inl ⟨_, ?_, hp.1 ▸ hp⟩)⟩
      unfold nTake; rw [if_neg e12, if_neg s3, if_neg s4, if_neg s5, if_pos rfl, hop2, leaveP_rev i _ _ hx]
      · rfl
      · intro z hz2
        simp only [List.mem_reverse, List.mem_map] at hz2
        obtain ⟨y, hy, rfl⟩ := hz2
        exact hz y hy
  · refine (take_plain s s1 s2 s3 s4 s5 s6).mono fun e w' ⟨he, hw⟩ => ?_
    subst hw
    exact .inl ⟨m, by unfold nTake; rw [if_neg e12, if_neg s3, if_neg s4, if_neg s5, if_neg s6], he, ⟨_, _, h⟩, Lo.refl _ _ _⟩
end
end Go.Proofs.Ytfhgnoajfipjdaa
namespace Go.Proofs.Ytfhgnoajfipjdaa
open Go.RowKit
theorem make_ints (W : World) (n : Nat) (hn : n ≤ 100000) : (Instr.makeSlice 22 (.int .i64 (n : Int)) (.int .i64 (n : Int))).run Try.prog W = .ok (.slice (some ⟨W.heap.size, 0, none⟩) n n) (W.alloc (.cells (nms (List.replicate n 0)).toArray 3)) := by
  obtain ⟨i, hi, hz, hs1, hb⟩ := info_parts info_int
  have : nms (List.replicate n 0) = List.replicate n (.int .i64 0) := by simp [nms]
  rw [this]
  exact run_make1 22 3 i (.int .i64 0) rfl Try.underlying22 hi hz hs1 n (by rw [hb]; omega) (by omega) W
/-- What match answers. -/
def MatchPost (n : Nat) (r : Option (List Int × Nat)) (W : World) (e : Ending) (w' : World) : Prop :=
  Chg [] W w' ∧ ((∃ t d g, r = some (t, d) ∧ t.length = n ∧ e = .returned (.tuple #[.slice (some ⟨g, 0, none⟩) n n, .int .i64 (d : Int), .bool true]) ∧ Whole w' g 3 (nms t) ∧ d ≤ 16) ∨
    (r = none ∧ ∃ v d, e = .returned (.tuple #[v, .int .i64 d, .bool false])))
section
variable {W : World} {A : Option Addr} {n c : Nat} {l : List TkV}
set_option maxHeartbeats 4000000 in
set_option maxRecDepth 100000 in
theorem match_any (h : Tks W A n c l) : Calls Try.prog 100 #[.slice A n c] W (MatchPost n (nNest (signs l)) W) := by
  have hmax := h.max
  have hmk := fun W : World => make_ints W n hmax
  have H := Lib.hid h
  have hsl : (signs l).length = n := by unfold signs; rw [List.length_map]; exact h.len
  have HSL := Lib.hid hsl
  clear h hsl
  go_enter Try.func100, Try.ntmps100
  go_upto_region 2 with fail
  have hT := Whole.new W 3 (nms (List.replicate n 0))
  have hc1 : Chg [] W (W.alloc (.cells (nms (List.replicate n 0)).toArray 3)) := (Chg.refl [] W).alloc _
  obtain ⟨gt, hgt⟩ : ∃ g, g = W.heap.size := ⟨_, rfl⟩
  rw [← hgt] at hT
  have hsz : (W.alloc (.cells (nms (List.replicate n 0)).toArray 3)).heap.size = gt + 1 := by rw [hgt]; simp
  have hM := Whole.new (W.alloc (.cells (nms (List.replicate n 0)).toArray 3)) 229 [.slice (some ⟨gt, 0, none⟩) n n, .int .i64 0, .slice none 0 0]
  rw [hsz] at hM
  have hal2 : Chg [] (W.alloc (.cells (nms (List.replicate n 0)).toArray 3)) ((W.alloc (.cells (nms (List.replicate n 0)).toArray 3)).alloc (.cells #[.slice (some ⟨gt, 0, none⟩) n n, .int .i64 0, .slice none 0 0] 229)) := (Chg.refl [] _).alloc _
  have hT2 := hT.keep hal2
  have hc2 := hc1.new hal2
  have hsz2 : ((W.alloc (.cells (nms (List.replicate n 0)).toArray 3)).alloc (.cells #[.slice (some ⟨gt, 0, none⟩) n n, .int .i64 0, .slice none 0 0] 229)).heap.size = gt + 2 := by rw [hgt]; simp
  rw [← hgt]
  generalize (W.alloc (.cells (nms (List.replicate n 0)).toArray 3)).alloc (.cells #[.slice (some ⟨gt, 0, none⟩) n n, .int .i64 0, .slice none 0 0] 229) = w2 at hM hT2 hc2 hsz2 ⊢
  have HM0 := Lib.hid (show Mt w2 (gt + 1) gt (gt + 2) n ⟨List.replicate (signs l).length 0, 0, []⟩ (.slice none 0 0) [] from
    ⟨hM, by rw [HSL.out]; exact hT2, by rw [List.length_replicate]; exact HSL.out, rfl, World.ownsRow_nil _ _ _ _, fun x hx => (by cases hx), List.Pairwise.nil, by omega, by simp, by simp, fun x hx => (by cases hx), hmax, by omega⟩)
  have HC2 := Lib.hid hc2
  have HGT := Lib.hid hgt
  clear hT hc1 hsz hM hal2 hT2 hc2 hsz2 hgt hmk
  go_wp2_with fail
  go_loopw [6, 7, 14] (fun _ _ s wr => ∃ k : Nat, k ≤ n ∧ s = .int .i64 (k : Int) ∧ (∃ m vo xs, Hid (Mt wr (gt + 1) gt (gt + 2) n m vo xs) ∧ Few k m ∧ nRun 0 (signs l) ⟨List.replicate (signs l).length 0, 0, []⟩ = nRun k ((signs l).drop k) m) ∧ Hid (Chg [] W wr)) (fun _ _ s _ => n - (intOf s).toNat)
  case atStart => exact ⟨0, Nat.zero_le _, rfl, ⟨_, _, _, HM0, fun p hp => (by cases hp), rfl⟩, HC2⟩
  case round =>
    obtain ⟨k, hk, rfl, ⟨m, vo, xs, HM, hfew, hrun⟩, HCr⟩ := hrel
    have HF := Lib.hid hfew
    have HRUN := Lib.hid hrun
    clear hfew hrun
    by_cases hlt : k < n
    · have hltI : (k : Int) < (n : Int) := by omega
      have hk0 : (0 : Int) ≤ (k : Int) := by omega
      have hkl : k < l.length := by rw [H.out.len]; exact hlt
      obtain ⟨b, o, rfl, hb, t0, t1, t2⟩ := (H.out.keep HCr.out).cell (List.getElem?_eq_getElem hkl)
      have HS := Lib.hid (show (signs l).drop k = (l[k]).sign :: (signs l).drop (k + 1) from by
        rw [List.drop_eq_getElem_cons (by rw [HSL.out]; exact hlt)]
        congr 1
        simp [signs])
      generalize l[k] = t at t0 t1 t2 HS
      obtain ⟨ts, tn, tm⟩ := t
      simp only at t0 t1 t2 HS
      go_upto_region 5 with fail
      have hal : Chg [] wr (wr.alloc (.cells #[.int .i32 ts, .int .i64 tn, .int .i32 tm] 167)) := (Chg.refl [] wr).alloc _
      have hN : Whole (wr.alloc (.cells #[.int .i32 ts, .int .i64 tn, .int .i32 tm] 167)) wr.heap.size 167 [.int .i32 ts, .int .i64 tn, .int .i32 tm] := Whole.new wr 167 [.int .i32 ts, .int .i64 tn, .int .i32 tm]
      have hbt : gt < wr.heap.size := HM.out.to_.lt
      obtain ⟨g7, hg7⟩ : ∃ g, g = wr.heap.size := ⟨_, rfl⟩
      rw [← hg7] at hN hbt ⊢
      generalize wr.alloc (.cells #[.int .i32 ts, .int .i64 tn, .int .i32 tm] 167) = w3 at hal hN ⊢
      have HM3 := Lib.hid (HM.out.keep hal)
      have HC3 := Lib.hid (HCr.out.new hal)
      have HN3 := Lib.hid hN
      clear hal hN hg7 t0 t1 t2
      have c0 := HM3.out.rec_.cell 0
      have hkt : k < m.tO.length := by rw [HM3.out.len]; exact hlt
      have t0 : w3.cell? ⟨gt, k, none⟩ = some (.int .i64 (m.tO[k]'hkt)) := (HM3.out.to_.cell k).trans (nms_get _ _ hkt)
      have f0 := HM3.out.to_.frozen k
      go_upto_region 6 with fail
      have HM4 := Lib.hid (HM3.out.poke k (-1))
      have HL4 := Lib.hid (show Lo (gt + 2) [gt + 1, gt] w3 (w3.setCell ⟨gt, k, none⟩ (.int .i64 (-1))) from Lo.of_chg ((Chg.refl [gt] w3).setCell (p := ⟨gt, k, none⟩) (by simp) _) (by simp))
      have HC4 := Lib.hid (HL4.out.chg HC3.out (by have := HGT.out; omega) (by have := HGT.out; simp; omega))
      have HN4 := Lib.hid (HN3.out.far (p := ⟨gt, k, none⟩) (by simp only; omega) (.int .i64 (-1)))
      generalize w3.setCell ⟨gt, k, none⟩ (.int .i64 (-1)) = w4 at HM4 HL4 HC4 HN4 ⊢
      clear c0 t0 f0
      have n0 := HN4.out.cell 0
      go_wp2_with fail
      refine (take_any HM4.out k hlt ts HF.out).mono ?_
      rintro e w5 (⟨m', ht, rfl, ⟨vo', xs', hM5⟩, hL5⟩ | ⟨ht, rfl, hL5⟩)
      · have HM5 := Lib.hid hM5
        have HF5 := Lib.hid (few_take (m := ⟨m.tO.set k (-1), m.deep, m.op⟩) HF.out ht)
        have HR5 := Lib.hid (show nRun 0 (signs l) ⟨List.replicate (signs l).length 0, 0, []⟩ = nRun (k + 1) ((signs l).drop (k + 1)) m' from by rw [HRUN.out, HS.out, nRun, ht]; rfl)
        have HC5 := Lib.hid (hL5.chg HC4.out (by have := HGT.out; omega) (by have := HGT.out; simp; omega))
        clear hM5 hL5 ht n0
        go_wp2_with fail
        go_roundw
        case rel => exact ⟨k + 1, by omega, by go_num, ⟨_, _, _, HM5, HF5.out, HR5.out⟩, HC5⟩
        case measure => simp [intOf]; omega
      · have HR5 := Lib.hid (show nNest (signs l) = none from by unfold nNest; rw [HRUN.out, HS.out, nRun, ht]; rfl)
        have HC5 := Lib.hid (hL5.chg HC4.out (by have := HGT.out; omega) (by have := HGT.out; simp; omega))
        have HPO := Lib.hid (show MatchPost n (nNest (signs l)) W (.returned (.tuple #[.slice none 0 0, .int .i64 0, .bool false])) w5 from ⟨HC5.out, .inr ⟨HR5.out, _, _, rfl⟩⟩)
        clear hL5 ht n0
        go_wp2_with fail
        go_ret3
        exact HPO.out
    · have hltI : ¬ (k : Int) < (n : Int) := by omega
      have HR5 := Lib.hid (show nRun 0 (signs l) ⟨List.replicate (signs l).length 0, 0, []⟩ = some m from by rw [HRUN.out, List.drop_eq_nil_of_le (by rw [HSL.out]; omega)]; rfl)
      have c0 := HM.out.rec_.cell 0
      have c1 := HM.out.rec_.cell 1
      have c2 := HM.out.rec_.cell 2
      obtain ⟨Ao, co, rfl, _, _, _⟩ := rown_slice HM.out.own
      have hop : m.op.length = xs.length := by rw [HM.out.op]; simp
      obtain ⟨q, hq⟩ : ∃ q, q = xs.length := ⟨_, rfl⟩
      rw [← hq] at c2 hop
      have HOP := Lib.hid hop
      have hfq := HM.out.few
      rw [← hq] at hfq
      clear hop hq
      have hdec : ((q : Int) == 0) = decide (q = 0) := by rw [Bool.eq_iff_iff]; simp
      go_wp2_with fail
      go_quiet (fail)
      have HPO := Lib.hid (show MatchPost n (nNest (signs l)) W (.returned (.tuple #[.slice (some ⟨gt, 0, none⟩) n n, .int .i64 (m.deep : Int), .bool (decide (q = 0))])) (wr.drewN nq) from by
        refine ⟨HCr.out.drewN _, ?_⟩
        by_cases h0 : q = 0
        · refine .inl ⟨m.tO, m.deep, gt, ?_, HM.out.len, by simp [h0], (HM.out.to_.drewN _), HM.out.deep⟩
          unfold nNest
          have : m.op = [] := List.eq_nil_of_length_eq_zero (by rw [HOP.out]; exact h0)
          rw [HR5.out]; simp [this]
        · refine .inr ⟨?_, _, _, by simp [h0]; exact ⟨rfl, rfl⟩⟩
          unfold nNest
          have : m.op ≠ [] := fun e => h0 (by rw [← HOP.out, e]; rfl)
          rw [HR5.out]; simp [this])
      go_wp2_with fail
      go_ret3
      exact HPO.out
end
end Go.Proofs.Ytfhgnoajfipjdaa
namespace Go.Proofs.Ytfhgnoajfipjdaa
open Go.RowKit
/-- The reference's state in memory. -/
structure Rt (W : World) (gt B n : Nat) (m : RSt) (vo : Value) : Prop where
  to_ : Whole W gt 3 (nms m.tO)
  len : m.tO.length = n
  own : W.ownsRow B 3 1 vo m.op.length (nts m.op.reverse)
  lo : gt < B
  few : m.op.length ≤ 16
  deep : m.deep ≤ 16
  wf : ∀ p ∈ m.op, p < n
  big : n ≤ 100000
  room : B ≤ W.heap.size
section
variable {W W' : World} {gt B n : Nat} {m : RSt} {vo : Value}
theorem Rt.keep (h : Rt W gt B n m vo) (hc : Chg [] W W') : Rt W' gt B n m vo :=
  { h with to_ := h.to_.keep hc, own := own_keep h.own hc, room := Nat.le_trans h.room hc.size }
theorem Rt.poke (h : Rt W gt B n m vo) (j : Nat) (x : Int) : Rt (W.setCell ⟨gt, j, none⟩ (.int .i64 x)) gt B n ⟨m.tO.set j x, m.deep, m.op⟩ vo := by
  refine { h with to_ := ?_, len := by rw [List.length_set]; exact h.len, own := rown_far h.own (fun hc => by have := (h.own.lt gt hc).1; have := h.lo; omega), room := by rw [size_set]; exact h.room }
  have := h.to_.set_ j (.int .i64 x)
  rwa [nms_set] at this
theorem Rt.top {p : Nat} {r : List Nat} (h : Rt W gt B n m vo) (hm : m.op = p :: r) : ∃ g c, vo = .slice (some ⟨g, 0, none⟩) (r.length + 1) c ∧ r.length + 1 ≤ c ∧ W.cell? ⟨g, r.length, none⟩ = some (.int .i64 (p : Int)) ∧ W.frozen? ⟨g, r.length, none⟩ = false ∧ B ≤ g ∧ g < W.heap.size ∧ p < n ∧ r.length < 16 := by
  have ho := h.own
  have hf := h.few
  rw [hm] at ho hf
  simp only [List.length_cons] at ho hf
  obtain ⟨A, c, rfl, h1, _, _⟩ := rown_slice ho
  obtain ⟨g, rfl, hc⟩ := rown_cell ho rfl (j := r.length) (u := .int .i64 (p : Int)) (by simp [nts])
  exact ⟨g, c, rfl, h1, hc, rown_frozen ho, (ho.lt g rfl).1, (ho.lt g rfl).2, h.wf p (by rw [hm]; simp), by omega⟩
theorem Rt.waits {p : Nat} {r : List Nat} {g c : Nat} (h : Rt W gt B n m vo) (hm : m.op = p :: r) (hv : vo = .slice (some ⟨g, 0, none⟩) (r.length + 1) c) (i : Nat) (hi : i < n) :
    Rt (W.setCell ⟨g, r.length, none⟩ (.int .i64 (i : Int))) gt B n ⟨m.tO, m.deep, i :: r⟩ vo := by
  subst hv
  have ho := h.own
  rw [hm] at ho
  simp only [List.length_cons] at ho
  have hB := (ho.lt g rfl).1
  have hlo := h.lo
  refine ⟨h.to_.far (by simp only; omega) _, h.len, ?_, h.lo, by have := h.few; rw [hm] at this; exact this, h.deep, fun q hq => ?_, h.big, by rw [size_set]; exact h.room⟩
  · have := rown_set (j := r.length) (u := .int .i64 (i : Int)) ho
    have e : (nts (p :: r).reverse).set r.length (.int .i64 (i : Int)) = nts (i :: r).reverse := by
      simp only [nts, List.reverse_cons, List.map_append, List.map_cons, List.map_nil]
      rw [List.set_append_right _ _ (by simp)]
      simp
    rw [e] at this
    exact this
  · rcases List.mem_cons.1 hq with rfl | hq
    · exact hi
    · exact h.wf q (by rw [hm]; simp [hq])
theorem Rt.drop {p : Nat} {r : List Nat} {g c : Nat} (h : Rt W gt B n m vo) (hm : m.op = p :: r) (hv : vo = .slice (some ⟨g, 0, none⟩) (r.length + 1) c) : Rt W gt B n ⟨m.tO, m.deep, r⟩ (.slice (some ⟨g, 0, none⟩) r.length c) := by
  subst hv
  have ho := h.own
  rw [hm] at ho
  simp only [List.length_cons] at ho
  have ht := rown_take (q' := r.length) ho (by omega) (by simp)
  refine { h with own := ?_, few := by have := h.few; rw [hm] at this; simp at this ⊢; omega, wf := fun q hq => h.wf q (by rw [hm]; simp [show q ∈ r from hq]) }
  have e : (nts (p :: r).reverse).take (r.length * 1) = nts r.reverse := by
    simp only [nts, List.reverse_cons, List.map_append, Nat.mul_one]
    rw [List.take_left' (by simp)]
  rw [e] at ht
  exact ht
theorem Rt.push {W1 w' : World} {v' : Value} {i : Nat} (h : Rt W gt B n m vo) (hc : Chg [] W W1) (hi : i < n) (hn : m.op.length < 16) (d : Nat) (hd : d ≤ 16)
    (ho : w'.ownsRow B 3 1 v' (m.op.length + 1) (nts m.op.reverse ++ [.int .i64 (i : Int)])) (hg : W1.grownBy w' vo.ownBlock) : Rt w' gt B n ⟨m.tO, d, i :: m.op⟩ v' := by
  have h1 := h.keep hc
  refine ⟨?_, h.len, ?_, h.lo, by simp; omega, hd, fun q hq => ?_, h.big, Nat.le_trans h1.room hg.size⟩
  · unfold Whole
    rw [hg.block gt h1.to_.lt (fun hc => by have := (h1.own.lt gt hc.symm).1; have := h.lo; omega)]
    exact h1.to_
  · simp only [List.length_cons, List.reverse_cons, nts_app]
    exact ho
  · rcases List.mem_cons.1 hq with rfl | hq
    · exact hi
    · exact h.wf q hq
end
section
variable {W : World} {A : Option Addr} {n c gt : Nat} {l : List TkV} {t : List Int}
theorem Tks.sign (h : Tks W A n c l) {k : Nat} {s : Int} (hk : (signs l)[k]? = some s) : ∃ b o, A = some ⟨b, o, none⟩ ∧ b < W.heap.size ∧ W.cell? ⟨b, o + k * 3, none⟩ = some (.int .i32 s) := by
  unfold signs at hk
  rw [List.getElem?_map] at hk
  cases hl : l[k]? with
  | none => rw [hl] at hk; cases hk
  | some t =>
    rw [hl] at hk
    injection hk with hk
    subst hk
    obtain ⟨b, o, e, hb, h0, _, _⟩ := h.cell hl
    exact ⟨b, o, e, hb, h0⟩
set_option maxHeartbeats 2000000 in
theorem leaves_any (h : Tks W A n c l) (ht : Whole W gt 3 (nms t)) (htl : t.length = n) (at_ : Nat) (hat : at_ < n) :
    Calls Try.prog 134 #[.slice A n c, .slice (some ⟨gt, 0, none⟩) n n, .int .i64 (at_ : Int)] W fun e w' => e = .returned (.int .i64 (leavesV (signs l) t at_ (n - at_) at_)) ∧ W = w' := by
  have hmax := h.max
  have hsl : (signs l).length = n := by unfold signs; rw [List.length_map]; exact h.len
  have H := Lib.hid h
  have HT := Lib.hid ht
  have HTL := Lib.hid htl
  have HSL := Lib.hid hsl
  clear h ht htl hsl
  go_enter Try.func134, Try.ntmps134
  go_wp2_with fail
  go_loop [7] (fun s => ∃ j : Nat, at_ ≤ j ∧ j ≤ n ∧ s = .int .i64 (j : Int) ∧ Hid (leavesV (signs l) t at_ (n - at_) at_ = leavesV (signs l) t at_ (n - j) j)) (fun s => n - (intOf s).toNat)
  case atStart => exact ⟨at_, Nat.le_refl _, by omega, rfl, Lib.hid rfl⟩
  case round =>
    obtain ⟨j, h0, h1, rfl, HV⟩ := hrel
    by_cases hlt : j < n
    · have hltI : (j : Int) < (n : Int) := by omega
      have hj0 : (0 : Int) ≤ (j : Int) := by omega
      obtain ⟨s, hs⟩ : ∃ s, (signs l)[j]? = some s := ⟨_, List.getElem?_eq_getElem (by rw [HSL.out]; exact hlt)⟩
      obtain ⟨b, o, rfl, _, t0⟩ := H.out.sign hs
      have hjt : j < t.length := by rw [HTL.out]; exact hlt
      have c1 : W.cell? ⟨gt, j, none⟩ = some (.int .i64 (t[j]'hjt)) := (HT.out.cell j).trans (nms_get _ _ hjt)
      have HS := Lib.hid hs
      have HG := Lib.hid (show t.getD j 0 = t[j]'hjt by rw [List.getD_eq_getElem?_getD, List.getElem?_eq_getElem hjt]; rfl)
      have HN := Lib.hid (show n - j = (n - (j + 1)) + 1 by omega)
      generalize t[j] = x at c1 HG
      clear hs hjt
      by_cases h93 : s = 93
      · subst h93
        by_cases hx : x < (at_ : Int)
        · have HR := Lib.hid (show leavesV (signs l) t at_ (n - at_) at_ = (j : Int) + 1 by rw [HV.out, HN.out, leavesV, if_pos ⟨HS.out, by rw [HG.out]; exact hx⟩])
          go_wp2_with fail
          go_ret
          exact ⟨ret_int' HR.out.symm, rfl⟩
        · have hxd : decide (x < (at_ : Int)) = false := by simpa using hx
          have HR := Lib.hid (show leavesV (signs l) t at_ (n - at_) at_ = leavesV (signs l) t at_ (n - (j + 1)) (j + 1) by rw [HV.out, HN.out, leavesV, if_neg (fun hc => hx (by rw [← HG.out]; exact hc.2))])
          go_wp2_with fail
          go_round
          case rel => exact ⟨j + 1, by omega, by omega, by go_num, HR⟩
          case measure => simp [intOf]; omega
      · have hsd : (s == 93) = false := by simpa using h93
        have HR := Lib.hid (show leavesV (signs l) t at_ (n - at_) at_ = leavesV (signs l) t at_ (n - (j + 1)) (j + 1) by rw [HV.out, HN.out, leavesV, if_neg (fun hc => h93 (by have := hc.1; rw [HS.out] at this; injection this))])
        go_wp2_with fail
        go_round
        case rel => exact ⟨j + 1, by omega, by omega, by go_num, HR⟩
        case measure => simp [intOf]; omega
    · have hltI : ¬ (j : Int) < (n : Int) := by omega
      have HR := Lib.hid (show leavesV (signs l) t at_ (n - at_) at_ = -1 by rw [HV.out, show n - j = 0 by omega]; rfl)
      go_wp2_with fail
      go_ret
      exact ⟨ret_int' HR.out.symm, rfl⟩
end
end Go.Proofs.Ytfhgnoajfipjdaa
