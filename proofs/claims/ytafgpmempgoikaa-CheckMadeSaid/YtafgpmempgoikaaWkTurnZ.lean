/-
  check's walk: turn.
-/
import Derived.Test.YtafgpmempgoikaaZNestWithin1
import Derived.Test.YtafgpmempgoikaaZNestWithin2
import Derived.Test.YtafgpmempgoikaaZNestWithin3
import Derived.Test.YtafgpmempgoikaaZNestWithin4
import Derived.Test.YtafgpmempgoikaaZNestWithin5
import Derived.Test.YtafgpmempgoikaaZNestWithin6
import Derived.Test.YtafgpmempgoikaaFrZ
import Derived.Test.YtafgpmempgoikaaCTakesZ
import Derived.Test.YtafgpmempgoikaaWkMemZ
import Derived.Test.YtafgpmempgoikaaWkHalveZ
import Derived.Test.YtafgpmempgoikaaWkEndZ
import Derived.Test.YtafgpmempgoikaaWkLeaveZ
namespace Go.Proofs.Ytafgpmempgoikaa
open Go.RowKit
def Top (sg : Int) (bs : List BkV) : Prop := (sg = 58 → ∃ ys x, bs = ys ++ [x] ∧ x.sign = 63) ∧ (sg = 59 → ∃ ys x, bs = ys ++ [x] ∧ x.sign ≠ 91) ∧ (sg = 93 → ∃ ys x, bs = ys ++ [x] ∧ x.sign = 91) ∧ (sg = 126 → ∃ x ∈ bs, x.sign = 91)
def cTurn (h : Int) (bs : List BkV) (s : Int) : Int × Int × List BkV :=
  if isEnd s then (match bs.getLast? with
    | none => (14, h, bs)
    | some x => eEnd h bs.dropLast x s)
  else if s = 63 ∨ s = 91 then (0, h, bs ++ [⟨s, h, 0, false⟩])
  else if s = 126 then lLeave h bs bs.length
  else if s = 161 then (0, -1, bs)
  else (0, h, bs)
theorem cTurn_end {h : Int} {ys : List BkV} {x : BkV} {s : Int} (hs : isEnd s) : cTurn h (ys ++ [x]) s = eEnd h ys x s := by
  unfold cTurn
  rw [if_pos hs]
  simp only [List.getLast?_append, List.getLast?_singleton, Option.some_or, List.dropLast_concat]
section
variable {W : World} {g : Nat} {h : Int} {v : Value} {bs ys : List BkV} {x : BkV}
set_option maxHeartbeats 8000000 in
set_option maxRecDepth 100000 in
theorem wturn_63 (s : Wk W g h v bs) (h0 : 0 ≤ h) (hf : bs.length ≤ 99) : Calls Try.prog 53 #[.pointer (some ⟨g, 0, none⟩), .int .i32 63] W (WPost W g (0, h, bs ++ [⟨63, h, 0, false⟩])) := by
  obtain ⟨i0, hi0, hz0, hz1, hz2⟩ := info_parts info_cpart
  obtain ⟨A3, n3, c3, rfl, hn3, hc3⟩ := s.slice
  have HS := Lib.hid s
  have k1 := s.rec_.cell 1
  have k0 := s.rec_.cell 0
  have hal : Chg [] W (W.alloc (.cells #[.bool false, .int .i64 h, .bool false, .int .i64 0, .bool false] 106)) := (Chg.refl [] W).alloc _
  have q1 : (W.alloc (.cells #[.bool false, .int .i64 h, .bool false, .int .i64 0, .bool false] 106)).cell? ⟨g, 1, none⟩ = some (.slice A3 n3 c3) := cell_keep (by simpa using k1) hal
  have q0 : (W.alloc (.cells #[.bool false, .int .i64 h, .bool false, .int .i64 0, .bool false] 106)).cell? ⟨g, 0, none⟩ = some (.int .i64 h) := cell_keep (by simpa using k0) hal
  have HOW := Lib.hid (show W.ownsRow (g + 1) 106 5 (.slice A3 n3 c3) n3 (ptCs bs) from by have := s.own; rw [← hn3] at this; exact this)
  have hBW : g + 1 ≤ W.heap.size := s.rec_.lt
  have HN := Lib.hid hn3
  have hn99 : n3 ≤ 99 := by omega
  have HHR := Lib.hid s.hr
  clear hn3 hal s
  go_enter Try.func53, Try.ntmps53
  go_wp2_with fail
  go_region_law (
    (refine step_append_n rfl (.tmp 13) (.tmp 21) 75 rfl (g + 1) 106 i0 _ 5 40 Try.underlying75 hi0 hz0 hz1 hz2 rfl (by decide) (.slice A3 n3 c3) n3 (ptCs bs) rfl (rown_keep HOW.out (((Chg.refl [] W).alloc _).drew)) ⟨W.heap.size, 0, none⟩ 1 1 [.bool false, .int .i64 h, .bool false, .int .i64 0, .bool false] rfl rfl (cells_page W _ _) (by simp [Value.oneCell']) (by unfold maxLen; omega) (by omega) (by simp; omega) ?_
     intro v' w' ho hg
     obtain ⟨A6, k6, rfl, _⟩ := rown_slice ho
     have HO := Lib.hid ho
     have HG := Lib.hid hg
     have HR6 := Lib.hid (whole_grown (HS.out.rec_.keep (((Chg.refl [] W).alloc (.cells #[.bool false, .int .i64 h, .bool false, .int .i64 0, .bool false] 106)).drew)) (rown_keep HS.out.own (((Chg.refl [] W).alloc (.cells #[.bool false, .int .i64 h, .bool false, .int .i64 0, .bool false] 106)).drew)) (by decide) hg)
     have f1 := HR6.out.frozen 1
     have k1 := HR6.out.cell 1
     clear ho hg))
  all_goals
    obtain ⟨hP, hF⟩ := HS.out.push (x := ⟨63, h, 0, false⟩) (((Chg.refl [] W).alloc (.cells #[.bool false, .int .i64 h, .bool false, .int .i64 0, .bool false] 106)).drew) (by have := HN.out; omega) HO.out HG.out hf (by have := HHR.out; simp only; omega)
    have HP := Lib.hid (show WPost W g (0, h, bs ++ [⟨63, h, 0, false⟩]) (.returned (.int .i64 0)) _ from ⟨hF, rfl, fun _ => ⟨_, hP⟩⟩)
    clear hP hF
    go_wp2_with fail
    go_ret
    exact HP.out
set_option maxHeartbeats 8000000 in
set_option maxRecDepth 100000 in
theorem wturn_91 (s : Wk W g h v bs) (h0 : 0 ≤ h) (hf : bs.length ≤ 99) : Calls Try.prog 53 #[.pointer (some ⟨g, 0, none⟩), .int .i32 91] W (WPost W g (0, h, bs ++ [⟨91, h, 0, false⟩])) := by
  obtain ⟨i0, hi0, hz0, hz1, hz2⟩ := info_parts info_cpart
  obtain ⟨A3, n3, c3, rfl, hn3, hc3⟩ := s.slice
  have HS := Lib.hid s
  have k1 := s.rec_.cell 1
  have k0 := s.rec_.cell 0
  have hal : Chg [] W (W.alloc (.cells #[.bool true, .int .i64 h, .bool false, .int .i64 0, .bool false] 106)) := (Chg.refl [] W).alloc _
  have q1 : (W.alloc (.cells #[.bool true, .int .i64 h, .bool false, .int .i64 0, .bool false] 106)).cell? ⟨g, 1, none⟩ = some (.slice A3 n3 c3) := cell_keep (by simpa using k1) hal
  have q0 : (W.alloc (.cells #[.bool true, .int .i64 h, .bool false, .int .i64 0, .bool false] 106)).cell? ⟨g, 0, none⟩ = some (.int .i64 h) := cell_keep (by simpa using k0) hal
  have HOW := Lib.hid (show W.ownsRow (g + 1) 106 5 (.slice A3 n3 c3) n3 (ptCs bs) from by have := s.own; rw [← hn3] at this; exact this)
  have hBW : g + 1 ≤ W.heap.size := s.rec_.lt
  have HN := Lib.hid hn3
  have hn99 : n3 ≤ 99 := by omega
  have HHR := Lib.hid s.hr
  clear hn3 hal s
  go_enter Try.func53, Try.ntmps53
  go_wp2_with fail
  go_region_law (
    (refine step_append_n rfl (.tmp 13) (.tmp 21) 75 rfl (g + 1) 106 i0 _ 5 40 Try.underlying75 hi0 hz0 hz1 hz2 rfl (by decide) (.slice A3 n3 c3) n3 (ptCs bs) rfl (rown_keep HOW.out (((Chg.refl [] W).alloc _).drew)) ⟨W.heap.size, 0, none⟩ 1 1 [.bool true, .int .i64 h, .bool false, .int .i64 0, .bool false] rfl rfl (cells_page W _ _) (by simp [Value.oneCell']) (by unfold maxLen; omega) (by omega) (by simp; omega) ?_
     intro v' w' ho hg
     obtain ⟨A6, k6, rfl, _⟩ := rown_slice ho
     have HO := Lib.hid ho
     have HG := Lib.hid hg
     have HR6 := Lib.hid (whole_grown (HS.out.rec_.keep (((Chg.refl [] W).alloc (.cells #[.bool true, .int .i64 h, .bool false, .int .i64 0, .bool false] 106)).drew)) (rown_keep HS.out.own (((Chg.refl [] W).alloc (.cells #[.bool true, .int .i64 h, .bool false, .int .i64 0, .bool false] 106)).drew)) (by decide) hg)
     have f1 := HR6.out.frozen 1
     have k1 := HR6.out.cell 1
     clear ho hg))
  all_goals
    obtain ⟨hP, hF⟩ := HS.out.push (x := ⟨91, h, 0, false⟩) (((Chg.refl [] W).alloc (.cells #[.bool true, .int .i64 h, .bool false, .int .i64 0, .bool false] 106)).drew) (by have := HN.out; omega) HO.out HG.out hf (by have := HHR.out; simp only; omega)
    have HP := Lib.hid (show WPost W g (0, h, bs ++ [⟨91, h, 0, false⟩]) (.returned (.int .i64 0)) _ from ⟨hF, rfl, fun _ => ⟨_, hP⟩⟩)
    clear hP hF
    go_wp2_with fail
    go_ret
    exact HP.out
set_option maxHeartbeats 8000000 in
set_option maxRecDepth 100000 in
theorem wturn_any (s : Wk W g h v bs) (sg : Int) (ht : Top sg bs) (h0 : (sg = 63 ∨ sg = 91) → 0 ≤ h ∧ bs.length ≤ 99) : Calls Try.prog 53 #[.pointer (some ⟨g, 0, none⟩), .int .i32 sg] W (WPost W g (cTurn h bs sg)) := by
  by_cases h63 : sg = 63
  · subst h63
    exact wturn_63 s (h0 (.inl rfl)).1 (h0 (.inl rfl)).2
  by_cases h91 : sg = 91
  · subst h91
    exact wturn_91 s (h0 (.inr rfl)).1 (h0 (.inr rfl)).2
  have q63 : (sg == 63) = false := by simpa using h63
  have q91 : (sg == 91) = false := by simpa using h91
  by_cases h58 : sg = 58
  · subst h58
    obtain ⟨ys, x, rfl, hx⟩ := ht.1 rfl
    have HH := Lib.hid (whalve_any s hx)
    have HR := Lib.hid (show cTurn h (ys ++ [x]) 58 = (0, x.base, ys ++ [⟨58, x.base, h, x.left⟩]) from by rw [cTurn_end (.inl rfl)]; rfl)
    generalize cTurn h (ys ++ [x]) 58 = R at HR ⊢
    clear s ht h0 hx h63 h91
    go_enter Try.func53, Try.ntmps53
    go_wp2_with fail
    refine HH.out.mono ?_
    rintro e w1 ⟨rfl, v1, hw1, hf1⟩
    have HP := Lib.hid (show WPost W g R (.returned (.int .i64 0)) w1 from ⟨hf1, by rw [HR.out], fun _ => by rw [HR.out]; exact ⟨_, hw1⟩⟩)
    clear hw1 hf1
    go_wp2_with fail
    go_ret
    exact HP.out
  have q58 : (sg == 58) = false := by simpa using h58
  by_cases h59 : sg = 59
  · subst h59
    obtain ⟨ys, x, rfl, hx⟩ := ht.2.1 rfl
    have HH := Lib.hid (wendif_any s hx)
    have HR := Lib.hid (show cTurn h (ys ++ [x]) 59 = eEnd h ys x 59 from cTurn_end (.inr (.inl rfl)))
    generalize hRR : cTurn h (ys ++ [x]) 59 = R at HR ⊢
    clear s ht h0 h63 h91 h58 hx hRR
    go_enter Try.func53, Try.ntmps53
    go_wp2_with fail
    refine HH.out.mono ?_
    rw [← HR.out]
    obtain ⟨er, rh, rb⟩ := R
    rintro e w1 ⟨hf1, rfl, hw1⟩
    have HP := Lib.hid (show WPost W g (er, rh, rb) (.returned (.int .i64 er)) w1 from ⟨hf1, rfl, hw1⟩)
    clear hw1 hf1
    go_wp2_with fail
    go_ret
    exact HP.out
  have q59 : (sg == 59) = false := by simpa using h59
  by_cases h93 : sg = 93
  · subst h93
    obtain ⟨ys, x, rfl, hx⟩ := ht.2.2.1 rfl
    have HH := Lib.hid (wendloop_any s hx)
    have HR := Lib.hid (show cTurn h (ys ++ [x]) 93 = eEnd h ys x 93 from cTurn_end (.inr (.inr rfl)))
    generalize hRR : cTurn h (ys ++ [x]) 93 = R at HR ⊢
    clear s ht h0 h63 h91 h58 hx h59 hRR
    go_enter Try.func53, Try.ntmps53
    go_wp2_with fail
    refine HH.out.mono ?_
    rw [← HR.out]
    obtain ⟨er, rh, rb⟩ := R
    rintro e w1 ⟨hf1, rfl, hw1⟩
    have HP := Lib.hid (show WPost W g (er, rh, rb) (.returned (.int .i64 er)) w1 from ⟨hf1, rfl, hw1⟩)
    clear hw1 hf1
    go_wp2_with fail
    go_ret
    exact HP.out
  have q93 : (sg == 93) = false := by simpa using h93
  by_cases h126 : sg = 126
  · subst h126
    have HH := Lib.hid (wleave_any s (ht.2.2.2 rfl))
    have HR := Lib.hid (show cTurn h bs 126 = lLeave h bs bs.length from rfl)
    generalize hRR : cTurn h bs 126 = R at HR ⊢
    clear s ht h0 h63 h91 h58 h59 h93 hRR
    go_enter Try.func53, Try.ntmps53
    go_wp2_with fail
    refine HH.out.mono ?_
    rw [← HR.out]
    obtain ⟨er, rh, rb⟩ := R
    rintro e w1 ⟨hf1, rfl, hw1⟩
    have HP := Lib.hid (show WPost W g (er, rh, rb) (.returned (.int .i64 er)) w1 from ⟨hf1, rfl, hw1⟩)
    clear hw1 hf1
    go_wp2_with fail
    go_ret
    exact HP.out
  have q126 : (sg == 126) = false := by simpa using h126
  by_cases h161 : sg = 161
  · subst h161
    have c0 := s.rec_.cell 0
    have g0 := s.rec_.frozen 0
    obtain ⟨hP, hF⟩ := s.high (-1) (by omega)
    have HP := Lib.hid (show WPost W g (cTurn h bs 161) (.returned (.int .i64 0)) _ from ⟨hF, rfl, fun _ => ⟨_, hP⟩⟩)
    clear s ht h0 hP hF h63 h91 h58 h59 h93 h126
    go_enter Try.func53, Try.ntmps53
    go_wp2_with fail
    go_ret
    exact HP.out
  · have q161 : (sg == 161) = false := by simpa using h161
    have HR := Lib.hid (show cTurn h bs sg = (0, h, bs) from by
      have hne : ¬ isEnd sg := by unfold isEnd; omega
      unfold cTurn
      rw [if_neg hne, if_neg (by omega), if_neg (by omega), if_neg (by omega)])
    have HP := Lib.hid (show WPost W g (cTurn h bs sg) (.returned (.int .i64 0)) W from ⟨Fr.refl _ _ _, by rw [HR.out], fun _ => by rw [HR.out]; exact ⟨_, s⟩⟩)
    clear s ht h0 h63 h91 h58 h59 h93 h126 h161
    go_enter Try.func53, Try.ntmps53
    go_wp2_with fail
    go_ret
    exact HP.out
end
end Go.Proofs.Ytafgpmempgoikaa
