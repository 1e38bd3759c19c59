/-
  PB: WkLeave, WkTurn, WkStep.
-/
import Derived.Test.YtbkfhndmeljlcaaGreatDoorZPB21
namespace Go.Proofs.YtbkfhndmeljlcaaGreatDoor
open Go.RowKit
def lLeave (h : Int) (bs : List BkV) (k : Nat) : Int × Int × List BkV := match rLeave h bs k with | (true, h', bs') => (0, h', bs') | (false, h', bs') => (14, h', bs')
theorem lLeave_on {h : Int} {bs : List BkV} {k : Nat} {y : BkV} (hk : bs[k]? = some y) (hy : y.sign ≠ 91) : lLeave h bs (k + 1) = lLeave h bs k := by
  unfold lLeave
  rw [rLeave, hk]
  simp only
  rw [if_neg hy]
theorem lLeave_at {h : Int} {bs : List BkV} {k : Nat} {y : BkV} (hk : bs[k]? = some y) (hy : y.sign = 91) : lLeave h bs (k + 1) = if h = y.base then (0, -1, bs.set k ⟨y.sign, y.base, y.other, true⟩) else (14, -1, bs.set k ⟨y.sign, y.base, y.other, true⟩) := by
  unfold lLeave
  rw [rLeave, hk]
  simp only
  rw [if_pos hy]
  by_cases e : h = y.base
  · rw [if_pos e, show (h == y.base) = true from by simpa using e]
  · rw [if_neg e, show (h == y.base) = false from by simpa using e]
section
variable {W : World} {g : Nat} {h : Int} {v : Value} {bs ys : List BkV} {x : BkV}
theorem Wk.part (s : Wk W g h v bs) {k : Nat} {y : BkV} (hk : bs[k]? = some y) : ∃ gr c, v = .slice (some ⟨gr, 0, none⟩) bs.length c ∧ bs.length ≤ c ∧ g + 1 ≤ gr ∧ W.cell? ⟨gr, k * 5, none⟩ = some (.bool (y.sign == 91)) ∧ W.cell? ⟨gr, k * 5 + 1, none⟩ = some (.int .i64 y.base) ∧ W.cell? ⟨gr, k * 5 + 4, none⟩ = some (.bool y.left) ∧ W.frozen? ⟨gr, k * 5 + 4, none⟩ = false := by
  obtain ⟨A, n, c, rfl, hn, hc⟩ := s.slice
  subst hn
  obtain ⟨gr, rfl, c0⟩ := rown_cell s.own rfl ((ptCs_get _ _ _ 0 hk (by omega)).trans rfl)
  obtain ⟨_, e, c1⟩ := rown_cell s.own rfl ((ptCs_get _ _ _ 1 hk (by omega)).trans rfl)
  injection e with e; injection e with e; subst e
  obtain ⟨_, e, c4⟩ := rown_cell s.own rfl ((ptCs_get _ _ _ 4 hk (by omega)).trans rfl)
  injection e with e; injection e with e; subst e
  exact ⟨gr, c, rfl, hc, (s.own.lt gr rfl).1, c0, c1, c4, rown_frozen s.own⟩
set_option maxHeartbeats 8000000 in
set_option maxRecDepth 100000 in
theorem wleave_any (s : Wk W g h v bs) (hx : ∃ x ∈ bs, x.sign = 91) : Calls Tryz.prog 132 #[.pointer (some ⟨g, 0, none⟩)] W (WPost W g (lLeave h bs bs.length)) := by
  have h0 : 0 < bs.length := by obtain ⟨x, hx, _⟩ := hx; exact List.length_pos_of_mem hx
  have HR := Lib.hid (show ∃ q : Nat, bs.length = q + 1 from ⟨bs.length - 1, by omega⟩)
  generalize hRR : lLeave h bs bs.length = R
  obtain ⟨q, hq⟩ := HR.out
  have HQ := Lib.hid hq
  have HRR := Lib.hid hRR
  have hfew := s.few
  have hq99 : q ≤ 99 := by omega
  obtain ⟨y0, hy0⟩ : ∃ y, bs[q]? = some y := ⟨bs[q]'(by omega), by simp⟩
  obtain ⟨gr, c, rfl, hc, hgr, _⟩ := s.part hy0
  have HS := Lib.hid s
  have c0 := s.rec_.cell 0
  have c1 := s.rec_.cell 1
  have g0 := s.rec_.frozen 0
  have HX := Lib.hid (show ∃ j ≤ q, ∃ x, bs[j]? = some x ∧ x.sign = 91 from by
    obtain ⟨x, hx, hs⟩ := hx
    obtain ⟨j, hj, rfl⟩ := List.getElem_of_mem hx
    exact ⟨j, by omega, _, List.getElem?_eq_getElem hj, hs⟩)
  rw [hq] at c1 hc HS
  clear s hx h0 HR hq hRR hfew hy0
  have hq0 : (0 : Int) ≤ (q : Int) := by omega
  go_enter Tryz.func132, Tryz.ntmps132
  go_wp2_with fail
  go_loopw [3] (fun i wr => ∃ k : Nat, i = .int .i64 (k : Int) ∧ k ≤ q ∧ Hid (R = lLeave h bs (k + 1)) ∧ Hid (∃ j ≤ k, ∃ x, bs[j]? = some x ∧ x.sign = 91) ∧ wr = W) (fun i _ => (intOf i).toNat)
  case atStart => exact ⟨q, rfl, by omega, Lib.hid (by rw [← HRR.out, HQ.out]), HX, rfl⟩
  case round =>
    obtain ⟨k, rfl, hk, HRk, HXk, hwr⟩ := hrel
    subst hwr
    obtain ⟨y, hy⟩ : ∃ y, bs[k]? = some y := ⟨bs[k]'(by have := HQ.out; omega), by simp⟩
    obtain ⟨gr', c', e, _, _, y0', y1, y4, fy4⟩ := HS.out.part hy
    injection e with e1 e2 e3
    injection e1 with e1
    injection e1 with e1
    subst e1
    have hkI : (k : Int) < (q : Int) + 1 := by omega
    have hkI2 : (k : Int) < ((q + 1 : Nat) : Int) := by omega
    have hk0 : (0 : Int) ≤ (k : Int) := by omega
    by_cases h91 : y.sign = 91
    · have q91 : (y.sign == 91) = true := by simpa using h91
      rw [q91] at y0'
      have HRE := Lib.hid (HRk.out.trans (lLeave_at hy h91))
      have HY := Lib.hid hy
      clear h91 q91 hy e2 e3
      by_cases hb : h = y.base
      · have qb : (h != y.base) = false := by simpa using hb
        have qb2 : (h == y.base) = true := by simpa using hb
        have HE := Lib.hid (HRE.out.trans (if_pos hb))
        clear hb
        go_upto_region 4 with fail
        go_quiet (fail)
        have hcd := (Chg.refl [] wr).drewN nq
        have HS2 := Lib.hid (HS.out.keep hcd)
        have z4 := cell_keep y4 hcd
        have HC2 := Lib.hid hcd
        have HM := Lib.hid (HS2.out.mark (k := k) (y := y) HQ.out.symm HY.out)
        have fz4 : (wr.drewN nq).frozen? ⟨gr, k * 5 + 4, none⟩ = false := fy4
        generalize wr.drewN nq = w2 at HS2 z4 HC2 HM fz4 ⊢
        clear hcd c0 c1 g0 y0' y1 y4 fy4
        have c1 := HS2.out.rec_.cell 1
        go_upto_region 7 with fail
        generalize w2.setCell ⟨gr, k * 5 + 4, none⟩ (.bool true) = w3 at HM ⊢
        clear c1
        have c0 := HM.out.1.rec_.cell 0
        have g0 := HM.out.1.rec_.frozen 0
        obtain ⟨hP, hF⟩ := HM.out.1.high (-1) (by omega)
        have HP := Lib.hid (show WPost wr g R (.returned (.int .i64 0)) _ from ⟨((Fr.of_chg HC2.out).trans HM.out.2).trans hF, by rw [HE.out], fun _ => by rw [HE.out]; exact ⟨_, hP⟩⟩)
        clear hP hF
        go_wp2_with fail
        go_ret
        exact HP.out
      · have qb : (h != y.base) = true := by simpa using hb
        have qb2 : (h == y.base) = false := by simpa using hb
        have HE := Lib.hid (HRE.out.trans (if_neg hb))
        clear hb
        go_upto_region 4 with fail
        go_quiet (fail)
        have HP := Lib.hid (show WPost wr g R (.returned (.int .i64 14)) (wr.drewN nq) from ⟨Fr.of_chg ((Chg.refl [] wr).drewN nq), by rw [HE.out], fun hh => by rw [HE.out] at hh; exact absurd hh (by simp)⟩)
        go_wp2_with fail
        go_ret
        exact HP.out
    · have q91 : (y.sign == 91) = false := by simpa using h91
      rw [q91] at y0'
      obtain ⟨j, hj, x, hxj, hxs⟩ := HXk.out
      have hjk : j < k := by
        rcases Nat.lt_or_ge j k with h' | h'
        · exact h'
        · exfalso
          have : j = k := by omega
          subst this
          rw [hy] at hxj
          injection hxj with e
          subst e
          exact h91 hxs
      have HR2 := Lib.hid (show R = lLeave h bs (k - 1 + 1) from by rw [HRk.out, lLeave_on hy h91, show k - 1 + 1 = k from by omega])
      have HX2 := Lib.hid (show ∃ j ≤ k - 1, ∃ x, bs[j]? = some x ∧ x.sign = 91 from ⟨j, by omega, x, hxj, hxs⟩)
      have hk1 : (1 : Int) ≤ (k : Int) := by omega
      clear h91 q91 hy e2 e3 hxj
      go_wp2_with fail
      go_roundw
      case rel => exact ⟨k - 1, by rw [show ((k - 1 : Nat) : Int) = (k : Int) - 1 from by omega], by omega, HR2, HX2, by first | rfl | trivial⟩
      case measure => simp [intOf]; omega
end
end Go.Proofs.YtbkfhndmeljlcaaGreatDoor
namespace Go.Proofs.YtbkfhndmeljlcaaGreatDoor
open Go.RowKit
def Top (sg : Int) (bs : List BkV) : Prop := (sg = 58 → ∃ ys x, bs = ys ++ [x] ∧ x.sign = 63) ∧ (sg = 59 → ∃ ys x, bs = ys ++ [x] ∧ x.sign ≠ 91) ∧ (sg = 93 → ∃ ys x, bs = ys ++ [x] ∧ x.sign = 91) ∧ (sg = 126 → ∃ x ∈ bs, x.sign = 91)
def cTurn (h : Int) (bs : List BkV) (s : Int) : Int × Int × List BkV :=
  if isEnd s then (match bs.getLast? with
    | none => (14, h, bs)
    | some x => eEnd h bs.dropLast x s)
  else if s = 63 ∨ s = 91 then (0, h, bs ++ [⟨s, h, 0, false⟩])
  else if s = 126 then lLeave h bs bs.length
  else if s = 161 then (0, -1, bs)
  else (0, h, bs)
theorem cTurn_end {h : Int} {ys : List BkV} {x : BkV} {s : Int} (hs : isEnd s) : cTurn h (ys ++ [x]) s = eEnd h ys x s := by
  unfold cTurn
  rw [if_pos hs]
  simp only [List.getLast?_append, List.getLast?_singleton, Option.some_or, List.dropLast_concat]
section
variable {W : World} {g : Nat} {h : Int} {v : Value} {bs ys : List BkV} {x : BkV}
set_option maxHeartbeats 8000000 in
set_option maxRecDepth 100000 in
theorem wturn_63 (s : Wk W g h v bs) (h0 : 0 ≤ h) (hf : bs.length ≤ 99) : Calls Tryz.prog 119 #[.pointer (some ⟨g, 0, none⟩), .int .i32 63] W (WPost W g (0, h, bs ++ [⟨63, h, 0, false⟩])) := by
  obtain ⟨i0, hi0, hz0, hz1, hz2⟩ := info_parts info_cpart
  obtain ⟨A3, n3, c3, rfl, hn3, hc3⟩ := s.slice
  have HS := Lib.hid s
  have k1 := s.rec_.cell 1
  have k0 := s.rec_.cell 0
  have hal : Chg [] W (W.alloc (.cells #[.bool false, .int .i64 h, .bool false, .int .i64 0, .bool false] 171)) := (Chg.refl [] W).alloc _
  have q1 : (W.alloc (.cells #[.bool false, .int .i64 h, .bool false, .int .i64 0, .bool false] 171)).cell? ⟨g, 1, none⟩ = some (.slice A3 n3 c3) := cell_keep (by simpa using k1) hal
  have q0 : (W.alloc (.cells #[.bool false, .int .i64 h, .bool false, .int .i64 0, .bool false] 171)).cell? ⟨g, 0, none⟩ = some (.int .i64 h) := cell_keep (by simpa using k0) hal
  have HOW := Lib.hid (show W.ownsRow (g + 1) 171 5 (.slice A3 n3 c3) n3 (ptCs bs) from by have := s.own; rw [← hn3] at this; exact this)
  have hBW : g + 1 ≤ W.heap.size := s.rec_.lt
  have HN := Lib.hid hn3
  have hn99 : n3 ≤ 99 := by omega
  have HHR := Lib.hid s.hr
  clear hn3 hal s
  go_enter Tryz.func119, Tryz.ntmps119
  go_wp2_with fail
  go_region_law (
    (refine step_append_n rfl (.tmp 13) (.tmp 21) 143 rfl (g + 1) 171 i0 _ 5 40 Tryz.underlying143 hi0 hz0 hz1 hz2 rfl (by decide) (.slice A3 n3 c3) n3 (ptCs bs) rfl (rown_keep HOW.out (((Chg.refl [] W).alloc _).drew)) ⟨W.heap.size, 0, none⟩ 1 1 [.bool false, .int .i64 h, .bool false, .int .i64 0, .bool false] rfl rfl (cells_page W _ _) (by simp [Value.oneCell']) (by unfold maxLen; omega) (by omega) (by simp; omega) ?_
     intro v' w' ho hg
     obtain ⟨A6, k6, rfl, _⟩ := rown_slice ho
     have HO := Lib.hid ho
     have HG := Lib.hid hg
     have HR6 := Lib.hid (whole_grown (HS.out.rec_.keep (((Chg.refl [] W).alloc (.cells #[.bool false, .int .i64 h, .bool false, .int .i64 0, .bool false] 171)).drew)) (rown_keep HS.out.own (((Chg.refl [] W).alloc (.cells #[.bool false, .int .i64 h, .bool false, .int .i64 0, .bool false] 171)).drew)) (by decide) hg)
     have f1 := HR6.out.frozen 1
     have k1 := HR6.out.cell 1
     clear ho hg))
  all_goals
    obtain ⟨hP, hF⟩ := HS.out.push (x := ⟨63, h, 0, false⟩) (((Chg.refl [] W).alloc (.cells #[.bool false, .int .i64 h, .bool false, .int .i64 0, .bool false] 171)).drew) (by have := HN.out; omega) HO.out HG.out hf (by have := HHR.out; simp only; omega)
    have HP := Lib.hid (show WPost W g (0, h, bs ++ [⟨63, h, 0, false⟩]) (.returned (.int .i64 0)) _ from ⟨hF, rfl, fun _ => ⟨_, hP⟩⟩)
    clear hP hF
    go_wp2_with fail
    go_ret
    exact HP.out
set_option maxHeartbeats 8000000 in
set_option maxRecDepth 100000 in
theorem wturn_91 (s : Wk W g h v bs) (h0 : 0 ≤ h) (hf : bs.length ≤ 99) : Calls Tryz.prog 119 #[.pointer (some ⟨g, 0, none⟩), .int .i32 91] W (WPost W g (0, h, bs ++ [⟨91, h, 0, false⟩])) := by
  obtain ⟨i0, hi0, hz0, hz1, hz2⟩ := info_parts info_cpart
  obtain ⟨A3, n3, c3, rfl, hn3, hc3⟩ := s.slice
  have HS := Lib.hid s
  have k1 := s.rec_.cell 1
  have k0 := s.rec_.cell 0
  have hal : Chg [] W (W.alloc (.cells #[.bool true, .int .i64 h, .bool false, .int .i64 0, .bool false] 171)) := (Chg.refl [] W).alloc _
  have q1 : (W.alloc (.cells #[.bool true, .int .i64 h, .bool false, .int .i64 0, .bool false] 171)).cell? ⟨g, 1, none⟩ = some (.slice A3 n3 c3) := cell_keep (by simpa using k1) hal
  have q0 : (W.alloc (.cells #[.bool true, .int .i64 h, .bool false, .int .i64 0, .bool false] 171)).cell? ⟨g, 0, none⟩ = some (.int .i64 h) := cell_keep (by simpa using k0) hal
  have HOW := Lib.hid (show W.ownsRow (g + 1) 171 5 (.slice A3 n3 c3) n3 (ptCs bs) from by have := s.own; rw [← hn3] at this; exact this)
  have hBW : g + 1 ≤ W.heap.size := s.rec_.lt
  have HN := Lib.hid hn3
  have hn99 : n3 ≤ 99 := by omega
  have HHR := Lib.hid s.hr
  clear hn3 hal s
  go_enter Tryz.func119, Tryz.ntmps119
  go_wp2_with fail
  go_region_law (
    (refine step_append_n rfl (.tmp 13) (.tmp 21) 143 rfl (g + 1) 171 i0 _ 5 40 Tryz.underlying143 hi0 hz0 hz1 hz2 rfl (by decide) (.slice A3 n3 c3) n3 (ptCs bs) rfl (rown_keep HOW.out (((Chg.refl [] W).alloc _).drew)) ⟨W.heap.size, 0, none⟩ 1 1 [.bool true, .int .i64 h, .bool false, .int .i64 0, .bool false] rfl rfl (cells_page W _ _) (by simp [Value.oneCell']) (by unfold maxLen; omega) (by omega) (by simp; omega) ?_
     intro v' w' ho hg
     obtain ⟨A6, k6, rfl, _⟩ := rown_slice ho
     have HO := Lib.hid ho
     have HG := Lib.hid hg
     have HR6 := Lib.hid (whole_grown (HS.out.rec_.keep (((Chg.refl [] W).alloc (.cells #[.bool true, .int .i64 h, .bool false, .int .i64 0, .bool false] 171)).drew)) (rown_keep HS.out.own (((Chg.refl [] W).alloc (.cells #[.bool true, .int .i64 h, .bool false, .int .i64 0, .bool false] 171)).drew)) (by decide) hg)
     have f1 := HR6.out.frozen 1
     have k1 := HR6.out.cell 1
     clear ho hg))
  all_goals
    obtain ⟨hP, hF⟩ := HS.out.push (x := ⟨91, h, 0, false⟩) (((Chg.refl [] W).alloc (.cells #[.bool true, .int .i64 h, .bool false, .int .i64 0, .bool false] 171)).drew) (by have := HN.out; omega) HO.out HG.out hf (by have := HHR.out; simp only; omega)
    have HP := Lib.hid (show WPost W g (0, h, bs ++ [⟨91, h, 0, false⟩]) (.returned (.int .i64 0)) _ from ⟨hF, rfl, fun _ => ⟨_, hP⟩⟩)
    clear hP hF
    go_wp2_with fail
    go_ret
    exact HP.out
set_option maxHeartbeats 8000000 in
set_option maxRecDepth 100000 in
theorem wturn_any (s : Wk W g h v bs) (sg : Int) (ht : Top sg bs) (h0 : (sg = 63 ∨ sg = 91) → 0 ≤ h ∧ bs.length ≤ 99) : Calls Tryz.prog 119 #[.pointer (some ⟨g, 0, none⟩), .int .i32 sg] W (WPost W g (cTurn h bs sg)) := by
  by_cases h63 : sg = 63
  · subst h63
    exact wturn_63 s (h0 (.inl rfl)).1 (h0 (.inl rfl)).2
  by_cases h91 : sg = 91
  · subst h91
    exact wturn_91 s (h0 (.inr rfl)).1 (h0 (.inr rfl)).2
  have q63 : (sg == 63) = false := by simpa using h63
  have q91 : (sg == 91) = false := by simpa using h91
  by_cases h58 : sg = 58
  · subst h58
    obtain ⟨ys, x, rfl, hx⟩ := ht.1 rfl
    have HH := Lib.hid (whalve_any s hx)
    have HR := Lib.hid (show cTurn h (ys ++ [x]) 58 = (0, x.base, ys ++ [⟨58, x.base, h, x.left⟩]) from by rw [cTurn_end (.inl rfl)]; rfl)
    generalize cTurn h (ys ++ [x]) 58 = R at HR ⊢
    clear s ht h0 hx h63 h91
    go_enter Tryz.func119, Tryz.ntmps119
    go_wp2_with fail
    refine HH.out.mono ?_
    rintro e w1 ⟨rfl, v1, hw1, hf1⟩
    have HP := Lib.hid (show WPost W g R (.returned (.int .i64 0)) w1 from ⟨hf1, by rw [HR.out], fun _ => by rw [HR.out]; exact ⟨_, hw1⟩⟩)
    clear hw1 hf1
    go_wp2_with fail
    go_ret
    exact HP.out
  have q58 : (sg == 58) = false := by simpa using h58
  by_cases h59 : sg = 59
  · subst h59
    obtain ⟨ys, x, rfl, hx⟩ := ht.2.1 rfl
    have HH := Lib.hid (wendif_any s hx)
    have HR := Lib.hid (show cTurn h (ys ++ [x]) 59 = eEnd h ys x 59 from cTurn_end (.inr (.inl rfl)))
    generalize hRR : cTurn h (ys ++ [x]) 59 = R at HR ⊢
    clear s ht h0 h63 h91 h58 hx hRR
    go_enter Tryz.func119, Tryz.ntmps119
    go_wp2_with fail
    refine HH.out.mono ?_
    rw [← HR.out]
    obtain ⟨er, rh, rb⟩ := R
    rintro e w1 ⟨hf1, rfl, hw1⟩
    have HP := Lib.hid (show WPost W g (er, rh, rb) (.returned (.int .i64 er)) w1 from ⟨hf1, rfl, hw1⟩)
    clear hw1 hf1
    go_wp2_with fail
    go_ret
    exact HP.out
  have q59 : (sg == 59) = false := by simpa using h59
  by_cases h93 : sg = 93
  · subst h93
    obtain ⟨ys, x, rfl, hx⟩ := ht.2.2.1 rfl
    have HH := Lib.hid (wendloop_any s hx)
    have HR := Lib.hid (show cTurn h (ys ++ [x]) 93 = eEnd h ys x 93 from cTurn_end (.inr (.inr rfl)))
    generalize hRR : cTurn h (ys ++ [x]) 93 = R at HR ⊢
    clear s ht h0 h63 h91 h58 hx h59 hRR
    go_enter Tryz.func119, Tryz.ntmps119
    go_wp2_with fail
    refine HH.out.mono ?_
    rw [← HR.out]
    obtain ⟨er, rh, rb⟩ := R
    rintro e w1 ⟨hf1, rfl, hw1⟩
    have HP := Lib.hid (show WPost W g (er, rh, rb) (.returned (.int .i64 er)) w1 from ⟨hf1, rfl, hw1⟩)
    clear hw1 hf1
    go_wp2_with fail
    go_ret
    exact HP.out
  have q93 : (sg == 93) = false := by simpa using h93
  by_cases h126 : sg = 126
  · subst h126
    have HH := Lib.hid (wleave_any s (ht.2.2.2 rfl))
    have HR := Lib.hid (show cTurn h bs 126 = lLeave h bs bs.length from rfl)
    generalize hRR : cTurn h bs 126 = R at HR ⊢
    clear s ht h0 h63 h91 h58 h59 h93 hRR
    go_enter Tryz.func119, Tryz.ntmps119
    go_wp2_with fail
    refine HH.out.mono ?_
    rw [← HR.out]
    obtain ⟨er, rh, rb⟩ := R
    rintro e w1 ⟨hf1, rfl, hw1⟩
    have HP := Lib.hid (show WPost W g (er, rh, rb) (.returned (.int .i64 er)) w1 from ⟨hf1, rfl, hw1⟩)
    clear hw1 hf1
    go_wp2_with fail
    go_ret
    exact HP.out
  have q126 : (sg == 126) = false := by simpa using h126
  by_cases h161 : sg = 161
  · subst h161
    have c0 := s.rec_.cell 0
    have g0 := s.rec_.frozen 0
    obtain ⟨hP, hF⟩ := s.high (-1) (by omega)
    have HP := Lib.hid (show WPost W g (cTurn h bs 161) (.returned (.int .i64 0)) _ from ⟨hF, rfl, fun _ => ⟨_, hP⟩⟩)
    clear s ht h0 hP hF h63 h91 h58 h59 h93 h126
    go_enter Tryz.func119, Tryz.ntmps119
    go_wp2_with fail
    go_ret
    exact HP.out
  · have q161 : (sg == 161) = false := by simpa using h161
    have HR := Lib.hid (show cTurn h bs sg = (0, h, bs) from by
      have hne : ¬ isEnd sg := by unfold isEnd; omega
      unfold cTurn
      rw [if_neg hne, if_neg (by omega), if_neg (by omega), if_neg (by omega)])
    have HP := Lib.hid (show WPost W g (cTurn h bs sg) (.returned (.int .i64 0)) W from ⟨Fr.refl _ _ _, by rw [HR.out], fun _ => by rw [HR.out]; exact ⟨_, s⟩⟩)
    clear s ht h0 h63 h91 h58 h59 h93 h126 h161
    go_enter Tryz.func119, Tryz.ntmps119
    go_wp2_with fail
    go_ret
    exact HP.out
end
end Go.Proofs.YtbkfhndmeljlcaaGreatDoor
namespace Go.Proofs.YtbkfhndmeljlcaaGreatDoor
open Go.RowKit
structure Bas (h : Int) (bs : List BkV) : Prop where
  sorted : bs.Pairwise fun a b => a.base ≤ b.base
  oth : ∀ x ∈ bs, x.sign = 58 → x.other = -1 ∨ x.base ≤ x.other
  top : 0 ≤ h → ∀ x ∈ bs, x.base ≤ h
theorem Bas.base {h : Int} {bs : List BkV} (hb : Bas h bs) (h0 : 0 ≤ h) : baseOf bs ≤ h := by
  unfold baseOf
  cases hl : bs.getLast? with
  | none => exact h0
  | some x => exact hb.top h0 x (List.mem_of_getLast? hl)
theorem takes_end' {l : List FnV} {s : Int} (hs : isEnd s) (name : Int) : rTakes l s name = (0, 0, true) := by
  rcases hs with rfl | rfl | rfl <;> rfl
theorem rTok_dead {l : List FnV} {h : Int} {bs : List BkV} {s name : Int} (h0 : h < 0) : rTok l h bs s name = if isEnd s then cTurn h bs s else (15, h, bs) := by
  unfold rTok cTurn
  by_cases he : isEnd s
  · rw [if_pos he, if_pos he, if_pos he]; rfl
  · rw [if_neg he, if_neg he, if_pos h0]
theorem rTok_none {l : List FnV} {h : Int} {bs : List BkV} {s name p g : Int} (h0 : 0 ≤ h) (ht : rTakes l s name = (p, g, false)) : rTok l h bs s name = (22, h, bs) := by
  have he : ¬ isEnd s := fun he => by rw [takes_end' he] at ht; simp at ht
  unfold rTok
  rw [if_neg he, if_neg (by omega), ht]
theorem rTok_alive {l : List FnV} {h : Int} {bs : List BkV} {s name p g : Int} (h0 : 0 ≤ h) (h64 : h ≤ 64) (hb : baseOf bs ≤ h) (ht : rTakes l s name = (p, g, true)) : rTok l h bs s name = if h - baseOf bs < p ∨ 64 < h - p + g then (14, h, bs) else cTurn (h - p + g) bs s := by
  by_cases he : isEnd s
  · rw [takes_end' he] at ht
    injection ht with h1 h2
    injection h2 with h2 _
    subst h1; subst h2
    rw [if_neg (by omega), show h - 0 + 0 = h from by omega]
    unfold rTok cTurn
    rw [if_pos he, if_pos he]; rfl
  · unfold rTok cTurn
    rw [if_neg he, if_neg (by omega), ht, if_neg he]
    rfl
section
variable {W : World} {g : Nat} {h : Int} {v : Value} {bs : List BkV} {A : Option Addr} {n c : Nat} {l : List FnV} {pages most : Int}
set_option maxHeartbeats 16000000 in
set_option maxRecDepth 100000 in
theorem wstep_any (s : Wk W g h v bs) (hF : Fnr W A n c l) (t : TkV) (hb : Bas h bs) (htop : Top t.sign bs) (hfew : bs.length ≤ 99) : Calls Tryz.prog 109 #[.pointer (some ⟨g, 0, none⟩), unitV pages most A n c, .agg (tkC t).toArray] W (WPost W g (rTok l h bs t.sign t.name)) := by
  unfold unitV
  obtain ⟨r, tn, nm⟩ := t
  simp only at htop
  simp only [tkC]
  obtain ⟨R, hR⟩ : ∃ R, R = rTok l h bs r nm := ⟨_, rfl⟩
  rw [← hR]
  have HR := Lib.hid hR
  have HTOP := Lib.hid htop
  have HS := Lib.hid s
  have HF := Lib.hid hF
  have HB := Lib.hid hb
  obtain ⟨hr0, hr1⟩ := s.hr
  clear hR htop s hF hb
  go_enter Tryz.func109, Tryz.ntmps109
  go_upto_region 1 with fail
  have hN := Whole.new W 24 [.int .i64 pages, .int .i64 most, .slice A n c]
  have hal : Chg [] W (W.alloc (.cells #[.int .i64 pages, .int .i64 most, .slice A n c] 24)) := (Chg.refl [] W).alloc _
  have hsz : (W.alloc (.cells #[.int .i64 pages, .int .i64 most, .slice A n c] 24)).heap.size = W.heap.size + 1 := Array.size_push _
  obtain ⟨w1, hw1⟩ : ∃ w1, w1 = W.alloc (.cells #[.int .i64 pages, .int .i64 most, .slice A n c] 24) := ⟨_, rfl⟩
  rw [← hw1] at hN hal hsz ⊢
  have hN2 := Whole.new w1 110 [.int .i32 r, .int .i64 tn, .int .i32 nm]
  have hal2 : Chg [] w1 (w1.alloc (.cells #[.int .i32 r, .int .i64 tn, .int .i32 nm] 110)) := (Chg.refl [] w1).alloc _
  rw [hsz] at hN2
  have hU2 := hN.keep hal2
  have hc := hal.trans hal2
  generalize w1.alloc (.cells #[.int .i32 r, .int .i64 tn, .int .i32 nm] 110) = w2 at hN2 hU2 hc ⊢
  have HF2 := Lib.hid (HF.out.keep hc)
  have HS2 := Lib.hid (HS.out.keep hc)
  have HGU := Lib.hid (show g < W.heap.size from HS.out.rec_.lt)
  generalize W.heap.size = gu at hU2 hN2 HGU ⊢
  have HU2 := Lib.hid hU2
  have HT2 := Lib.hid hN2
  have HC2 := Lib.hid hc
  clear hN hal hsz hw1 hN2 hal2 hU2 hc
  have c0 := HS2.out.rec_.cell 0
  have t0 := HT2.out.cell 0
  have t1 := HT2.out.cell 1
  have t2 := HT2.out.cell 2
  have u0 := HU2.out.cell 0
  have u1 := HU2.out.cell 1
  have u2 := HU2.out.cell 2
  by_cases hdead : h = -1
  · have HRD := Lib.hid (HR.out.trans (rTok_dead (by omega)))
    subst hdead
    by_cases h58 : r = 58
    · subst h58
      have HRE := Lib.hid (HRD.out.trans (if_pos (.inl rfl)))
      have HTC := Lib.hid (wturn_any HS2.out 58 HTOP.out (fun hh => by omega))
      rw [← HRE.out] at HTC
      go_wp2_with fail
      refine HTC.out.mono ?_
      obtain ⟨er, rh, rb⟩ := R
      rintro e w9 ⟨hf9, rfl, hw9⟩
      have HP := Lib.hid (show WPost W g (er, rh, rb) (.returned (.int .i64 er)) w9 from ⟨(Fr.of_chg HC2.out).trans hf9, rfl, hw9⟩)
      clear hf9 hw9
      go_wp2_with fail
      go_ret
      exact HP.out
    have q58 : (r == 58) = false := by simpa using h58
    have p58 : (r != 58) = true := by simpa using h58
    by_cases h59 : r = 59
    · subst h59
      have HRE := Lib.hid (HRD.out.trans (if_pos (.inr (.inl rfl))))
      have HTC := Lib.hid (wturn_any HS2.out 59 HTOP.out (fun hh => by omega))
      rw [← HRE.out] at HTC
      go_wp2_with fail
      refine HTC.out.mono ?_
      obtain ⟨er, rh, rb⟩ := R
      rintro e w9 ⟨hf9, rfl, hw9⟩
      have HP := Lib.hid (show WPost W g (er, rh, rb) (.returned (.int .i64 er)) w9 from ⟨(Fr.of_chg HC2.out).trans hf9, rfl, hw9⟩)
      clear hf9 hw9
      go_wp2_with fail
      go_ret
      exact HP.out
    have q59 : (r == 59) = false := by simpa using h59
    have p59 : (r != 59) = true := by simpa using h59
    by_cases h93 : r = 93
    · subst h93
      have HRE := Lib.hid (HRD.out.trans (if_pos (.inr (.inr rfl))))
      have HTC := Lib.hid (wturn_any HS2.out 93 HTOP.out (fun hh => by omega))
      rw [← HRE.out] at HTC
      go_wp2_with fail
      refine HTC.out.mono ?_
      obtain ⟨er, rh, rb⟩ := R
      rintro e w9 ⟨hf9, rfl, hw9⟩
      have HP := Lib.hid (show WPost W g (er, rh, rb) (.returned (.int .i64 er)) w9 from ⟨(Fr.of_chg HC2.out).trans hf9, rfl, hw9⟩)
      clear hf9 hw9
      go_wp2_with fail
      go_ret
      exact HP.out
    have q93 : (r == 93) = false := by simpa using h93
    have p93 : (r != 93) = true := by simpa using h93
    have HRE := Lib.hid (HRD.out.trans (if_neg (show ¬ isEnd r from by unfold isEnd; omega)))
    have HP := Lib.hid (show WPost W g R (.returned (.int .i64 15)) w2 from ⟨Fr.of_chg HC2.out, by rw [HRE.out], fun hh => by rw [HRE.out] at hh; exact absurd hh (by simp)⟩)
    clear h58 h59 h93
    go_wp2_with fail
    go_ret
    exact HP.out
  have qdead : (h == -1) = false := by simpa using hdead
  have h0 : 0 ≤ h := by omega
  have HBB := Lib.hid (HB.out.base h0)
  clear hdead
  obtain ⟨T, hT⟩ : ∃ T, T = rTakes l r nm := ⟨_, rfl⟩
  have HT := Lib.hid hT
  have hin := rTakes_in l r nm
  rw [← hT] at hin
  clear hT
  go_wp2_with fail
  refine (ctakes_any HF2.out ⟨r, tn, nm⟩).mono ?_
  rw [← HT.out]
  obtain ⟨p, q, ok⟩ := T
  simp only at hin
  rintro e w3 ⟨rfl, hc3⟩
  have HS3 := Lib.hid (HS2.out.keep hc3)
  have HT3 := Lib.hid (HT2.out.keep hc3)
  have HC3 := Lib.hid (HC2.out.new hc3)
  clear hc3 c0 t0 t1 t2 u0 u1 u2 HF2 HU2 HS2 HT2 HC2
  cases ok with
  | false =>
    have HRE := Lib.hid (HR.out.trans (rTok_none h0 HT.out.symm))
    have HP := Lib.hid (show WPost W g R (.returned (.int .i64 22)) w3 from ⟨Fr.of_chg HC3.out, by rw [HRE.out], fun hh => by rw [HRE.out] at hh; exact absurd hh (by simp)⟩)
    go_wp2_with fail
    go_ret
    exact HP.out
  | true =>
    have HR2 := Lib.hid (HR.out.trans (rTok_alive h0 hr1 HBB.out HT.out.symm))
    obtain ⟨b0, hb0⟩ : ∃ b, b = baseOf bs := ⟨_, rfl⟩
    have hbr : 0 ≤ b0 ∧ b0 ≤ 64 := by
      rw [hb0]
      unfold baseOf
      cases hl : bs.getLast? with
      | none => exact ⟨Int.le_refl 0, by decide⟩
      | some x => have := HS3.out.rb x (List.mem_of_getLast? hl); exact ⟨this.1, this.2.1⟩
    rw [← hb0] at HR2
    have HBO := Lib.hid hb0
    clear hb0
    go_upto_region 8 with fail
    have c3 := HS3.out.rec_.cell 0
    have HDR := Lib.hid ((Chg.refl [] w3).drew)
    have HCB := Lib.hid (fun (V : World) (hV : Chg [] w3 V) => show Calls Tryz.prog 121 #[.pointer (some ⟨g, 0, none⟩)] V (BasePost b0 V) from by rw [HBO.out]; exact wbase_any (HS3.out.keep hV))
    by_cases hlow : h - b0 < p
    · have qlow : decide (h - b0 < p) = true := by simpa using hlow
      have HRE := Lib.hid (HR2.out.trans (if_pos (.inl hlow)))
      clear hlow
      refine wp_flow (by kernel_rfl) plainT plainT_ok (by kernel_rfl) ?_
      refine flow_move_out plainT_ok rfl rfl rfl ?_
      refine flow1 (r := .pointer (some ⟨g, 0, none⟩)) plainT_ok rfl (.inn rfl) rfl (fun ev W he e1 => by go_simp) ?_
      refine flow1 (r := .pointer (some ⟨g, 0, none⟩)) plainT_ok rfl (.inn rfl) rfl (fun ev W he e1 => by go_simp) ?_
      refine flow1h (r := .int .i64 h) plainT_ok rfl (.inn rfl) rfl (fun ev W he hW e1 => by have c0 := cell_keep (by simpa using c3 : w3.cell? ⟨g, 0, none⟩ = some (.int .i64 h)) (HDR.out.trans (show Chg [] w3.drew _ from hW)); go_simp) ?_
      refine flow_move_out plainT_ok rfl rfl rfl ?_
      refine flow_callv (.int .i64 b0) (by kernel_rfl) rfl (.cons (.inn rfl) .nil) (fun V hV => (HCB.out V (HDR.out.trans (show Chg [] w3.drew _ from hV))).mono fun e w' hb => ⟨hb.1, by rw [plain_by]; exact hb.2⟩) ?_
      refine flow2 (r := .int .i64 (h - b0)) plainT_ok rfl (.inn rfl) (.inn rfl) rfl (fun ev W he e1 e2 => by have hw : IntKind.i64.wrap (h - b0) = h - b0 := IntWalk.i64_in _ (by omega); go_simp) ?_
      refine flow_move_out plainT_ok rfl rfl rfl ?_
      refine flow2 (r := .bool true) plainT_ok rfl (.inn rfl) (.inn rfl) rfl (fun ev W he e1 e2 => by go_simp) ?_
      refine flow_move plainT_ok rfl (keeps_isV _) (.inr (keeps_isV _)) rfl ?_
      refine flow_skip rfl ?_
      refine flow_skip rfl ?_
      refine flow_skip rfl ?_
      refine flow_skip rfl ?_
      refine flow_skip rfl ?_
      refine flow_skip rfl ?_
      refine flow_skip rfl ?_
      refine flow_skip rfl ?_
      refine flow_skip rfl ?_
      refine flow_or_true plainT_ok rfl rfl rfl ?_
      intro vs V hV hG
      obtain e60 : vs 60 = .bool true := hG 60 _ rfl (by kernel_rfl)
      have hV' : Chg [] w3 V := HDR.out.trans (show Chg [] w3.drew _ from hV)
      have HS4 := Lib.hid (HS3.out.keep hV')
      have HT4 := Lib.hid (HT3.out.keep hV')
      have HC4 := Lib.hid (HC3.out.new hV')
      simp only [putAll, Act.put, List.setIfInBounds_toArray, List.set_cons_zero, List.set_cons_succ, e60]
      clear hG hV hV' e60 c3 HCB
      have HP := Lib.hid (show WPost W g R (.returned (.int .i64 14)) V from ⟨Fr.of_chg HC4.out, by rw [HRE.out], fun hh => by rw [HRE.out] at hh; exact absurd hh (by simp)⟩)
      go_wp2_with fail
      go_ret
      exact HP.out
    · have qlow : decide (h - b0 < p) = false := by simpa using hlow
      by_cases hbig : 64 < h - p + q
      · have qbig : decide (64 < h - p + q) = true := by simpa using hbig
        have HRE := Lib.hid (HR2.out.trans (if_pos (.inr hbig)))
        refine wp_flow (by kernel_rfl) plainT plainT_ok (by kernel_rfl) ?_
        refine flow_move_out plainT_ok rfl rfl rfl ?_
        refine flow1 (r := .pointer (some ⟨g, 0, none⟩)) plainT_ok rfl (.inn rfl) rfl (fun ev W he e1 => by go_simp) ?_
        refine flow1 (r := .pointer (some ⟨g, 0, none⟩)) plainT_ok rfl (.inn rfl) rfl (fun ev W he e1 => by go_simp) ?_
        refine flow1h (r := .int .i64 h) plainT_ok rfl (.inn rfl) rfl (fun ev W he hW e1 => by have c0 := cell_keep (by simpa using c3 : w3.cell? ⟨g, 0, none⟩ = some (.int .i64 h)) (HDR.out.trans (show Chg [] w3.drew _ from hW)); go_simp) ?_
        refine flow_move_out plainT_ok rfl rfl rfl ?_
        refine flow_callv (.int .i64 b0) (by kernel_rfl) rfl (.cons (.inn rfl) .nil) (fun V hV => (HCB.out V (HDR.out.trans (show Chg [] w3.drew _ from hV))).mono fun e w' hb => ⟨hb.1, by rw [plain_by]; exact hb.2⟩) ?_
        refine flow2 (r := .int .i64 (h - b0)) plainT_ok rfl (.inn rfl) (.inn rfl) rfl (fun ev W he e1 e2 => by have hw : IntKind.i64.wrap (h - b0) = h - b0 := IntWalk.i64_in _ (by omega); go_simp) ?_
        refine flow_move_out plainT_ok rfl rfl rfl ?_
        refine flow2 (r := .bool false) plainT_ok rfl (.inn rfl) (.inn rfl) rfl (fun ev W he e1 e2 => by go_simp) ?_
        refine flow_move plainT_ok rfl (keeps_isV _) (.inr (keeps_isV _)) rfl ?_
        refine flow_move_out plainT_ok rfl rfl rfl ?_
        refine flow1 (r := .pointer (some ⟨g, 0, none⟩)) plainT_ok rfl (.inn rfl) rfl (fun ev W he e1 => by go_simp) ?_
        refine flow1 (r := .pointer (some ⟨g, 0, none⟩)) plainT_ok rfl (.inn rfl) rfl (fun ev W he e1 => by go_simp) ?_
        refine flow1h (r := .int .i64 h) plainT_ok rfl (.inn rfl) rfl (fun ev W he hW e1 => by have c0 := cell_keep (by simpa using c3 : w3.cell? ⟨g, 0, none⟩ = some (.int .i64 h)) (HDR.out.trans (show Chg [] w3.drew _ from hW)); go_simp) ?_
        refine flow_move_out plainT_ok rfl rfl rfl ?_
        refine flow2 (r := .int .i64 (h - p)) plainT_ok rfl (.inn rfl) (.inn rfl) rfl (fun ev W he e1 e2 => by have hw : IntKind.i64.wrap (h - p) = h - p := IntWalk.i64_in _ (by omega); go_simp) ?_
        refine flow_move_out plainT_ok rfl rfl rfl ?_
        refine flow2 (r := .int .i64 (h - p + q)) plainT_ok rfl (.inn rfl) (.inn rfl) rfl (fun ev W he e1 e2 => by have hw : IntKind.i64.wrap (h - p + q) = h - p + q := IntWalk.i64_in _ (by omega); go_simp) ?_
        refine flow2 (r := .bool true) plainT_ok rfl (.inn rfl) (.const _) rfl (fun ev W he e1 e2 => by go_simp) ?_
        refine flow_or_false plainT_ok rfl rfl rfl ?_
        intro vs V hV hG
        obtain e60 : vs 60 = .bool true := hG 60 _ rfl (by kernel_rfl)
        have hV' : Chg [] w3 V := HDR.out.trans (show Chg [] w3.drew _ from hV)
        have HS4 := Lib.hid (HS3.out.keep hV')
        have HT4 := Lib.hid (HT3.out.keep hV')
        have HC4 := Lib.hid (HC3.out.new hV')
        simp only [putAll, Act.put, List.setIfInBounds_toArray, List.set_cons_zero, List.set_cons_succ, e60]
        clear hG hV hV' e60 c3 HCB
        have HP := Lib.hid (show WPost W g R (.returned (.int .i64 14)) V from ⟨Fr.of_chg HC4.out, by rw [HRE.out], fun hh => by rw [HRE.out] at hh; exact absurd hh (by simp)⟩)
        go_wp2_with fail
        go_ret
        exact HP.out
      · have qbig : decide (64 < h - p + q) = false := by simpa using hbig
        have HRE := Lib.hid (HR2.out.trans (if_neg (by omega)))
        have hlo : 0 ≤ h - p + q := by omega
        have hhi : h - p + q ≤ 64 := by omega
        refine wp_flow (by kernel_rfl) plainT plainT_ok (by kernel_rfl) ?_
        refine flow_move_out plainT_ok rfl rfl rfl ?_
        refine flow1 (r := .pointer (some ⟨g, 0, none⟩)) plainT_ok rfl (.inn rfl) rfl (fun ev W he e1 => by go_simp) ?_
        refine flow1 (r := .pointer (some ⟨g, 0, none⟩)) plainT_ok rfl (.inn rfl) rfl (fun ev W he e1 => by go_simp) ?_
        refine flow1h (r := .int .i64 h) plainT_ok rfl (.inn rfl) rfl (fun ev W he hW e1 => by have c0 := cell_keep (by simpa using c3 : w3.cell? ⟨g, 0, none⟩ = some (.int .i64 h)) (HDR.out.trans (show Chg [] w3.drew _ from hW)); go_simp) ?_
        refine flow_move_out plainT_ok rfl rfl rfl ?_
        refine flow_callv (.int .i64 b0) (by kernel_rfl) rfl (.cons (.inn rfl) .nil) (fun V hV => (HCB.out V (HDR.out.trans (show Chg [] w3.drew _ from hV))).mono fun e w' hb => ⟨hb.1, by rw [plain_by]; exact hb.2⟩) ?_
        refine flow2 (r := .int .i64 (h - b0)) plainT_ok rfl (.inn rfl) (.inn rfl) rfl (fun ev W he e1 e2 => by have hw : IntKind.i64.wrap (h - b0) = h - b0 := IntWalk.i64_in _ (by omega); go_simp) ?_
        refine flow_move_out plainT_ok rfl rfl rfl ?_
        refine flow2 (r := .bool false) plainT_ok rfl (.inn rfl) (.inn rfl) rfl (fun ev W he e1 e2 => by go_simp) ?_
        refine flow_move plainT_ok rfl (keeps_isV _) (.inr (keeps_isV _)) rfl ?_
        refine flow_move_out plainT_ok rfl rfl rfl ?_
        refine flow1 (r := .pointer (some ⟨g, 0, none⟩)) plainT_ok rfl (.inn rfl) rfl (fun ev W he e1 => by go_simp) ?_
        refine flow1 (r := .pointer (some ⟨g, 0, none⟩)) plainT_ok rfl (.inn rfl) rfl (fun ev W he e1 => by go_simp) ?_
        refine flow1h (r := .int .i64 h) plainT_ok rfl (.inn rfl) rfl (fun ev W he hW e1 => by have c0 := cell_keep (by simpa using c3 : w3.cell? ⟨g, 0, none⟩ = some (.int .i64 h)) (HDR.out.trans (show Chg [] w3.drew _ from hW)); go_simp) ?_
        refine flow_move_out plainT_ok rfl rfl rfl ?_
        refine flow2 (r := .int .i64 (h - p)) plainT_ok rfl (.inn rfl) (.inn rfl) rfl (fun ev W he e1 e2 => by have hw : IntKind.i64.wrap (h - p) = h - p := IntWalk.i64_in _ (by omega); go_simp) ?_
        refine flow_move_out plainT_ok rfl rfl rfl ?_
        refine flow2 (r := .int .i64 (h - p + q)) plainT_ok rfl (.inn rfl) (.inn rfl) rfl (fun ev W he e1 e2 => by have hw : IntKind.i64.wrap (h - p + q) = h - p + q := IntWalk.i64_in _ (by omega); go_simp) ?_
        refine flow2 (r := .bool false) plainT_ok rfl (.inn rfl) (.const _) rfl (fun ev W he e1 e2 => by go_simp) ?_
        refine flow_or_false plainT_ok rfl rfl rfl ?_
        intro vs V hV hG
        obtain e60 : vs 60 = .bool false := hG 60 _ rfl (by kernel_rfl)
        have hV' : Chg [] w3 V := HDR.out.trans (show Chg [] w3.drew _ from hV)
        have HS4 := Lib.hid (HS3.out.keep hV')
        have HT4 := Lib.hid (HT3.out.keep hV')
        have HC4 := Lib.hid (HC3.out.new hV')
        simp only [putAll, Act.put, List.setIfInBounds_toArray, List.set_cons_zero, List.set_cons_succ, e60]
        clear hG hV hV' e60 c3 HCB
        have c0 := HS4.out.rec_.cell 0
        have f0 := HS4.out.rec_.frozen 0
        have he5 : h + (q - p) = h - p + q := by omega
        have HE5 := Lib.hid he5
        clear he5
        go_upto_region 11 with fail
        rw [HE5.out]
        generalize h - p + q = h5 at *
        have HS5 := Lib.hid (HS4.out.high h5 (by omega))
        have HT5 := Lib.hid (HT4.out.far (p := ⟨g, 0, none⟩) (by have := HGU.out; simp only; omega) (.int .i64 h5))
        generalize V.setCell ⟨g, 0, none⟩ (.int .i64 h5) = w5 at HS5 HT5 ⊢
        clear c0 f0 hlow hbig qlow qbig HR2
        have t0 := HT5.out.cell 0
        have HTC := Lib.hid (wturn_any HS5.out.1 r HTOP.out (fun _ => ⟨hlo, hfew⟩))
        rw [← HRE.out] at HTC
        go_wp2_with fail
        refine HTC.out.mono ?_
        obtain ⟨er, rh, rb⟩ := R
        rintro e w9 ⟨hf9, rfl, hw9⟩
        have HP := Lib.hid (show WPost W g (er, rh, rb) (.returned (.int .i64 er)) w9 from ⟨((Fr.of_chg HC4.out).trans HS5.out.2).trans hf9, rfl, hw9⟩)
        clear hf9 hw9
        go_wp2_with fail
        go_ret
        exact HP.out
end
end Go.Proofs.YtbkfhndmeljlcaaGreatDoor
