/-
  PN: WkLeave, WkTurn, Door.
-/
import Derived.Test.YtbkfhndmeljlcaaGreatDoorZPN21
import Derived.Test.YtbkfhndmeljlcaaGreatDoorZPN23
import Derived.Test.YtbkfhndmeljlcaaGreatDoorRows
import Derived.LaidMore
import Derived.Stop.LaidErr
import Derived.Lib.LaidTab
namespace Go.Proofs.YtbkfhndmeljlcaaGreatDoor
open Go.RowKit
def lLeave (h : Int) (bs : List BkV) (k : Nat) : Int × Int × List BkV := match rLeave h bs k with | (true, h', bs') => (0, h', bs') | (false, h', bs') => (14, h', bs')
theorem lLeave_on {h : Int} {bs : List BkV} {k : Nat} {y : BkV} (hk : bs[k]? = some y) (hy : y.sign ≠ 91) : lLeave h bs (k + 1) = lLeave h bs k := by
  unfold lLeave
  rw [rLeave, hk]
  simp only
  rw [if_neg hy]
theorem lLeave_at {h : Int} {bs : List BkV} {k : Nat} {y : BkV} (hk : bs[k]? = some y) (hy : y.sign = 91) : lLeave h bs (k + 1) = if h = y.base then (0, -1, bs.set k ⟨y.sign, y.base, y.other, true⟩) else (14, -1, bs.set k ⟨y.sign, y.base, y.other, true⟩) := by
  unfold lLeave
  rw [rLeave, hk]
  simp only
  rw [if_pos hy]
  by_cases e : h = y.base
  · rw [if_pos e, show (h == y.base) = true from by simpa using e]
  · rw [if_neg e, show (h == y.base) = false from by simpa using e]
section
variable {W : World} {g : Nat} {h : Int} {v : Value} {bs ys : List BkV} {x : BkV}
theorem Wk.part (s : Wk W g h v bs) {k : Nat} {y : BkV} (hk : bs[k]? = some y) : ∃ gr c, v = .slice (some ⟨gr, 0, none⟩) bs.length c ∧ bs.length ≤ c ∧ g + 1 ≤ gr ∧ W.cell? ⟨gr, k * 5, none⟩ = some (.bool (y.sign == 91)) ∧ W.cell? ⟨gr, k * 5 + 1, none⟩ = some (.int .i64 y.base) ∧ W.cell? ⟨gr, k * 5 + 4, none⟩ = some (.bool y.left) ∧ W.frozen? ⟨gr, k * 5 + 4, none⟩ = false := by
  obtain ⟨A, n, c, rfl, hn, hc⟩ := s.slice
  subst hn
  obtain ⟨gr, rfl, c0⟩ := rown_cell s.own rfl ((ptCs_get _ _ _ 0 hk (by omega)).trans rfl)
  obtain ⟨_, e, c1⟩ := rown_cell s.own rfl ((ptCs_get _ _ _ 1 hk (by omega)).trans rfl)
  injection e with e; injection e with e; subst e
  obtain ⟨_, e, c4⟩ := rown_cell s.own rfl ((ptCs_get _ _ _ 4 hk (by omega)).trans rfl)
  injection e with e; injection e with e; subst e
  exact ⟨gr, c, rfl, hc, (s.own.lt gr rfl).1, c0, c1, c4, rown_frozen s.own⟩
set_option maxHeartbeats 8000000 in
set_option maxRecDepth 100000 in
theorem wleave_any (s : Wk W g h v bs) (hx : ∃ x ∈ bs, x.sign = 91) : Calls Tryz.prog 132 #[.pointer (some ⟨g, 0, none⟩)] W (WPost W g (lLeave h bs bs.length)) := by
  have h0 : 0 < bs.length := by obtain ⟨x, hx, _⟩ := hx; exact List.length_pos_of_mem hx
  have HR := Lib.hid (show ∃ q : Nat, bs.length = q + 1 from ⟨bs.length - 1, by omega⟩)
  generalize hRR : lLeave h bs bs.length = R
  obtain ⟨q, hq⟩ := HR.out
  have HQ := Lib.hid hq
  have HRR := Lib.hid hRR
  have hfew := s.few
  have hq99 : q ≤ 99 := by omega
  obtain ⟨y0, hy0⟩ : ∃ y, bs[q]? = some y := ⟨bs[q]'(by omega), by simp⟩
  obtain ⟨gr, c, rfl, hc, hgr, _⟩ := s.part hy0
  have HS := Lib.hid s
  have c0 := s.rec_.cell 0
  have c1 := s.rec_.cell 1
  have g0 := s.rec_.frozen 0
  have HX := Lib.hid (show ∃ j ≤ q, ∃ x, bs[j]? = some x ∧ x.sign = 91 from by
    obtain ⟨x, hx, hs⟩ := hx
    obtain ⟨j, hj, rfl⟩ := List.getElem_of_mem hx
    exact ⟨j, by omega, _, List.getElem?_eq_getElem hj, hs⟩)
  rw [hq] at c1 hc HS
  clear s hx h0 HR hq hRR hfew hy0
  have hq0 : (0 : Int) ≤ (q : Int) := by omega
  go_enter Tryz.func132, Tryz.ntmps132
  go_wp2_with fail
  go_loopw [3] (fun i wr => ∃ k : Nat, i = .int .i64 (k : Int) ∧ k ≤ q ∧ Hid (R = lLeave h bs (k + 1)) ∧ Hid (∃ j ≤ k, ∃ x, bs[j]? = some x ∧ x.sign = 91) ∧ wr = W) (fun i _ => (intOf i).toNat)
  case atStart => exact ⟨q, rfl, by omega, Lib.hid (by rw [← HRR.out, HQ.out]), HX, rfl⟩
  case round =>
    obtain ⟨k, rfl, hk, HRk, HXk, hwr⟩ := hrel
    subst hwr
    obtain ⟨y, hy⟩ : ∃ y, bs[k]? = some y := ⟨bs[k]'(by have := HQ.out; omega), by simp⟩
    obtain ⟨gr', c', e, _, _, y0', y1, y4, fy4⟩ := HS.out.part hy
    injection e with e1 e2 e3
    injection e1 with e1
    injection e1 with e1
    subst e1
    have hkI : (k : Int) < (q : Int) + 1 := by omega
    have hkI2 : (k : Int) < ((q + 1 : Nat) : Int) := by omega
    have hk0 : (0 : Int) ≤ (k : Int) := by omega
    by_cases h91 : y.sign = 91
    · have q91 : (y.sign == 91) = true := by simpa using h91
      rw [q91] at y0'
      have HRE := Lib.hid (HRk.out.trans (lLeave_at hy h91))
      have HY := Lib.hid hy
      clear h91 q91 hy e2 e3
      by_cases hb : h = y.base
      · have qb : (h != y.base) = false := by simpa using hb
        have qb2 : (h == y.base) = true := by simpa using hb
        have HE := Lib.hid (HRE.out.trans (if_pos hb))
        clear hb
        go_upto_region 4 with fail
        go_quiet (fail)
        have hcd := (Chg.refl [] wr).drewN nq
        have HS2 := Lib.hid (HS.out.keep hcd)
        have z4 := cell_keep y4 hcd
        have HC2 := Lib.hid hcd
        have HM := Lib.hid (HS2.out.mark (k := k) (y := y) HQ.out.symm HY.out)
        have fz4 : (wr.drewN nq).frozen? ⟨gr, k * 5 + 4, none⟩ = false := fy4
        generalize wr.drewN nq = w2 at HS2 z4 HC2 HM fz4 ⊢
        clear hcd c0 c1 g0 y0' y1 y4 fy4
        have c1 := HS2.out.rec_.cell 1
        go_upto_region 7 with fail
        generalize w2.setCell ⟨gr, k * 5 + 4, none⟩ (.bool true) = w3 at HM ⊢
        clear c1
        have c0 := HM.out.1.rec_.cell 0
        have g0 := HM.out.1.rec_.frozen 0
        obtain ⟨hP, hF⟩ := HM.out.1.high (-1) (by omega)
        have HP := Lib.hid (show WPost wr g R (.returned (.int .i64 0)) _ from ⟨((Fr.of_chg HC2.out).trans HM.out.2).trans hF, by rw [HE.out], fun _ => by rw [HE.out]; exact ⟨_, hP⟩⟩)
        clear hP hF
        go_wp2_with fail
        go_ret
        exact HP.out
      · have qb : (h != y.base) = true := by simpa using hb
        have qb2 : (h == y.base) = false := by simpa using hb
        have HE := Lib.hid (HRE.out.trans (if_neg hb))
        clear hb
        go_upto_region 4 with fail
        go_quiet (fail)
        have HP := Lib.hid (show WPost wr g R (.returned (.int .i64 14)) (wr.drewN nq) from ⟨Fr.of_chg ((Chg.refl [] wr).drewN nq), by rw [HE.out], fun hh => by rw [HE.out] at hh; exact absurd hh (by simp)⟩)
        go_wp2_with fail
        go_ret
        exact HP.out
    · have q91 : (y.sign == 91) = false := by simpa using h91
      rw [q91] at y0'
      obtain ⟨j, hj, x, hxj, hxs⟩ := HXk.out
      have hjk : j < k := by
        rcases Nat.lt_or_ge j k with h' | h'
        · exact h'
        · exfalso
          have : j = k := by omega
          subst this
          rw [hy] at hxj
          injection hxj with e
          subst e
          exact h91 hxs
      have HR2 := Lib.hid (show R = lLeave h bs (k - 1 + 1) from by rw [HRk.out, lLeave_on hy h91, show k - 1 + 1 = k from by omega])
      have HX2 := Lib.hid (show ∃ j ≤ k - 1, ∃ x, bs[j]? = some x ∧ x.sign = 91 from ⟨j, by omega, x, hxj, hxs⟩)
      have hk1 : (1 : Int) ≤ (k : Int) := by omega
      clear h91 q91 hy e2 e3 hxj
      go_wp2_with fail
      go_roundw
      case rel => exact ⟨k - 1, by rw [show ((k - 1 : Nat) : Int) = (k : Int) - 1 from by omega], by omega, HR2, HX2, by first | rfl | trivial⟩
      case measure => simp [intOf]; omega
end
end Go.Proofs.YtbkfhndmeljlcaaGreatDoor
namespace Go.Proofs.YtbkfhndmeljlcaaGreatDoor
open Go.RowKit
def Top (sg : Int) (bs : List BkV) : Prop := (sg = 58 → ∃ ys x, bs = ys ++ [x] ∧ x.sign = 63) ∧ (sg = 59 → ∃ ys x, bs = ys ++ [x] ∧ x.sign ≠ 91) ∧ (sg = 93 → ∃ ys x, bs = ys ++ [x] ∧ x.sign = 91) ∧ (sg = 126 → ∃ x ∈ bs, x.sign = 91)
def cTurn (h : Int) (bs : List BkV) (s : Int) : Int × Int × List BkV :=
  if isEnd s then (match bs.getLast? with
    | none => (14, h, bs)
    | some x => eEnd h bs.dropLast x s)
  else if s = 63 ∨ s = 91 then (0, h, bs ++ [⟨s, h, 0, false⟩])
  else if s = 126 then lLeave h bs bs.length
  else if s = 161 then (0, -1, bs)
  else (0, h, bs)
theorem cTurn_end {h : Int} {ys : List BkV} {x : BkV} {s : Int} (hs : isEnd s) : cTurn h (ys ++ [x]) s = eEnd h ys x s := by
  unfold cTurn
  rw [if_pos hs]
  simp only [List.getLast?_append, List.getLast?_singleton, Option.some_or, List.dropLast_concat]
section
variable {W : World} {g : Nat} {h : Int} {v : Value} {bs ys : List BkV} {x : BkV}
set_option maxHeartbeats 8000000 in
set_option maxRecDepth 100000 in
theorem wturn_63 (s : Wk W g h v bs) (h0 : 0 ≤ h) (hf : bs.length ≤ 99) : Calls Tryz.prog 119 #[.pointer (some ⟨g, 0, none⟩), .int .i32 63] W (WPost W g (0, h, bs ++ [⟨63, h, 0, false⟩])) := by
  obtain ⟨i0, hi0, hz0, hz1, hz2⟩ := info_parts info_cpart
  obtain ⟨A3, n3, c3, rfl, hn3, hc3⟩ := s.slice
  have HS := Lib.hid s
  have k1 := s.rec_.cell 1
  have k0 := s.rec_.cell 0
  have hal : Chg [] W (W.alloc (.cells #[.bool false, .int .i64 h, .bool false, .int .i64 0, .bool false] 171)) := (Chg.refl [] W).alloc _
  have q1 : (W.alloc (.cells #[.bool false, .int .i64 h, .bool false, .int .i64 0, .bool false] 171)).cell? ⟨g, 1, none⟩ = some (.slice A3 n3 c3) := cell_keep (by simpa using k1) hal
  have q0 : (W.alloc (.cells #[.bool false, .int .i64 h, .bool false, .int .i64 0, .bool false] 171)).cell? ⟨g, 0, none⟩ = some (.int .i64 h) := cell_keep (by simpa using k0) hal
  have HOW := Lib.hid (show W.ownsRow (g + 1) 171 5 (.slice A3 n3 c3) n3 (ptCs bs) from by have := s.own; rw [← hn3] at this; exact this)
  have hBW : g + 1 ≤ W.heap.size := s.rec_.lt
  have HN := Lib.hid hn3
  have hn99 : n3 ≤ 99 := by omega
  have HHR := Lib.hid s.hr
  clear hn3 hal s
  go_enter Tryz.func119, Tryz.ntmps119
  go_wp2_with fail
  go_region_law (
    (refine step_append_n rfl (.tmp 13) (.tmp 21) 143 rfl (g + 1) 171 i0 _ 5 40 Tryz.underlying143 hi0 hz0 hz1 hz2 rfl (by decide) (.slice A3 n3 c3) n3 (ptCs bs) rfl (rown_keep HOW.out (((Chg.refl [] W).alloc _).drew)) ⟨W.heap.size, 0, none⟩ 1 1 [.bool false, .int .i64 h, .bool false, .int .i64 0, .bool false] rfl rfl (cells_page W _ _) (by simp [Value.oneCell']) (by unfold maxLen; omega) (by omega) (by simp; omega) ?_
     intro v' w' ho hg
     obtain ⟨A6, k6, rfl, _⟩ := rown_slice ho
     have HO := Lib.hid ho
     have HG := Lib.hid hg
     have HR6 := Lib.hid (whole_grown (HS.out.rec_.keep (((Chg.refl [] W).alloc (.cells #[.bool false, .int .i64 h, .bool false, .int .i64 0, .bool false] 171)).drew)) (rown_keep HS.out.own (((Chg.refl [] W).alloc (.cells #[.bool false, .int .i64 h, .bool false, .int .i64 0, .bool false] 171)).drew)) (by decide) hg)
     have f1 := HR6.out.frozen 1
     have k1 := HR6.out.cell 1
     clear ho hg))
  all_goals
    obtain ⟨hP, hF⟩ := HS.out.push (x := ⟨63, h, 0, false⟩) (((Chg.refl [] W).alloc (.cells #[.bool false, .int .i64 h, .bool false, .int .i64 0, .bool false] 171)).drew) (by have := HN.out; omega) HO.out HG.out hf (by have := HHR.out; simp only; omega)
    have HP := Lib.hid (show WPost W g (0, h, bs ++ [⟨63, h, 0, false⟩]) (.returned (.int .i64 0)) _ from ⟨hF, rfl, fun _ => ⟨_, hP⟩⟩)
    clear hP hF
    go_wp2_with fail
    go_ret
    exact HP.out
set_option maxHeartbeats 8000000 in
set_option maxRecDepth 100000 in
theorem wturn_91 (s : Wk W g h v bs) (h0 : 0 ≤ h) (hf : bs.length ≤ 99) : Calls Tryz.prog 119 #[.pointer (some ⟨g, 0, none⟩), .int .i32 91] W (WPost W g (0, h, bs ++ [⟨91, h, 0, false⟩])) := by
  obtain ⟨i0, hi0, hz0, hz1, hz2⟩ := info_parts info_cpart
  obtain ⟨A3, n3, c3, rfl, hn3, hc3⟩ := s.slice
  have HS := Lib.hid s
  have k1 := s.rec_.cell 1
  have k0 := s.rec_.cell 0
  have hal : Chg [] W (W.alloc (.cells #[.bool true, .int .i64 h, .bool false, .int .i64 0, .bool false] 171)) := (Chg.refl [] W).alloc _
  have q1 : (W.alloc (.cells #[.bool true, .int .i64 h, .bool false, .int .i64 0, .bool false] 171)).cell? ⟨g, 1, none⟩ = some (.slice A3 n3 c3) := cell_keep (by simpa using k1) hal
  have q0 : (W.alloc (.cells #[.bool true, .int .i64 h, .bool false, .int .i64 0, .bool false] 171)).cell? ⟨g, 0, none⟩ = some (.int .i64 h) := cell_keep (by simpa using k0) hal
  have HOW := Lib.hid (show W.ownsRow (g + 1) 171 5 (.slice A3 n3 c3) n3 (ptCs bs) from by have := s.own; rw [← hn3] at this; exact this)
  have hBW : g + 1 ≤ W.heap.size := s.rec_.lt
  have HN := Lib.hid hn3
  have hn99 : n3 ≤ 99 := by omega
  have HHR := Lib.hid s.hr
  clear hn3 hal s
  go_enter Tryz.func119, Tryz.ntmps119
  go_wp2_with fail
  go_region_law (
    (refine step_append_n rfl (.tmp 13) (.tmp 21) 143 rfl (g + 1) 171 i0 _ 5 40 Tryz.underlying143 hi0 hz0 hz1 hz2 rfl (by decide) (.slice A3 n3 c3) n3 (ptCs bs) rfl (rown_keep HOW.out (((Chg.refl [] W).alloc _).drew)) ⟨W.heap.size, 0, none⟩ 1 1 [.bool true, .int .i64 h, .bool false, .int .i64 0, .bool false] rfl rfl (cells_page W _ _) (by simp [Value.oneCell']) (by unfold maxLen; omega) (by omega) (by simp; omega) ?_
     intro v' w' ho hg
     obtain ⟨A6, k6, rfl, _⟩ := rown_slice ho
     have HO := Lib.hid ho
     have HG := Lib.hid hg
     have HR6 := Lib.hid (whole_grown (HS.out.rec_.keep (((Chg.refl [] W).alloc (.cells #[.bool true, .int .i64 h, .bool false, .int .i64 0, .bool false] 171)).drew)) (rown_keep HS.out.own (((Chg.refl [] W).alloc (.cells #[.bool true, .int .i64 h, .bool false, .int .i64 0, .bool false] 171)).drew)) (by decide) hg)
     have f1 := HR6.out.frozen 1
     have k1 := HR6.out.cell 1
     clear ho hg))
  all_goals
    obtain ⟨hP, hF⟩ := HS.out.push (x := ⟨91, h, 0, false⟩) (((Chg.refl [] W).alloc (.cells #[.bool true, .int .i64 h, .bool false, .int .i64 0, .bool false] 171)).drew) (by have := HN.out; omega) HO.out HG.out hf (by have := HHR.out; simp only; omega)
    have HP := Lib.hid (show WPost W g (0, h, bs ++ [⟨91, h, 0, false⟩]) (.returned (.int .i64 0)) _ from ⟨hF, rfl, fun _ => ⟨_, hP⟩⟩)
    clear hP hF
    go_wp2_with fail
    go_ret
    exact HP.out
set_option maxHeartbeats 8000000 in
set_option maxRecDepth 100000 in
theorem wturn_any (s : Wk W g h v bs) (sg : Int) (ht : Top sg bs) (h0 : (sg = 63 ∨ sg = 91) → 0 ≤ h ∧ bs.length ≤ 99) : Calls Tryz.prog 119 #[.pointer (some ⟨g, 0, none⟩), .int .i32 sg] W (WPost W g (cTurn h bs sg)) := by
  by_cases h63 : sg = 63
  · subst h63
    exact wturn_63 s (h0 (.inl rfl)).1 (h0 (.inl rfl)).2
  by_cases h91 : sg = 91
  · subst h91
    exact wturn_91 s (h0 (.inr rfl)).1 (h0 (.inr rfl)).2
  have q63 : (sg == 63) = false := by simpa using h63
  have q91 : (sg == 91) = false := by simpa using h91
  by_cases h58 : sg = 58
  · subst h58
    obtain ⟨ys, x, rfl, hx⟩ := ht.1 rfl
    have HH := Lib.hid (whalve_any s hx)
    have HR := Lib.hid (show cTurn h (ys ++ [x]) 58 = (0, x.base, ys ++ [⟨58, x.base, h, x.left⟩]) from by rw [cTurn_end (.inl rfl)]; rfl)
    generalize cTurn h (ys ++ [x]) 58 = R at HR ⊢
    clear s ht h0 hx h63 h91
    go_enter Tryz.func119, Tryz.ntmps119
    go_wp2_with fail
    refine HH.out.mono ?_
    rintro e w1 ⟨rfl, v1, hw1, hf1⟩
    have HP := Lib.hid (show WPost W g R (.returned (.int .i64 0)) w1 from ⟨hf1, by rw [HR.out], fun _ => by rw [HR.out]; exact ⟨_, hw1⟩⟩)
    clear hw1 hf1
    go_wp2_with fail
    go_ret
    exact HP.out
  have q58 : (sg == 58) = false := by simpa using h58
  by_cases h59 : sg = 59
  · subst h59
    obtain ⟨ys, x, rfl, hx⟩ := ht.2.1 rfl
    have HH := Lib.hid (wendif_any s hx)
    have HR := Lib.hid (show cTurn h (ys ++ [x]) 59 = eEnd h ys x 59 from cTurn_end (.inr (.inl rfl)))
    generalize hRR : cTurn h (ys ++ [x]) 59 = R at HR ⊢
    clear s ht h0 h63 h91 h58 hx hRR
    go_enter Tryz.func119, Tryz.ntmps119
    go_wp2_with fail
    refine HH.out.mono ?_
    rw [← HR.out]
    obtain ⟨er, rh, rb⟩ := R
    rintro e w1 ⟨hf1, rfl, hw1⟩
    have HP := Lib.hid (show WPost W g (er, rh, rb) (.returned (.int .i64 er)) w1 from ⟨hf1, rfl, hw1⟩)
    clear hw1 hf1
    go_wp2_with fail
    go_ret
    exact HP.out
  have q59 : (sg == 59) = false := by simpa using h59
  by_cases h93 : sg = 93
  · subst h93
    obtain ⟨ys, x, rfl, hx⟩ := ht.2.2.1 rfl
    have HH := Lib.hid (wendloop_any s hx)
    have HR := Lib.hid (show cTurn h (ys ++ [x]) 93 = eEnd h ys x 93 from cTurn_end (.inr (.inr rfl)))
    generalize hRR : cTurn h (ys ++ [x]) 93 = R at HR ⊢
    clear s ht h0 h63 h91 h58 hx h59 hRR
    go_enter Tryz.func119, Tryz.ntmps119
    go_wp2_with fail
    refine HH.out.mono ?_
    rw [← HR.out]
    obtain ⟨er, rh, rb⟩ := R
    rintro e w1 ⟨hf1, rfl, hw1⟩
    have HP := Lib.hid (show WPost W g (er, rh, rb) (.returned (.int .i64 er)) w1 from ⟨hf1, rfl, hw1⟩)
    clear hw1 hf1
    go_wp2_with fail
    go_ret
    exact HP.out
  have q93 : (sg == 93) = false := by simpa using h93
  by_cases h126 : sg = 126
  · subst h126
    have HH := Lib.hid (wleave_any s (ht.2.2.2 rfl))
    have HR := Lib.hid (show cTurn h bs 126 = lLeave h bs bs.length from rfl)
    generalize hRR : cTurn h bs 126 = R at HR ⊢
    clear s ht h0 h63 h91 h58 h59 h93 hRR
    go_enter Tryz.func119, Tryz.ntmps119
    go_wp2_with fail
    refine HH.out.mono ?_
    rw [← HR.out]
    obtain ⟨er, rh, rb⟩ := R
    rintro e w1 ⟨hf1, rfl, hw1⟩
    have HP := Lib.hid (show WPost W g (er, rh, rb) (.returned (.int .i64 er)) w1 from ⟨hf1, rfl, hw1⟩)
    clear hw1 hf1
    go_wp2_with fail
    go_ret
    exact HP.out
  have q126 : (sg == 126) = false := by simpa using h126
  by_cases h161 : sg = 161
  · subst h161
    have c0 := s.rec_.cell 0
    have g0 := s.rec_.frozen 0
    obtain ⟨hP, hF⟩ := s.high (-1) (by omega)
    have HP := Lib.hid (show WPost W g (cTurn h bs 161) (.returned (.int .i64 0)) _ from ⟨hF, rfl, fun _ => ⟨_, hP⟩⟩)
    clear s ht h0 hP hF h63 h91 h58 h59 h93 h126
    go_enter Tryz.func119, Tryz.ntmps119
    go_wp2_with fail
    go_ret
    exact HP.out
  · have q161 : (sg == 161) = false := by simpa using h161
    have HR := Lib.hid (show cTurn h bs sg = (0, h, bs) from by
      have hne : ¬ isEnd sg := by unfold isEnd; omega
      unfold cTurn
      rw [if_neg hne, if_neg (by omega), if_neg (by omega), if_neg (by omega)])
    have HP := Lib.hid (show WPost W g (cTurn h bs sg) (.returned (.int .i64 0)) W from ⟨Fr.refl _ _ _, by rw [HR.out], fun _ => by rw [HR.out]; exact ⟨_, s⟩⟩)
    clear s ht h0 h63 h91 h58 h59 h93 h126 h161
    go_enter Tryz.func119, Tryz.ntmps119
    go_wp2_with fail
    go_ret
    exact HP.out
end
end Go.Proofs.YtbkfhndmeljlcaaGreatDoor
namespace Go.Proofs.YtbkfhndmeljlcaaGreatDoor
open Go.RowKit
abbrev laidL : List (String × DataW Unit) := [("math/bits.deBruijn32tab", Rows.laid_math_bits_deBruijn32tab), ("math/bits.deBruijn64tab", Rows.laid_math_bits_deBruijn64tab), ("internal/strconv.uint64pow10", Rows.laid_internal_strconv_uint64pow10)]
theorem door_met (os : Os) (args : Array Value) : laidMetH Tryz.prog laidL ((World.doorLaid Tryz.prog 400 os).forCall (fun _ _ => 0) ⟨#[], args, []⟩).memory :=
  laidMetH_of_parts3 (fuel := 8) (laidMet_of_run' 8 (by kernel_rfl) (by kernel_rfl)) (by kernel_rfl) (by kernel_rfl)
theorem pow_data : (Rows.laid_internal_strconv_uint64pow10 : DataW Unit) = Lib.tabData .u64 Lib.pow10Tab := by rfl
theorem pow_of {W : World} (h : laidMetH Tryz.prog laidL W) : PowB W.heap.size W := by
  rw [MakeChecks.laidMetH_plain _ _ _ (by kernel_rfl)] at h
  have h3 := laidMet.tail (laidMet.tail h)
  rw [pow_data] at h3
  exact Lib.tabBelow_of_tabIs (Lib.tabIs_of_head (g := 1) (t := 175) (e := 122) (n := 20) (by kernel_rfl) (by kernel_rfl) Tryz.underlying175 Tryz.underlying122 (by kernel_rfl) (by kernel_rfl) h3)
end Go.Proofs.YtbkfhndmeljlcaaGreatDoor
