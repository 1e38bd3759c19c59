/-
  PN: StMem, StLeave.
-/
import Derived.Test.YtbkfhndmeljlcaaGreatDoorZPN15
import Derived.Test.YtbkfhndmeljlcaaGreatDoorZPN16
namespace Go.Proofs.YtbkfhndmeljlcaaGreatDoor
open Go.RowKit
def bkC (x : BkV) : List Value := [.int .i32 x.sign, .int .i64 x.base, .int .i64 x.other, .bool x.left]
def bkCs : List BkV → List Value
  | [] => []
  | x :: l => bkC x ++ bkCs l
theorem bkCs_len : ∀ l, (bkCs l).length = l.length * 4
  | [] => rfl
  | x :: l => by rw [bkCs, List.length_append, bkCs_len l]; simp [bkC]; omega
theorem bkCs_app : ∀ l m, bkCs (l ++ m) = bkCs l ++ bkCs m
  | [], _ => rfl
  | x :: l, m => by rw [List.cons_append, bkCs, bkCs, bkCs_app l m, List.append_assoc]
theorem bkCs_one (x : BkV) : bkCs [x] = bkC x := by simp [bkCs]
theorem bkCs_get : ∀ (l : List BkV) (k : Nat) (x : BkV) (j : Nat), l[k]? = some x → j < 4 → (bkCs l)[k * 4 + j]? = (bkC x)[j]?
  | [], k, x, j, h, hj => by simp at h
  | y :: l, 0, x, j, h, hj => by
    simp at h; subst h
    rw [bkCs, List.getElem?_append_left (by simp [bkC]; omega)]
    congr 1; omega
  | y :: l, k + 1, x, j, h, hj => by
    simp at h
    rw [bkCs, List.getElem?_append_right (by simp [bkC]; omega)]
    rw [← bkCs_get l k x j h hj]
    congr 1; simp [bkC]; omega
theorem bkCs_set : ∀ (l : List BkV) (k : Nat) (x y : BkV) (j : Nat) (u : Value), l[k]? = some x → j < 4 → (bkC x).set j u = bkC y → (bkCs l).set (k * 4 + j) u = bkCs (l.set k y)
  | [], k, x, y, j, u, h, hj, hu => by simp at h
  | z :: l, 0, x, y, j, u, h, hj, hu => by
    simp at h; subst h
    rw [bkCs, List.set_append_left _ _ (by simp [bkC]; omega), List.set_cons_zero, bkCs, ← hu]
    congr 2; omega
  | z :: l, k + 1, x, y, j, u, h, hj, hu => by
    simp at h
    rw [bkCs, List.set_append_right _ _ (by simp [bkC]; omega), List.set_cons_succ, bkCs, ← bkCs_set l k x y j u h hj hu]
    congr 2; simp [bkC]; omega
/-- What going through has in memory: a height, the blocks, the outer ones first. -/
structure St (W : World) (gs B : Nat) (h : Int) (vo : Value) (bs : List BkV) : Prop where
  rec_ : Whole W gs 108 [.int .i64 h, vo]
  own : W.ownsRow B 137 4 vo bs.length (bkCs bs)
  lo : gs < B
  few : bs.length ≤ 1000
  hr : -1 ≤ h ∧ h ≤ 64
  wf : ∀ b ∈ bs, 0 ≤ b.base ∧ b.base ≤ 64 ∧ -1 ≤ b.other ∧ b.other ≤ 64
  room : B ≤ W.heap.size
/-- What such a step may write. -/
def stT (gs : Nat) (vo : Value) : List Nat := gs :: vo.ownBlock.toList
section
variable {W W' : World} {gs B : Nat} {h : Int} {vo : Value} {bs : List BkV}
theorem St.keep (s : St W gs B h vo bs) (hc : Chg [] W W') : St W' gs B h vo bs :=
  { s with rec_ := s.rec_.keep hc, own := rown_keep s.own hc, room := Nat.le_trans s.room hc.size }
theorem St.away (s : St W gs B h vo bs) : vo.ownBlock ≠ some gs := fun hc => by
  have := (s.own.lt gs hc).1; have := s.lo; omega
theorem St.high (s : St W gs B h vo bs) (h' : Int) (hr : -1 ≤ h' ∧ h' ≤ 64) : St (W.setCell ⟨gs, 0, none⟩ (.int .i64 h')) gs B h' vo bs :=
  { s with rec_ := s.rec_.set_ 0 (.int .i64 h'), own := rown_far s.own s.away, hr := hr, room := by rw [size_set]; exact s.room }
theorem St.slice (s : St W gs B h vo bs) : ∃ A c, vo = .slice A bs.length c ∧ bs.length ≤ c ∧ c ≤ 9223372036854775807 ∧ (∀ ad, A = some ad → ad.spot = none ∧ B ≤ ad.block ∧ ad.off = 0 ∧ ad.block < W.heap.size) := rown_slice s.own
/-- One cell of one block is written. -/
theorem St.poke {g c q i j : Nat} {x y : BkV} {u : Value} (s : St W gs B h vo bs) (hv : vo = .slice (some ⟨g, 0, none⟩) q c) (hx : bs[i]? = some x) (hj : j < 4) (hu : (bkC x).set j u = bkC y) (hy : 0 ≤ y.base ∧ y.base ≤ 64 ∧ -1 ≤ y.other ∧ y.other ≤ 64) :
    St (W.setCell ⟨g, i * 4 + j, none⟩ u) gs B h vo (bs.set i y) := by
  subst hv
  have hq : q = bs.length := by
    rcases s.own.2 with ⟨e, _⟩ | ⟨_, _, _, e, _⟩
    · cases e
    · injection e
  subst hq
  have hB := (s.own.lt g rfl).1
  have hlo := s.lo
  refine ⟨s.rec_.far (by simp only; omega) _, ?_, s.lo, by rw [List.length_set]; exact s.few, s.hr, fun b hb => ?_, by rw [size_set]; exact s.room⟩
  · have ho := rown_set (j := i * 4 + j) (u := u) s.own
    rw [bkCs_set bs i x y j u hx hj hu] at ho
    rw [List.length_set]
    exact ho
  · rcases List.mem_or_eq_of_mem_set hb with hb | rfl
    · exact s.wf b hb
    · exact hy
/-- The innermost block is taken away. -/
theorem St.drop {ys : List BkV} {x : BkV} {A : Option Addr} {c q : Nat} (s : St W gs B h vo (ys ++ [x])) (hv : vo = .slice A q c) :
    St (W.setCell ⟨gs, 1, none⟩ (.slice A ys.length c)) gs B h (.slice A ys.length c) ys := by
  subst hv
  have hq : q = (ys ++ [x]).length := by
    rcases s.own.2 with ⟨e, e2⟩ | ⟨_, _, _, e, _⟩
    · injection e with _ e _; rw [e2, e]
    · injection e
  subst hq
  have hA : A ≠ none := by
    rintro rfl
    rcases s.own.2 with ⟨e, _⟩ | ⟨_, _, _, e, _⟩
    · injection e with _ e _; simp at e
    · injection e with e _; cases e
  have ht := rown_take (q' := ys.length) s.own (by simp) hA
  have e2 : (bkCs (ys ++ [x])).take (ys.length * 4) = bkCs ys := by rw [bkCs_app, ← bkCs_len, List.take_left]
  rw [e2] at ht
  have haw : (Value.slice A ys.length c).ownBlock ≠ some gs := fun hc => by have := (ht.lt gs hc).1; have := s.lo; omega
  refine ⟨?_, rown_far ht haw, s.lo, by have := s.few; simp at this; omega, s.hr, fun b hb => s.wf b (List.mem_append_left _ hb), by rw [size_set]; exact s.room⟩
  have := s.rec_.set_ 1 (.slice A ys.length c)
  simpa using this
theorem St.cell (s : St W gs B h vo bs) {i : Nat} {x : BkV} (hx : bs[i]? = some x) : ∃ g c, vo = .slice (some ⟨g, 0, none⟩) bs.length c ∧ B ≤ g ∧ W.cell? ⟨g, i * 4, none⟩ = some (.int .i32 x.sign) ∧ W.cell? ⟨g, i * 4 + 1, none⟩ = some (.int .i64 x.base) ∧ W.cell? ⟨g, i * 4 + 2, none⟩ = some (.int .i64 x.other) ∧ W.cell? ⟨g, i * 4 + 3, none⟩ = some (.bool x.left) := by
  obtain ⟨A, c, rfl, _, _, hA⟩ := s.slice
  obtain ⟨g, rfl, j0⟩ := rown_cell s.own rfl ((bkCs_get bs i x 0 hx (by omega)).trans rfl)
  obtain ⟨g', e, j1⟩ := rown_cell s.own rfl ((bkCs_get bs i x 1 hx (by omega)).trans rfl)
  injection e with e; injection e with e; subst e
  obtain ⟨g', e, j2⟩ := rown_cell s.own rfl ((bkCs_get bs i x 2 hx (by omega)).trans rfl)
  injection e with e; injection e with e; subst e
  obtain ⟨g', e, j3⟩ := rown_cell s.own rfl ((bkCs_get bs i x 3 hx (by omega)).trans rfl)
  injection e with e; injection e with e; subst e
  exact ⟨g, c, rfl, (hA _ rfl).2.1, j0, j1, j2, j3⟩
def BasePost (b : Int) (W : World) (e : Ending) (w' : World) : Prop := e = .returned (.int .i64 b) ∧ Chg [] W w'
theorem base_in (s : St W gs B h vo bs) : 0 ≤ baseOf bs ∧ baseOf bs ≤ 64 := by
  unfold baseOf
  split
  · omega
  · rename_i b hb
    have := s.wf b (List.mem_of_getLast? hb)
    exact ⟨this.1, this.2.1⟩
set_option maxHeartbeats 1000000 in
set_option maxRecDepth 100000 in
theorem base_any (s : St W gs B h vo bs) : Calls Tryz.prog 99 #[.pointer (some ⟨gs, 0, none⟩)] W (BasePost (baseOf bs) W) := by
  obtain ⟨b0, hb0⟩ : ∃ b, b = baseOf bs := ⟨_, rfl⟩
  rw [← hb0]
  rcases List.eq_nil_or_concat bs with rfl | ⟨ys, x, rfl⟩
  · obtain ⟨A, c, rfl, _, _, _⟩ := s.slice
    have c1 := s.rec_.cell 1
    simp only [List.length_nil] at c1
    have HC := Lib.hid (show BasePost b0 W (.returned (.int .i64 0)) W from ⟨by rw [hb0]; rfl, Chg.refl [] W⟩)
    clear s hb0
    go_enter Tryz.func99, Tryz.ntmps99
    go_wp2_with fail
    go_ret
    exact HC.out
  · rw [List.concat_eq_append] at s
    obtain ⟨g, c, hvo, hg, j0, j1, j2, j3⟩ := s.cell (i := ys.length) (x := x) (by simp)
    have hl : (ys ++ [x]).length = ys.length + 1 := by simp
    have c1 := s.rec_.cell 1
    rw [hvo, hl] at c1
    have hf := s.few
    rw [hl] at hf
    have HB := Lib.hid (show b0 = x.base by rw [hb0]; simp [baseOf])
    clear hvo s hl j0 j2 j3 hb0
    generalize ys.length = q at *
    have hsub : IntKind.i64.wrap (((q + 1 : Nat) : Int) - 1) = (q : Int) := by rw [IntWalk.i64_in _ (by omega)]; omega
    have hne : (((q + 1 : Nat) : Int) == 0) = false := by simp; omega
    have hq0 : (0 : Int) ≤ (q : Int) := by omega
    have hq1 : (q : Int) < ((q + 1 : Nat) : Int) := by omega
    go_enter Tryz.func99, Tryz.ntmps99
    go_wp2_with fail
    go_quiet (fail)
    have HP := Lib.hid (show BasePost b0 W (.returned (.int .i64 x.base)) (W.drewN nq) from ⟨by rw [HB.out], (Chg.refl [] W).drewN nq⟩)
    go_wp2_with fail
    go_ret
    exact HP.out
end
end Go.Proofs.YtbkfhndmeljlcaaGreatDoor
namespace Go.Proofs.YtbkfhndmeljlcaaGreatDoor
open Go.RowKit
section
variable {W W' : World} {gs B : Nat} {h : Int} {vo : Value} {bs : List BkV}
/-- Yes or no, and what lies there then. -/
def StPost (gs B : Nat) (vo : Value) (R : Bool × Int × List BkV) (W : World) (e : Ending) (w' : World) : Prop :=
  ∃ vo', e = .returned (.bool R.1) ∧ St w' gs B R.2.1 vo' R.2.2 ∧ Chg (stT gs vo) W w' ∧ (vo'.ownBlock = vo.ownBlock ∨ ∃ g, vo'.ownBlock = some g ∧ W.heap.size ≤ g)
theorem st_ok {w' : World} {R : Bool × Int × List BkV} (b : Bool) (h' : Int) (vo' : Value) (bs' : List BkV) (hR : R = (b, h', bs')) (hS : St w' gs B h' vo' bs') (hC : Chg (stT gs vo) W w') (hO : vo'.ownBlock = vo.ownBlock ∨ ∃ g, vo'.ownBlock = some g ∧ W.heap.size ≤ g) : StPost gs B vo R W (.returned (.bool b)) w' := by subst hR; exact ⟨vo', rfl, hS, hC, hO⟩
theorem st_in (gs : Nat) (vo : Value) : gs ∈ stT gs vo := List.mem_cons_self ..
theorem st_in2 (gs g c q : Nat) : g ∈ stT gs (.slice (some ⟨g, 0, none⟩) q c) := by simp [stT, Value.ownBlock]
set_option maxHeartbeats 2000000 in
set_option maxRecDepth 100000 in
theorem leave_any (s : St W gs B h vo bs) : Calls Tryz.prog 100 #[.pointer (some ⟨gs, 0, none⟩)] W (StPost gs B vo (rLeave h bs bs.length) W) := by
  obtain ⟨A, c, hvo, _, _, _⟩ := s.slice
  have S := Lib.hid s
  have hf := s.few
  have c0 := s.rec_.cell 0
  have c1 := s.rec_.cell 1
  rw [hvo] at c1
  have HV := Lib.hid hvo
  obtain ⟨m, hm⟩ : ∃ m, m = bs.length := ⟨_, rfl⟩
  obtain ⟨R, hR⟩ : ∃ R, R = rLeave h bs bs.length := ⟨_, rfl⟩
  rw [← hR]
  rw [← hm] at c1 hf hR
  have HM := Lib.hid hm
  have HR0 := Lib.hid hR
  clear hR
  obtain ⟨i0, hsub, hi0, hi1⟩ : ∃ i0 : Int, IntKind.i64.wrap ((m : Int) - 1) = i0 ∧ -1 ≤ i0 ∧ i0 < (m : Int) := ⟨(m : Int) - 1, IntWalk.i64_in _ (by omega), by omega, by omega⟩
  have HI0 := Lib.hid (show R = rLeave h bs (i0 + 1).toNat from by rw [HR0.out]; congr 1; have : IntKind.i64.wrap ((m : Int) - 1) = (m : Int) - 1 := IntWalk.i64_in _ (by omega); omega)
  clear s hvo hm
  go_enter Tryz.func100, Tryz.ntmps100
  go_wp2_with fail
  go_loopw [3] (fun i wr => ∃ k : Int, i = .int .i64 k ∧ -1 ≤ k ∧ k < (m : Int) ∧ Hid (R = rLeave h bs (k + 1).toNat) ∧ wr = W) (fun i _ => ((intOf i) + 1).toNat)
  case atStart => exact ⟨i0, rfl, hi0, hi1, HI0, rfl⟩
  case round =>
    obtain ⟨k, rfl, hk0, hk1, HRK, hwr⟩ := hrel
    subst hwr
    by_cases hk : 0 ≤ k
    · obtain ⟨q, rfl⟩ : ∃ q : Nat, k = (q : Int) := ⟨k.toNat, by omega⟩
      have hqm : q < m := by omega
      obtain ⟨x, hx⟩ : ∃ x, bs[q]? = some x := ⟨bs[q]'(by rw [← HM.out]; exact hqm), by simp⟩
      have HRQ := Lib.hid (show R = if x.sign = 91 then (h == x.base, -1, bs.set q ⟨x.sign, x.base, x.other, true⟩) else rLeave h bs q from by rw [HRK.out, show ((q : Int) + 1).toNat = q + 1 from by omega, rLeave, hx])
      obtain ⟨g, c', hvo, hg, j0, j1, j2, j3⟩ := S.out.cell hx
      have hvo2 := HV.out
      rw [hvo] at hvo2
      injection hvo2 with e1 e2 e3
      subst e1; subst e3
      clear hvo e2 j1 j2
      by_cases h91 : x.sign = 91
      · have q1 : (x.sign == 91) = true := by simpa using h91
        have f3 : wr.frozen? ⟨g, q * 4 + 3, none⟩ = false := rown_frozen (by have := S.out.own; rw [HV.out] at this; rw [← HM.out] at this; exact this)
        have HRE := Lib.hid (show R = (h == x.base, -1, bs.set q ⟨x.sign, x.base, x.other, true⟩) from by rw [HRQ.out, if_pos h91])
        clear h91
        go_upto_region 6 with fail
        have S5 := Lib.hid (S.out.poke (i := q) (j := 3) (x := x) (y := ⟨x.sign, x.base, x.other, true⟩) (u := .bool true) HV.out hx (by omega) rfl (S.out.wf x (List.mem_of_getElem? hx)))
        have hx5 : (bs.set q ⟨x.sign, x.base, x.other, true⟩)[q]? = some ⟨x.sign, x.base, x.other, true⟩ := by
          rw [List.getElem?_set_self (by rw [← HM.out]; exact hqm)]
        have HM5 := Lib.hid (show (bs.set q ⟨x.sign, x.base, x.other, true⟩).length = m by rw [List.length_set]; exact HM.out.symm)
        have HC5 := Lib.hid (show Chg (stT gs vo) wr (wr.setCell ⟨g, q * 4 + 3, none⟩ (.bool true)) from ((Chg.refl [] wr).sub (by simp)).setCell (fun _ => by rw [HV.out]; exact st_in2 gs g _ _) _)
        clear hx j0 j3 c0 c1 f3
        generalize bs.set q ⟨x.sign, x.base, x.other, true⟩ = bs5 at S5 hx5 HM5 HRE
        generalize wr.setCell ⟨g, q * 4 + 3, none⟩ (.bool true) = w5 at S5 HC5 ⊢
        have c0 := S5.out.rec_.cell 0
        have c1 := S5.out.rec_.cell 1
        rw [HV.out, ← HM.out] at c1
        have f0 := S5.out.rec_.frozen 0
        obtain ⟨g', c', hvo, hg, j0, j1, j2, j3⟩ := S5.out.cell hx5
        have hvo2 := HV.out
        rw [hvo] at hvo2
        injection hvo2 with e1 e2 e3
        injection e1 with e1; injection e1 with e1
        subst e1; subst e3
        clear hvo e2 hx5 j0 j2 j3
        go_quiet (fail)
        have S6 := Lib.hid (S5.out.keep ((Chg.refl [] w5).drewN nq))
        have HC6 := Lib.hid (HC5.out.drewN nq)
        have S7 := Lib.hid (S6.out.high (-1) (by omega))
        have HC7 := Lib.hid (HC6.out.setCell (p := ⟨gs, 0, none⟩) (fun _ => st_in gs vo) (.int .i64 (-1)))
        clear c0 c1 f0 j1
        have c0 := S6.out.rec_.cell 0
        have f0 := S6.out.rec_.frozen 0
        have HP := Lib.hid (show StPost gs B vo R wr (.returned (.bool (h == x.base))) ((w5.drewN nq).setCell ⟨gs, 0, none⟩ (.int .i64 (-1))) from st_ok _ _ vo bs5 HRE.out S7.out HC7.out (.inl rfl))
        go_wp2_with fail
        go_ret
        exact HP.out
      · have q1 : (x.sign == 91) = false := by simpa using h91
        have HRE := Lib.hid (show R = rLeave h bs ((q : Int) - 1 + 1).toNat from by rw [HRQ.out, if_neg h91]; congr 1; omega)
        clear h91
        go_wp2_with fail
        go_roundw
        case rel => exact ⟨(q : Int) - 1, by go_num, by omega, by omega, HRE, by first | rfl | trivial⟩
        case measure => simp [intOf]
    · obtain rfl : k = -1 := by omega
      have HP := Lib.hid (show StPost gs B vo R wr (.returned (.bool false)) wr from st_ok false h vo bs (HRK.out.trans rfl) S.out ((Chg.refl [] wr).sub (by simp)) (.inl rfl))
      go_wp2_with fail
      go_ret
      exact HP.out
end
end Go.Proofs.YtbkfhndmeljlcaaGreatDoor
