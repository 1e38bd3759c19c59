/-
  PB: StMem, WkMem, StLeave.
-/
import Derived.Test.YtbkfhndmeljlcaaGreatDoorZPB12
import Derived.Test.YtbkfhndmeljlcaaGreatDoorZPB18
import Derived.Test.YtbkfhndmeljlcaaGreatDoorZPB19
import Derived.StillTailTactics
namespace Go.Proofs.YtbkfhndmeljlcaaGreatDoor
open Go.RowKit
def bkC (x : BkV) : List Value := [.int .i32 x.sign, .int .i64 x.base, .int .i64 x.other, .bool x.left]
def bkCs : List BkV → List Value
  | [] => []
  | x :: l => bkC x ++ bkCs l
theorem bkCs_len : ∀ l, (bkCs l).length = l.length * 4
  | [] => rfl
  | x :: l => by rw [bkCs, List.length_append, bkCs_len l]; simp [bkC]; omega
theorem bkCs_app : ∀ l m, bkCs (l ++ m) = bkCs l ++ bkCs m
  | [], _ => rfl
  | x :: l, m => by rw [List.cons_append, bkCs, bkCs, bkCs_app l m, List.append_assoc]
theorem bkCs_one (x : BkV) : bkCs [x] = bkC x := by simp [bkCs]
theorem bkCs_get : ∀ (l : List BkV) (k : Nat) (x : BkV) (j : Nat), l[k]? = some x → j < 4 → (bkCs l)[k * 4 + j]? = (bkC x)[j]?
  | [], k, x, j, h, hj => by simp at h
  | y :: l, 0, x, j, h, hj => by
    simp at h; subst h
    rw [bkCs, List.getElem?_append_left (by simp [bkC]; omega)]
    congr 1; omega
  | y :: l, k + 1, x, j, h, hj => by
    simp at h
    rw [bkCs, List.getElem?_append_right (by simp [bkC]; omega)]
    rw [← bkCs_get l k x j h hj]
    congr 1; simp [bkC]; omega
theorem bkCs_set : ∀ (l : List BkV) (k : Nat) (x y : BkV) (j : Nat) (u : Value), l[k]? = some x → j < 4 → (bkC x).set j u = bkC y → (bkCs l).set (k * 4 + j) u = bkCs (l.set k y)
  | [], k, x, y, j, u, h, hj, hu => by simp at h
  | z :: l, 0, x, y, j, u, h, hj, hu => by
    simp at h; subst h
    rw [bkCs, List.set_append_left _ _ (by simp [bkC]; omega), List.set_cons_zero, bkCs, ← hu]
    congr 2; omega
  | z :: l, k + 1, x, y, j, u, h, hj, hu => by
    simp at h
    rw [bkCs, List.set_append_right _ _ (by simp [bkC]; omega), List.set_cons_succ, bkCs, ← bkCs_set l k x y j u h hj hu]
    congr 2; simp [bkC]; omega
/-- What going through has in memory: a height, the blocks, the outer ones first. -/
structure St (W : World) (gs B : Nat) (h : Int) (vo : Value) (bs : List BkV) : Prop where
  rec_ : Whole W gs 108 [.int .i64 h, vo]
  own : W.ownsRow B 137 4 vo bs.length (bkCs bs)
  lo : gs < B
  few : bs.length ≤ 1000
  hr : -1 ≤ h ∧ h ≤ 64
  wf : ∀ b ∈ bs, 0 ≤ b.base ∧ b.base ≤ 64 ∧ -1 ≤ b.other ∧ b.other ≤ 64
  room : B ≤ W.heap.size
/-- What such a step may write. -/
def stT (gs : Nat) (vo : Value) : List Nat := gs :: vo.ownBlock.toList
section
variable {W W' : World} {gs B : Nat} {h : Int} {vo : Value} {bs : List BkV}
theorem St.keep (s : St W gs B h vo bs) (hc : Chg [] W W') : St W' gs B h vo bs :=
  { s with rec_ := s.rec_.keep hc, own := rown_keep s.own hc, room := Nat.le_trans s.room hc.size }
theorem St.away (s : St W gs B h vo bs) : vo.ownBlock ≠ some gs := fun hc => by
  have := (s.own.lt gs hc).1; have := s.lo; omega
theorem St.high (s : St W gs B h vo bs) (h' : Int) (hr : -1 ≤ h' ∧ h' ≤ 64) : St (W.setCell ⟨gs, 0, none⟩ (.int .i64 h')) gs B h' vo bs :=
  { s with rec_ := s.rec_.set_ 0 (.int .i64 h'), own := rown_far s.own s.away, hr := hr, room := by rw [size_set]; exact s.room }
theorem St.slice (s : St W gs B h vo bs) : ∃ A c, vo = .slice A bs.length c ∧ bs.length ≤ c ∧ c ≤ 9223372036854775807 ∧ (∀ ad, A = some ad → ad.spot = none ∧ B ≤ ad.block ∧ ad.off = 0 ∧ ad.block < W.heap.size) := rown_slice s.own
/-- One cell of one block is written. -/
theorem St.poke {g c q i j : Nat} {x y : BkV} {u : Value} (s : St W gs B h vo bs) (hv : vo = .slice (some ⟨g, 0, none⟩) q c) (hx : bs[i]? = some x) (hj : j < 4) (hu : (bkC x).set j u = bkC y) (hy : 0 ≤ y.base ∧ y.base ≤ 64 ∧ -1 ≤ y.other ∧ y.other ≤ 64) :
    St (W.setCell ⟨g, i * 4 + j, none⟩ u) gs B h vo (bs.set i y) := by
  subst hv
  have hq : q = bs.length := by
    rcases s.own.2 with ⟨e, _⟩ | ⟨_, _, _, e, _⟩
    · cases e
    · injection e
  subst hq
  have hB := (s.own.lt g rfl).1
  have hlo := s.lo
  refine ⟨s.rec_.far (by simp only; omega) _, ?_, s.lo, by rw [List.length_set]; exact s.few, s.hr, fun b hb => ?_, by rw [size_set]; exact s.room⟩
  · have ho := rown_set (j := i * 4 + j) (u := u) s.own
    rw [bkCs_set bs i x y j u hx hj hu] at ho
    rw [List.length_set]
    exact ho
  · rcases List.mem_or_eq_of_mem_set hb with hb | rfl
    · exact s.wf b hb
    · exact hy
/-- The innermost block is taken away. -/
theorem St.drop {ys : List BkV} {x : BkV} {A : Option Addr} {c q : Nat} (s : St W gs B h vo (ys ++ [x])) (hv : vo = .slice A q c) :
    St (W.setCell ⟨gs, 1, none⟩ (.slice A ys.length c)) gs B h (.slice A ys.length c) ys := by
  subst hv
  have hq : q = (ys ++ [x]).length := by
    rcases s.own.2 with ⟨e, e2⟩ | ⟨_, _, _, e, _⟩
    · injection e with _ e _; rw [e2, e]
    · injection e
  subst hq
  have hA : A ≠ none := by
    rintro rfl
    rcases s.own.2 with ⟨e, _⟩ | ⟨_, _, _, e, _⟩
    · injection e with _ e _; simp at e
    · injection e with e _; cases e
  have ht := rown_take (q' := ys.length) s.own (by simp) hA
  have e2 : (bkCs (ys ++ [x])).take (ys.length * 4) = bkCs ys := by rw [bkCs_app, ← bkCs_len, List.take_left]
  rw [e2] at ht
  have haw : (Value.slice A ys.length c).ownBlock ≠ some gs := fun hc => by have := (ht.lt gs hc).1; have := s.lo; omega
  refine ⟨?_, rown_far ht haw, s.lo, by have := s.few; simp at this; omega, s.hr, fun b hb => s.wf b (List.mem_append_left _ hb), by rw [size_set]; exact s.room⟩
  have := s.rec_.set_ 1 (.slice A ys.length c)
  simpa using this
theorem St.cell (s : St W gs B h vo bs) {i : Nat} {x : BkV} (hx : bs[i]? = some x) : ∃ g c, vo = .slice (some ⟨g, 0, none⟩) bs.length c ∧ B ≤ g ∧ W.cell? ⟨g, i * 4, none⟩ = some (.int .i32 x.sign) ∧ W.cell? ⟨g, i * 4 + 1, none⟩ = some (.int .i64 x.base) ∧ W.cell? ⟨g, i * 4 + 2, none⟩ = some (.int .i64 x.other) ∧ W.cell? ⟨g, i * 4 + 3, none⟩ = some (.bool x.left) := by
  obtain ⟨A, c, rfl, _, _, hA⟩ := s.slice
  obtain ⟨g, rfl, j0⟩ := rown_cell s.own rfl ((bkCs_get bs i x 0 hx (by omega)).trans rfl)
  obtain ⟨g', e, j1⟩ := rown_cell s.own rfl ((bkCs_get bs i x 1 hx (by omega)).trans rfl)
  injection e with e; injection e with e; subst e
  obtain ⟨g', e, j2⟩ := rown_cell s.own rfl ((bkCs_get bs i x 2 hx (by omega)).trans rfl)
  injection e with e; injection e with e; subst e
  obtain ⟨g', e, j3⟩ := rown_cell s.own rfl ((bkCs_get bs i x 3 hx (by omega)).trans rfl)
  injection e with e; injection e with e; subst e
  exact ⟨g, c, rfl, (hA _ rfl).2.1, j0, j1, j2, j3⟩
def BasePost (b : Int) (W : World) (e : Ending) (w' : World) : Prop := e = .returned (.int .i64 b) ∧ Chg [] W w'
theorem base_in (s : St W gs B h vo bs) : 0 ≤ baseOf bs ∧ baseOf bs ≤ 64 := by
  unfold baseOf
  split
  · omega
  · rename_i b hb
    have := s.wf b (List.mem_of_getLast? hb)
    exact ⟨this.1, this.2.1⟩
set_option maxHeartbeats 1000000 in
set_option maxRecDepth 100000 in
theorem base_any (s : St W gs B h vo bs) : Calls Tryz.prog 99 #[.pointer (some ⟨gs, 0, none⟩)] W (BasePost (baseOf bs) W) := by
  obtain ⟨b0, hb0⟩ : ∃ b, b = baseOf bs := ⟨_, rfl⟩
  rw [← hb0]
  rcases List.eq_nil_or_concat bs with rfl | ⟨ys, x, rfl⟩
  · obtain ⟨A, c, rfl, _, _, _⟩ := s.slice
    have c1 := s.rec_.cell 1
    simp only [List.length_nil] at c1
    have HC := Lib.hid (show BasePost b0 W (.returned (.int .i64 0)) W from ⟨by rw [hb0]; rfl, Chg.refl [] W⟩)
    clear s hb0
    go_enter Tryz.func99, Tryz.ntmps99
    go_wp2_with fail
    go_ret
    exact HC.out
  · rw [List.concat_eq_append] at s
    obtain ⟨g, c, hvo, hg, j0, j1, j2, j3⟩ := s.cell (i := ys.length) (x := x) (by simp)
    have hl : (ys ++ [x]).length = ys.length + 1 := by simp
    have c1 := s.rec_.cell 1
    rw [hvo, hl] at c1
    have hf := s.few
    rw [hl] at hf
    have HB := Lib.hid (show b0 = x.base by rw [hb0]; simp [baseOf])
    clear hvo s hl j0 j2 j3 hb0
    generalize ys.length = q at *
    have hsub : IntKind.i64.wrap (((q + 1 : Nat) : Int) - 1) = (q : Int) := by rw [IntWalk.i64_in _ (by omega)]; omega
    have hne : (((q + 1 : Nat) : Int) == 0) = false := by simp; omega
    have hq0 : (0 : Int) ≤ (q : Int) := by omega
    have hq1 : (q : Int) < ((q + 1 : Nat) : Int) := by omega
    go_enter Tryz.func99, Tryz.ntmps99
    go_wp2_with fail
    go_quiet (fail)
    have HP := Lib.hid (show BasePost b0 W (.returned (.int .i64 x.base)) (W.drewN nq) from ⟨by rw [HB.out], (Chg.refl [] W).drewN nq⟩)
    go_wp2_with fail
    go_ret
    exact HP.out
end
end Go.Proofs.YtbkfhndmeljlcaaGreatDoor
namespace Go.Proofs.YtbkfhndmeljlcaaGreatDoor
open Go.RowKit
def ptC (x : BkV) : List Value := [.bool (x.sign == 91), .int .i64 x.base, .bool (x.sign == 58), .int .i64 x.other, .bool x.left]
def ptCs : List BkV → List Value
  | [] => []
  | x :: l => ptC x ++ ptCs l
theorem ptCs_len : ∀ l, (ptCs l).length = l.length * 5
  | [] => rfl
  | t :: l => by rw [ptCs, List.length_append, ptCs_len l]; simp [ptC]; omega
theorem ptCs_app : ∀ l m, ptCs (l ++ m) = ptCs l ++ ptCs m
  | [], m => rfl
  | t :: l, m => by rw [List.cons_append, ptCs, ptCs, ptCs_app l m, List.append_assoc]
theorem ptCs_one (x : BkV) : ptCs [x] = ptC x := by simp [ptCs]
theorem ptCs_get : ∀ (l : List BkV) (k : Nat) (t : BkV) (j : Nat), l[k]? = some t → j < 5 → (ptCs l)[k * 5 + j]? = (ptC t)[j]?
  | [], k, t, j, h, hj => by simp at h
  | u :: l, 0, t, j, h, hj => by
    simp at h; subst h
    rw [ptCs, List.getElem?_append_left (by simp [ptC]; omega)]
    congr 1; omega
  | u :: l, k + 1, t, j, h, hj => by
    simp at h
    rw [ptCs, List.getElem?_append_right (by simp [ptC]; omega)]
    rw [← ptCs_get l k t j h hj]
    congr 1; simp [ptC]; omega
theorem ptCs_set : ∀ (l : List BkV) (k : Nat) (x y : BkV) (j : Nat) (u : Value), l[k]? = some x → j < 5 → (ptC x).set j u = ptC y → (ptCs l).set (k * 5 + j) u = ptCs (l.set k y)
  | [], k, x, y, j, u, h, hj, hu => by simp at h
  | z :: l, 0, x, y, j, u, h, hj, hu => by
    simp at h; subst h
    rw [ptCs, List.set_append_left _ _ (by simp [ptC]; omega), Nat.zero_mul, Nat.zero_add, hu]
    rfl
  | z :: l, k + 1, x, y, j, u, h, hj, hu => by
    simp at h
    rw [ptCs, List.set_append_right _ _ (by simp [ptC]; omega)]
    rw [show (k + 1) * 5 + j - (ptC z).length = k * 5 + j from by simp [ptC]; omega, ptCs_set l k x y j u h hj hu]
    rfl
theorem info_cpart : (Tryz.prog.info? 171).map (fun i => (i.zero, i.size, i.bytes)) = some (some (.agg #[.bool false, .int .i64 0, .bool false, .int .i64 0, .bool false]), 5, 40) := by kernel_rfl
abbrev wkT : List TypeId := [171, 145]
structure Wk (W : World) (g : Nat) (h : Int) (v : Value) (bs : List BkV) : Prop where
  rec_ : Whole W g 145 [.int .i64 h, v]
  own : W.ownsRow (g + 1) 171 5 v bs.length (ptCs bs)
  few : bs.length ≤ 100
  hr : -1 ≤ h ∧ h ≤ 64
  rb : ∀ x ∈ bs, 0 ≤ x.base ∧ x.base ≤ 64 ∧ -1 ≤ x.other ∧ x.other ≤ 64
def WPost (W : World) (g : Nat) (R : Int × Int × List BkV) (e : Ending) (w' : World) : Prop :=
  Fr g wkT W w' ∧ e = .returned (.int .i64 R.1) ∧ (R.1 = 0 → ∃ v', Wk w' g R.2.1 v' R.2.2)
section
variable {W W' : World} {g : Nat} {h : Int} {v : Value} {bs ys : List BkV} {x : BkV}
theorem Wk.keep (s : Wk W g h v bs) (hc : Chg [] W W') : Wk W' g h v bs := ⟨s.rec_.keep hc, rown_keep s.own hc, s.few, s.hr, s.rb⟩
theorem Wk.away (s : Wk W g h v bs) : v.ownBlock ≠ some g := fun e => by have := (s.own.lt g e).1; omega
theorem Wk.slice (s : Wk W g h v bs) : ∃ A n c, v = .slice A n c ∧ n = bs.length ∧ n ≤ c := by
  obtain ⟨A, c, e, hc, _⟩ := rown_slice s.own
  exact ⟨A, _, c, e, rfl, hc⟩
theorem Wk.high (s : Wk W g h v bs) (h' : Int) (hr : -1 ≤ h' ∧ h' ≤ 64) : Wk (W.setCell ⟨g, 0, none⟩ (.int .i64 h')) g h' v bs ∧ Fr g wkT W (W.setCell ⟨g, 0, none⟩ (.int .i64 h')) :=
  ⟨⟨s.rec_.set_ 0 _, rown_far s.own (fun e => s.away e), s.few, hr, s.rb⟩, (Fr.refl g wkT W).setw s.rec_ (Nat.le_refl _) (by simp [wkT]) _⟩
theorem Wk.last (s : Wk W g h v (ys ++ [x])) : ∃ gr c, v = .slice (some ⟨gr, 0, none⟩) (ys.length + 1) c ∧ ys.length + 1 ≤ c ∧ g + 1 ≤ gr ∧ W.cell? ⟨gr, ys.length * 5, none⟩ = some (.bool (x.sign == 91)) ∧ W.cell? ⟨gr, ys.length * 5 + 1, none⟩ = some (.int .i64 x.base) ∧
    W.cell? ⟨gr, ys.length * 5 + 2, none⟩ = some (.bool (x.sign == 58)) ∧ W.cell? ⟨gr, ys.length * 5 + 3, none⟩ = some (.int .i64 x.other) ∧ W.cell? ⟨gr, ys.length * 5 + 4, none⟩ = some (.bool x.left) := by
  have hl : (ys ++ [x]).length = ys.length + 1 := by simp
  obtain ⟨A, n, c, rfl, hn, hc⟩ := s.slice
  rw [hl] at hn
  subst hn
  have hx : (ys ++ [x])[ys.length]? = some x := by simp
  have k : ∀ j u, j < 5 → (ptC x)[j]? = some u → ∃ gr, A = some ⟨gr, 0, none⟩ ∧ W.cell? ⟨gr, ys.length * 5 + j, none⟩ = some u := fun j u hj hu => rown_cell s.own (by rw [hl]) ((ptCs_get _ _ _ j hx hj).trans hu)
  obtain ⟨gr, rfl, c0⟩ := k 0 _ (by omega) rfl
  obtain ⟨_, e, c1⟩ := k 1 _ (by omega) rfl
  injection e with e; injection e with e; subst e
  obtain ⟨_, e, c2⟩ := k 2 _ (by omega) rfl
  injection e with e; injection e with e; subst e
  obtain ⟨_, e, c3⟩ := k 3 _ (by omega) rfl
  injection e with e; injection e with e; subst e
  obtain ⟨_, e, c4⟩ := k 4 _ (by omega) rfl
  injection e with e; injection e with e; subst e
  exact ⟨gr, c, rfl, hc, (s.own.lt gr rfl).1, c0, c1, c2, c3, c4⟩
/-- The last part is taken away. -/
theorem Wk.pop {gr c : Nat} (s : Wk W g h (.slice (some ⟨gr, 0, none⟩) (ys.length + 1) c) (ys ++ [x])) {W1 : World} (hc : Chg [] W W1) :
    Wk (W1.setCell ⟨g, 1, none⟩ (.slice (some ⟨gr, 0, none⟩) ys.length c)) g h (.slice (some ⟨gr, 0, none⟩) ys.length c) ys ∧ Fr g wkT W (W1.setCell ⟨g, 1, none⟩ (.slice (some ⟨gr, 0, none⟩) ys.length c)) := by
  have s1 := s.keep hc
  have hl : (ys ++ [x]).length = ys.length + 1 := by simp
  have ho := s1.own
  rw [hl] at ho
  have h2 := rown_take (q' := ys.length) ho (by omega) (by simp)
  rw [ptCs_app, List.take_left' (by rw [ptCs_len])] at h2
  refine ⟨⟨s1.rec_.set_ 1 _, rown_far h2 (fun e => by have := (h2.lt g e).1; omega), by have := s.few; omega, s.hr, fun y hy => s.rb y (by simp [hy])⟩, (Fr.of_chg hc).setw s1.rec_ (Nat.le_refl _) (by simp [wkT]) _⟩
/-- A part more. -/
theorem Wk.push {W2 w3 : World} {v' : Value} {n1 : Nat} (s : Wk W g h v bs) (hc : Chg [] W W2) (hn1 : n1 = bs.length + 1) (ho : w3.ownsRow (g + 1) 171 5 v' n1 (ptCs bs ++ ptC x)) (hg : W2.grownBy w3 v.ownBlock) (hf : bs.length ≤ 99) (hx : 0 ≤ x.base ∧ x.base ≤ 64 ∧ -1 ≤ x.other ∧ x.other ≤ 64) :
    Wk (w3.setCell ⟨g, 1, none⟩ v') g h v' (bs ++ [x]) ∧ Fr g wkT W (w3.setCell ⟨g, 1, none⟩ v') := by
  subst hn1
  have s2 := s.keep hc
  have hr3 := whole_grown s2.rec_ s2.own (by decide) hg
  refine ⟨⟨hr3.set_ 1 _, ?_, by simp; omega, s.hr, fun y hy => ?_⟩, ((Fr.of_chg hc).grown s2.own (Nat.le_succ g) (by simp [wkT]) hg).setw hr3 (Nat.le_refl _) (by simp [wkT]) _⟩
  · rw [ptCs_app, ptCs_one, List.length_append, List.length_singleton]
    exact rown_far ho (fun e => by have := (ho.lt g e).1; omega)
  · rcases List.mem_append.1 hy with hy | hy
    · exact s.rb y hy
    · rw [List.mem_singleton] at hy; subst hy; exact hx
/-- A loop is left. -/
theorem Wk.mark {gr c n k : Nat} {y : BkV} (s : Wk W g h (.slice (some ⟨gr, 0, none⟩) n c) bs) (hn : n = bs.length) (hk : bs[k]? = some y) : Wk (W.setCell ⟨gr, k * 5 + 4, none⟩ (.bool true)) g h (.slice (some ⟨gr, 0, none⟩) n c) (bs.set k ⟨y.sign, y.base, y.other, true⟩) ∧ Fr g wkT W (W.setCell ⟨gr, k * 5 + 4, none⟩ (.bool true)) := by
  subst hn
  have hgr := (s.own.lt gr rfl).1
  refine ⟨⟨s.rec_.far (by simp only; omega) _, ?_, by simpa using s.few, s.hr, fun z hz => ?_⟩, (Fr.refl g wkT W).seto s.own (Nat.le_succ g) (by simp [wkT]) _⟩
  · have := rown_set (j := k * 5 + 4) (u := .bool true) s.own
    rw [ptCs_set bs k y ⟨y.sign, y.base, y.other, true⟩ 4 _ hk (by omega) rfl] at this
    rw [List.length_set]
    exact this
  · rcases List.mem_or_eq_of_mem_set hz with hz | rfl
    · exact s.rb z hz
    · exact s.rb y (List.mem_of_getElem? hk)
end
section
variable {W : World} {g : Nat} {h : Int} {v : Value} {bs ys : List BkV} {x : BkV}
set_option maxHeartbeats 4000000 in
set_option maxRecDepth 100000 in
theorem wbase_any (s : Wk W g h v bs) : Calls Tryz.prog 121 #[.pointer (some ⟨g, 0, none⟩)] W (BasePost (baseOf bs) W) := by
  obtain ⟨b0, hb0⟩ : ∃ b, b = baseOf bs := ⟨_, rfl⟩
  rw [← hb0]
  rcases List.eq_nil_or_concat bs with rfl | ⟨ys, x, rfl⟩
  · obtain ⟨A, n, c, rfl, hn, _⟩ := s.slice
    have hn0 : n = 0 := hn
    subst hn0
    have c1 := s.rec_.cell 1
    have HC := Lib.hid (show BasePost b0 W (.returned (.int .i64 0)) W from ⟨by rw [hb0]; rfl, Chg.refl [] W⟩)
    clear s hb0 hn
    go_enter Tryz.func121, Tryz.ntmps121
    go_wp2_with fail
    go_ret
    exact HC.out
  · rw [List.concat_eq_append] at s
    obtain ⟨gr, c, rfl, hc, hgr, j0, j1, j2, j3, j4⟩ := s.last
    have c1 := s.rec_.cell 1
    have hf := s.few
    rw [List.length_append, List.length_singleton] at hf
    have HB := Lib.hid (show b0 = x.base by rw [hb0]; simp [baseOf])
    clear s j0 j2 j3 j4 hb0
    generalize ys.length = q at *
    have hsub : IntKind.i64.wrap (((q + 1 : Nat) : Int) - 1) = (q : Int) := by rw [IntWalk.i64_in _ (by omega)]; omega
    have hne : (((q + 1 : Nat) : Int) == 0) = false := by simp; omega
    have hq0 : (0 : Int) ≤ (q : Int) := by omega
    have hq1 : (q : Int) < ((q + 1 : Nat) : Int) := by omega
    go_enter Tryz.func121, Tryz.ntmps121
    go_wp2_with fail
    go_quiet (fail)
    have HP := Lib.hid (show BasePost b0 W (.returned (.int .i64 x.base)) (W.drewN nq) from ⟨by rw [HB.out], (Chg.refl [] W).drewN nq⟩)
    go_wp2_with fail
    go_ret
    exact HP.out
theorem Wk.far {W : World} {g : Nat} {h : Int} {v : Value} {bs : List BkV} (s : Wk W g h v bs) {p : Addr} (hp : g ≠ p.block) (hv : v.ownBlock ≠ some p.block) (u : Value) : Wk (W.setCell p u) g h v bs := ⟨s.rec_.far hp u, rown_far s.own hv, s.few, s.hr, s.rb⟩
theorem Wk.ret5 {W W3 : World} {g gR : Nat} {h : Int} {v : Value} {bs : List BkV} {z0 z1 z2 z3 z4 : Value} (s : Wk W3 g h v bs) (hf : Fr g wkT W W3) (hR : Whole W3 gR 171 [z0, z1, z2, z3, z4]) (hg : g < gR) (hv : v.ownBlock ≠ some gR) (u0 u1 u2 u3 u4 : Value) :
    let w4 := ((((W3.setCell ⟨gR, 0, none⟩ u0).setCell ⟨gR, 1, none⟩ u1).setCell ⟨gR, 2, none⟩ u2).setCell ⟨gR, 3, none⟩ u3).setCell ⟨gR, 4, none⟩ u4
    Hid (Wk w4 g h v bs) ∧ Hid (Fr g wkT W w4) ∧ Hid (Whole w4 gR 171 [u0, u1, u2, u3, u4]) := by
  have hne : g ≠ gR := by omega
  have r1 := hR.set_ 0 u0
  have r2 := r1.set_ 1 u1
  have r3 := r2.set_ 2 u2
  have r4 := r3.set_ 3 u3
  have r5 := r4.set_ 4 u4
  refine ⟨Lib.hid (((((s.far hne hv _).far hne hv _).far hne hv _).far hne hv _).far hne hv _), Lib.hid (((((hf.setw hR (by omega) (by simp [wkT]) _).setw r1 (by omega) (by simp [wkT]) _).setw r2 (by omega) (by simp [wkT]) _).setw r3 (by omega) (by simp [wkT]) _).setw r4 (by omega) (by simp [wkT]) _), Lib.hid ?_⟩
  simpa using r5
def ShutPost (W : World) (g : Nat) (h : Int) (ys : List BkV) (x : BkV) (e : Ending) (w' : World) : Prop := ∃ v', e = .returned (.agg (ptC x).toArray) ∧ Wk w' g h v' ys ∧ Fr g wkT W w'
set_option maxHeartbeats 4000000 in
set_option maxRecDepth 100000 in
theorem shut_any (s : Wk W g h v (ys ++ [x])) : Calls Tryz.prog 144 #[.pointer (some ⟨g, 0, none⟩)] W (ShutPost W g h ys x) := by
  obtain ⟨gr, c, rfl, hc, hgr, j0, j1, j2, j3, j4⟩ := s.last
  have hf := s.few
  rw [List.length_append, List.length_singleton] at hf
  have HS := Lib.hid s
  obtain ⟨q, hq⟩ : ∃ q, q = ys.length := ⟨_, rfl⟩
  rw [← hq] at hc j0 j1 j2 j3 j4 hf HS
  have HPOP := Lib.hid (fun (W1 : World) (hc : Chg [] W W1) => show Wk (W1.setCell ⟨g, 1, none⟩ (.slice (some ⟨gr, 0, none⟩) q c)) g h (.slice (some ⟨gr, 0, none⟩) q c) ys ∧ Fr g wkT W (W1.setCell ⟨g, 1, none⟩ (.slice (some ⟨gr, 0, none⟩) q c)) from by rw [hq]; exact s.pop hc)
  clear s hq
  generalize hb91 : (x.sign == 91) = b91 at j0
  generalize hb58 : (x.sign == 58) = b58 at j2
  have HPX := Lib.hid (show ptC x = [.bool b91, .int .i64 x.base, .bool b58, .int .i64 x.other, .bool x.left] from by unfold ptC; rw [hb91, hb58])
  clear hb91 hb58
  generalize x.base = xb at j1 HPX
  generalize x.other = xo at j3 HPX
  generalize x.left = xl at j4 HPX
  go_enter Tryz.func144, Tryz.ntmps144
  go_upto_region 1 with fail
  have hN := Whole.new W 171 [.bool false, .int .i64 0, .bool false, .int .i64 0, .bool false]
  have hal := (Chg.refl [] W).alloc (.cells #[.bool false, .int .i64 0, .bool false, .int .i64 0, .bool false] 171)
  have hz1 : (W.alloc (.cells #[.bool false, .int .i64 0, .bool false, .int .i64 0, .bool false] 171)).heap.size = W.heap.size + 1 := Array.size_push _
  have HW1 := Lib.hid (HS.out.keep hal)
  have HC1 := Lib.hid hal
  have HR1 := Lib.hid hN
  have HZ1 := Lib.hid hz1
  obtain ⟨gR, hgR⟩ : ∃ gR, gR = W.heap.size := ⟨_, rfl⟩
  have HGR := Lib.hid (show W.heap.size ≤ gR from by omega)
  have HGG := Lib.hid (show gr < gR ∧ g < gR from by
    have h1 := HS.out.rec_.lt
    have h2 := block_lt_of_cell j0
    simp only at h2
    omega)
  rw [← hgR] at HR1 HZ1 ⊢
  have k0 := cell_keep j0 hal
  have k1 := cell_keep j1 hal
  have k2 := cell_keep j2 hal
  have k3 := cell_keep j3 hal
  have k4 := cell_keep j4 hal
  generalize W.alloc (.cells #[.bool false, .int .i64 0, .bool false, .int .i64 0, .bool false] 171) = w1 at HW1 HC1 HR1 HZ1 k0 k1 k2 k3 k4 ⊢
  clear hN hal hz1 hgR j0 j1 j2 j3 j4
  have c1 := HW1.out.rec_.cell 1
  have hq0 : (0 : Int) ≤ (q : Int) := by omega
  have hq1 : (q : Int) < ((q + 1 : Nat) : Int) := by omega
  go_upto_region 3 with fail
  have hX := Whole.new w1 171 [.bool b91, .int .i64 xb, .bool b58, .int .i64 xo, .bool xl]
  have hal := (Chg.refl [] w1).alloc (.cells #[.bool b91, .int .i64 xb, .bool b58, .int .i64 xo, .bool xl] 171)
  obtain ⟨gX, hgX⟩ : ∃ gX, gX = w1.heap.size := ⟨_, rfl⟩
  have HGX := Lib.hid (show gR < gX from by have := HZ1.out; omega)
  rw [← hgX] at hX ⊢
  have HX := Lib.hid hX
  have HW2 := Lib.hid (HW1.out.keep hal)
  have HC2 := Lib.hid (HC1.out.new hal)
  have HR2 := Lib.hid (HR1.out.keep hal)
  generalize w1.alloc (.cells #[.bool b91, .int .i64 xb, .bool b58, .int .i64 xo, .bool xl] 171) = w2 at HX HW2 HC2 HR2 ⊢
  clear hX hal hgX k0 k1 k2 k3 k4 c1 HW1 HC1 HR1 HZ1
  have c1 := HW2.out.rec_.cell 1
  have f1 := HW2.out.rec_.frozen 1
  have hqc : q ≤ c := by omega
  go_upto_region 4 with fail
  obtain ⟨hw3, hf3⟩ := HPOP.out w2 HC2.out
  have hX3 := HX.out.far (p := ⟨g, 1, none⟩) (by have := HGX.out; have := HGG.out; simp only; omega) (.slice (some ⟨gr, 0, none⟩) q c)
  have hR3 := HR2.out.far (p := ⟨g, 1, none⟩) (by have := HGG.out; simp only; omega) (.slice (some ⟨gr, 0, none⟩) q c)
  obtain ⟨HW4, HF4, HR4⟩ := hw3.ret5 hf3 hR3 HGG.out.2 (by have := HGG.out.1; simp [Value.ownBlock]; omega) (.bool b91) (.int .i64 xb) (.bool b58) (.int .i64 xo) (.bool xl)
  have HP := Lib.hid (show ShutPost W g h ys x (.returned (.agg #[.bool b91, .int .i64 xb, .bool b58, .int .i64 xo, .bool xl])) _ from ⟨_, by rw [HPX.out], HW4.out, HF4.out⟩)
  generalize w2.setCell ⟨g, 1, none⟩ (.slice (some ⟨gr, 0, none⟩) q c) = w3 at hX3 hR3 HR4 HP ⊢
  have x0 := hX3.cell 0
  have x1 := hX3.cell 1
  have x2 := hX3.cell 2
  have x3 := hX3.cell 3
  have x4 := hX3.cell 4
  have y0 := hR3.cell 0
  have y1 := hR3.cell 1
  have y2 := hR3.cell 2
  have y3 := hR3.cell 3
  have y4 := hR3.cell 4
  have f0 := hR3.frozen 0
  have f1 := hR3.frozen 1
  have f2 := hR3.frozen 2
  have f3 := hR3.frozen 3
  have f4 := hR3.frozen 4
  clear hX3 hR3 hw3 hf3 HW4 HF4
  go_wp2_with fail
  have e0 := HR4.out.cell 0
  have e1 := HR4.out.cell 1
  have e2 := HR4.out.cell 2
  have e3 := HR4.out.cell 3
  have e4 := HR4.out.cell 4
  generalize ((((w3.setCell ⟨gR, 0, none⟩ (.bool b91)).setCell ⟨gR, 1, none⟩ (.int .i64 xb)).setCell ⟨gR, 2, none⟩ (.bool b58)).setCell ⟨gR, 3, none⟩ (.int .i64 xo)).setCell ⟨gR, 4, none⟩ (.bool xl) = wf at HP e0 e1 e2 e3 e4 ⊢
  simp only [List.getElem?_cons_zero, List.getElem?_cons_succ] at e0 e1 e2 e3 e4
  refine bodyPost_ret (v := .agg #[.bool b91, .int .i64 xb, .bool b58, .int .i64 xo, .bool xl]) (by simp [results, Tryz.results144, go_sem, e0, e1, e2, e3, e4]) rfl HP.out
end
end Go.Proofs.YtbkfhndmeljlcaaGreatDoor
namespace Go.Proofs.YtbkfhndmeljlcaaGreatDoor
open Go.RowKit
section
variable {W W' : World} {gs B : Nat} {h : Int} {vo : Value} {bs : List BkV}
/-- Yes or no, and what lies there then. -/
def StPost (gs B : Nat) (vo : Value) (R : Bool × Int × List BkV) (W : World) (e : Ending) (w' : World) : Prop :=
  ∃ vo', e = .returned (.bool R.1) ∧ St w' gs B R.2.1 vo' R.2.2 ∧ Chg (stT gs vo) W w' ∧ (vo'.ownBlock = vo.ownBlock ∨ ∃ g, vo'.ownBlock = some g ∧ W.heap.size ≤ g)
theorem st_ok {w' : World} {R : Bool × Int × List BkV} (b : Bool) (h' : Int) (vo' : Value) (bs' : List BkV) (hR : R = (b, h', bs')) (hS : St w' gs B h' vo' bs') (hC : Chg (stT gs vo) W w') (hO : vo'.ownBlock = vo.ownBlock ∨ ∃ g, vo'.ownBlock = some g ∧ W.heap.size ≤ g) : StPost gs B vo R W (.returned (.bool b)) w' := by subst hR; exact ⟨vo', rfl, hS, hC, hO⟩
theorem st_in (gs : Nat) (vo : Value) : gs ∈ stT gs vo := List.mem_cons_self ..
theorem st_in2 (gs g c q : Nat) : g ∈ stT gs (.slice (some ⟨g, 0, none⟩) q c) := by simp [stT, Value.ownBlock]
set_option maxHeartbeats 2000000 in
set_option maxRecDepth 100000 in
theorem leave_any (s : St W gs B h vo bs) : Calls Tryz.prog 100 #[.pointer (some ⟨gs, 0, none⟩)] W (StPost gs B vo (rLeave h bs bs.length) W) := by
  obtain ⟨A, c, hvo, _, _, _⟩ := s.slice
  have S := Lib.hid s
  have hf := s.few
  have c0 := s.rec_.cell 0
  have c1 := s.rec_.cell 1
  rw [hvo] at c1
  have HV := Lib.hid hvo
  obtain ⟨m, hm⟩ : ∃ m, m = bs.length := ⟨_, rfl⟩
  obtain ⟨R, hR⟩ : ∃ R, R = rLeave h bs bs.length := ⟨_, rfl⟩
  rw [← hR]
  rw [← hm] at c1 hf hR
  have HM := Lib.hid hm
  have HR0 := Lib.hid hR
  clear hR
  obtain ⟨i0, hsub, hi0, hi1⟩ : ∃ i0 : Int, IntKind.i64.wrap ((m : Int) - 1) = i0 ∧ -1 ≤ i0 ∧ i0 < (m : Int) := ⟨(m : Int) - 1, IntWalk.i64_in _ (by omega), by omega, by omega⟩
  have HI0 := Lib.hid (show R = rLeave h bs (i0 + 1).toNat from by rw [HR0.out]; congr 1; have : IntKind.i64.wrap ((m : Int) - 1) = (m : Int) - 1 := IntWalk.i64_in _ (by omega); omega)
  clear s hvo hm
  go_enter Tryz.func100, Tryz.ntmps100
  go_wp2_with fail
  go_loopw [3] (fun i wr => ∃ k : Int, i = .int .i64 k ∧ -1 ≤ k ∧ k < (m : Int) ∧ Hid (R = rLeave h bs (k + 1).toNat) ∧ wr = W) (fun i _ => ((intOf i) + 1).toNat)
  case atStart => exact ⟨i0, rfl, hi0, hi1, HI0, rfl⟩
  case round =>
    obtain ⟨k, rfl, hk0, hk1, HRK, hwr⟩ := hrel
    subst hwr
    by_cases hk : 0 ≤ k
    · obtain ⟨q, rfl⟩ : ∃ q : Nat, k = (q : Int) := ⟨k.toNat, by omega⟩
      have hqm : q < m := by omega
      obtain ⟨x, hx⟩ : ∃ x, bs[q]? = some x := ⟨bs[q]'(by rw [← HM.out]; exact hqm), by simp⟩
      have HRQ := Lib.hid (show R = if x.sign = 91 then (h == x.base, -1, bs.set q ⟨x.sign, x.base, x.other, true⟩) else rLeave h bs q from by rw [HRK.out, show ((q : Int) + 1).toNat = q + 1 from by omega, rLeave, hx])
      obtain ⟨g, c', hvo, hg, j0, j1, j2, j3⟩ := S.out.cell hx
      have hvo2 := HV.out
      rw [hvo] at hvo2
      injection hvo2 with e1 e2 e3
      subst e1; subst e3
      clear hvo e2 j1 j2
      by_cases h91 : x.sign = 91
      · have q1 : (x.sign == 91) = true := by simpa using h91
        have f3 : wr.frozen? ⟨g, q * 4 + 3, none⟩ = false := rown_frozen (by have := S.out.own; rw [HV.out] at this; rw [← HM.out] at this; exact this)
        have HRE := Lib.hid (show R = (h == x.base, -1, bs.set q ⟨x.sign, x.base, x.other, true⟩) from by rw [HRQ.out, if_pos h91])
        clear h91
        go_upto_region 6 with fail
        have S5 := Lib.hid (S.out.poke (i := q) (j := 3) (x := x) (y := ⟨x.sign, x.base, x.other, true⟩) (u := .bool true) HV.out hx (by omega) rfl (S.out.wf x (List.mem_of_getElem? hx)))
        have hx5 : (bs.set q ⟨x.sign, x.base, x.other, true⟩)[q]? = some ⟨x.sign, x.base, x.other, true⟩ := by
          rw [List.getElem?_set_self (by rw [← HM.out]; exact hqm)]
        have HM5 := Lib.hid (show (bs.set q ⟨x.sign, x.base, x.other, true⟩).length = m by rw [List.length_set]; exact HM.out.symm)
        have HC5 := Lib.hid (show Chg (stT gs vo) wr (wr.setCell ⟨g, q * 4 + 3, none⟩ (.bool true)) from ((Chg.refl [] wr).sub (by simp)).setCell (fun _ => by rw [HV.out]; exact st_in2 gs g _ _) _)
        clear hx j0 j3 c0 c1 f3
        generalize bs.set q ⟨x.sign, x.base, x.other, true⟩ = bs5 at S5 hx5 HM5 HRE
        generalize wr.setCell ⟨g, q * 4 + 3, none⟩ (.bool true) = w5 at S5 HC5 ⊢
        have c0 := S5.out.rec_.cell 0
        have c1 := S5.out.rec_.cell 1
        rw [HV.out, ← HM.out] at c1
        have f0 := S5.out.rec_.frozen 0
        obtain ⟨g', c', hvo, hg, j0, j1, j2, j3⟩ := S5.out.cell hx5
        have hvo2 := HV.out
        rw [hvo] at hvo2
        injection hvo2 with e1 e2 e3
        injection e1 with e1; injection e1 with e1
        subst e1; subst e3
        clear hvo e2 hx5 j0 j2 j3
        go_quiet (fail)
        have S6 := Lib.hid (S5.out.keep ((Chg.refl [] w5).drewN nq))
        have HC6 := Lib.hid (HC5.out.drewN nq)
        have S7 := Lib.hid (S6.out.high (-1) (by omega))
        have HC7 := Lib.hid (HC6.out.setCell (p := ⟨gs, 0, none⟩) (fun _ => st_in gs vo) (.int .i64 (-1)))
        clear c0 c1 f0 j1
        have c0 := S6.out.rec_.cell 0
        have f0 := S6.out.rec_.frozen 0
        have HP := Lib.hid (show StPost gs B vo R wr (.returned (.bool (h == x.base))) ((w5.drewN nq).setCell ⟨gs, 0, none⟩ (.int .i64 (-1))) from st_ok _ _ vo bs5 HRE.out S7.out HC7.out (.inl rfl))
        go_wp2_with fail
        go_ret
        exact HP.out
      · have q1 : (x.sign == 91) = false := by simpa using h91
        have HRE := Lib.hid (show R = rLeave h bs ((q : Int) - 1 + 1).toNat from by rw [HRQ.out, if_neg h91]; congr 1; omega)
        clear h91
        go_wp2_with fail
        go_roundw
        case rel => exact ⟨(q : Int) - 1, by go_num, by omega, by omega, HRE, by first | rfl | trivial⟩
        case measure => simp [intOf]
    · obtain rfl : k = -1 := by omega
      have HP := Lib.hid (show StPost gs B vo R wr (.returned (.bool false)) wr from st_ok false h vo bs (HRK.out.trans rfl) S.out ((Chg.refl [] wr).sub (by simp)) (.inl rfl))
      go_wp2_with fail
      go_ret
      exact HP.out
end
end Go.Proofs.YtbkfhndmeljlcaaGreatDoor
