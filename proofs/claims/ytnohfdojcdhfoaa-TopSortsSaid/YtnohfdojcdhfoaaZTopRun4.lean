/-
  TopRun, part 4: WkMem, WkHalve, WkEnd, WkLeave, WkTurn, WkStep, StLeave, StEnds, StTok, StTokB, NestIn.
-/
import Derived.Test.YtnohfdojcdhfoaaZTopRun1
import Derived.Test.YtnohfdojcdhfoaaZTopRun2
import Derived.Test.YtnohfdojcdhfoaaZTopRun3
import Derived.StillTailTactics
import Derived.BigRegion
import Derived.Deep.RegionLaw
namespace Go.Proofs.Ytnohfdojcdhfoaa
open Go.RowKit
def ptC (x : BkV) : List Value := [.bool (x.sign == 91), .int .i64 x.base, .bool (x.sign == 58), .int .i64 x.other, .bool x.left]
def ptCs : List BkV → List Value
  | [] => []
  | x :: l => ptC x ++ ptCs l
theorem ptCs_len : ∀ l, (ptCs l).length = l.length * 5
  | [] => rfl
  | t :: l => by rw [ptCs, List.length_append, ptCs_len l]; simp [ptC]; omega
theorem ptCs_app : ∀ l m, ptCs (l ++ m) = ptCs l ++ ptCs m
  | [], m => rfl
  | t :: l, m => by rw [List.cons_append, ptCs, ptCs, ptCs_app l m, List.append_assoc]
theorem ptCs_one (x : BkV) : ptCs [x] = ptC x := by simp [ptCs]
theorem ptCs_get : ∀ (l : List BkV) (k : Nat) (t : BkV) (j : Nat), l[k]? = some t → j < 5 → (ptCs l)[k * 5 + j]? = (ptC t)[j]?
  | [], k, t, j, h, hj => by simp at h
  | u :: l, 0, t, j, h, hj => by
    simp at h; subst h
    rw [ptCs, List.getElem?_append_left (by simp [ptC]; omega)]
    congr 1; omega
  | u :: l, k + 1, t, j, h, hj => by
    simp at h
    rw [ptCs, List.getElem?_append_right (by simp [ptC]; omega)]
    rw [← ptCs_get l k t j h hj]
    congr 1; simp [ptC]; omega
theorem ptCs_set : ∀ (l : List BkV) (k : Nat) (x y : BkV) (j : Nat) (u : Value), l[k]? = some x → j < 5 → (ptC x).set j u = ptC y → (ptCs l).set (k * 5 + j) u = ptCs (l.set k y)
  | [], k, x, y, j, u, h, hj, hu => by simp at h
  | z :: l, 0, x, y, j, u, h, hj, hu => by
    simp at h; subst h
    rw [ptCs, List.set_append_left _ _ (by simp [ptC]; omega), Nat.zero_mul, Nat.zero_add, hu]
    rfl
  | z :: l, k + 1, x, y, j, u, h, hj, hu => by
    simp at h
    rw [ptCs, List.set_append_right _ _ (by simp [ptC]; omega)]
    rw [show (k + 1) * 5 + j - (ptC z).length = k * 5 + j from by simp [ptC]; omega, ptCs_set l k x y j u h hj hu]
    rfl
theorem info_cpart : (Try.prog.info? 172).map (fun i => (i.zero, i.size, i.bytes)) = some (some (.agg #[.bool false, .int .i64 0, .bool false, .int .i64 0, .bool false]), 5, 40) := by kernel_rfl
abbrev wkT : List TypeId := [172, 138]
structure Wk (W : World) (g : Nat) (h : Int) (v : Value) (bs : List BkV) : Prop where
  rec_ : Whole W g 138 [.int .i64 h, v]
  own : W.ownsRow (g + 1) 172 5 v bs.length (ptCs bs)
  few : bs.length ≤ 100
  hr : -1 ≤ h ∧ h ≤ 64
  rb : ∀ x ∈ bs, 0 ≤ x.base ∧ x.base ≤ 64 ∧ -1 ≤ x.other ∧ x.other ≤ 64
def WPost (W : World) (g : Nat) (R : Int × Int × List BkV) (e : Ending) (w' : World) : Prop :=
  Fr g wkT W w' ∧ e = .returned (.int .i64 R.1) ∧ (R.1 = 0 → ∃ v', Wk w' g R.2.1 v' R.2.2)
section
variable {W W' : World} {g : Nat} {h : Int} {v : Value} {bs ys : List BkV} {x : BkV}
theorem Wk.keep (s : Wk W g h v bs) (hc : Chg [] W W') : Wk W' g h v bs := ⟨s.rec_.keep hc, rown_keep s.own hc, s.few, s.hr, s.rb⟩
theorem Wk.away (s : Wk W g h v bs) : v.ownBlock ≠ some g := fun e => by have := (s.own.lt g e).1; omega
theorem Wk.slice (s : Wk W g h v bs) : ∃ A n c, v = .slice A n c ∧ n = bs.length ∧ n ≤ c := by
  obtain ⟨A, c, e, hc, _⟩ := rown_slice s.own
  exact ⟨A, _, c, e, rfl, hc⟩
theorem Wk.high (s : Wk W g h v bs) (h' : Int) (hr : -1 ≤ h' ∧ h' ≤ 64) : Wk (W.setCell ⟨g, 0, none⟩ (.int .i64 h')) g h' v bs ∧ Fr g wkT W (W.setCell ⟨g, 0, none⟩ (.int .i64 h')) :=
  ⟨⟨s.rec_.set_ 0 _, rown_far s.own (fun e => s.away e), s.few, hr, s.rb⟩, (Fr.refl g wkT W).setw s.rec_ (Nat.le_refl _) (by simp [wkT]) _⟩
theorem Wk.last (s : Wk W g h v (ys ++ [x])) : ∃ gr c, v = .slice (some ⟨gr, 0, none⟩) (ys.length + 1) c ∧ ys.length + 1 ≤ c ∧ g + 1 ≤ gr ∧ W.cell? ⟨gr, ys.length * 5, none⟩ = some (.bool (x.sign == 91)) ∧ W.cell? ⟨gr, ys.length * 5 + 1, none⟩ = some (.int .i64 x.base) ∧
    W.cell? ⟨gr, ys.length * 5 + 2, none⟩ = some (.bool (x.sign == 58)) ∧ W.cell? ⟨gr, ys.length * 5 + 3, none⟩ = some (.int .i64 x.other) ∧ W.cell? ⟨gr, ys.length * 5 + 4, none⟩ = some (.bool x.left) := by
  have hl : (ys ++ [x]).length = ys.length + 1 := by simp
  obtain ⟨A, n, c, rfl, hn, hc⟩ := s.slice
  rw [hl] at hn
  subst hn
  have hx : (ys ++ [x])[ys.length]? = some x := by simp
  have k : ∀ j u, j < 5 → (ptC x)[j]? = some u → ∃ gr, A = some ⟨gr, 0, none⟩ ∧ W.cell? ⟨gr, ys.length * 5 + j, none⟩ = some u := fun j u hj hu => rown_cell s.own (by rw [hl]) ((ptCs_get _ _ _ j hx hj).trans hu)
  obtain ⟨gr, rfl, c0⟩ := k 0 _ (by omega) rfl
  obtain ⟨_, e, c1⟩ := k 1 _ (by omega) rfl
  injection e with e; injection e with e; subst e
  obtain ⟨_, e, c2⟩ := k 2 _ (by omega) rfl
  injection e with e; injection e with e; subst e
  obtain ⟨_, e, c3⟩ := k 3 _ (by omega) rfl
  injection e with e; injection e with e; subst e
  obtain ⟨_, e, c4⟩ := k 4 _ (by omega) rfl
  injection e with e; injection e with e; subst e
  exact ⟨gr, c, rfl, hc, (s.own.lt gr rfl).1, c0, c1, c2, c3, c4⟩
/-- The last part is taken away. -/
theorem Wk.pop {gr c : Nat} (s : Wk W g h (.slice (some ⟨gr, 0, none⟩) (ys.length + 1) c) (ys ++ [x])) {W1 : World} (hc : Chg [] W W1) :
    Wk (W1.setCell ⟨g, 1, none⟩ (.slice (some ⟨gr, 0, none⟩) ys.length c)) g h (.slice (some ⟨gr, 0, none⟩) ys.length c) ys ∧ Fr g wkT W (W1.setCell ⟨g, 1, none⟩ (.slice (some ⟨gr, 0, none⟩) ys.length c)) := by
  have s1 := s.keep hc
  have hl : (ys ++ [x]).length = ys.length + 1 := by simp
  have ho := s1.own
  rw [hl] at ho
  have h2 := rown_take (q' := ys.length) ho (by omega) (by simp)
  rw [ptCs_app, List.take_left' (by rw [ptCs_len])] at h2
  refine ⟨⟨s1.rec_.set_ 1 _, rown_far h2 (fun e => by have := (h2.lt g e).1; omega), by have := s.few; omega, s.hr, fun y hy => s.rb y (by simp [hy])⟩, (Fr.of_chg hc).setw s1.rec_ (Nat.le_refl _) (by simp [wkT]) _⟩
/-- A part more. -/
theorem Wk.push {W2 w3 : World} {v' : Value} {n1 : Nat} (s : Wk W g h v bs) (hc : Chg [] W W2) (hn1 : n1 = bs.length + 1) (ho : w3.ownsRow (g + 1) 172 5 v' n1 (ptCs bs ++ ptC x)) (hg : W2.grownBy w3 v.ownBlock) (hf : bs.length ≤ 99) (hx : 0 ≤ x.base ∧ x.base ≤ 64 ∧ -1 ≤ x.other ∧ x.other ≤ 64) :
    Wk (w3.setCell ⟨g, 1, none⟩ v') g h v' (bs ++ [x]) ∧ Fr g wkT W (w3.setCell ⟨g, 1, none⟩ v') := by
  subst hn1
  have s2 := s.keep hc
  have hr3 := whole_grown s2.rec_ s2.own (by decide) hg
  refine ⟨⟨hr3.set_ 1 _, ?_, by simp; omega, s.hr, fun y hy => ?_⟩, ((Fr.of_chg hc).grown s2.own (Nat.le_succ g) (by simp [wkT]) hg).setw hr3 (Nat.le_refl _) (by simp [wkT]) _⟩
  · rw [ptCs_app, ptCs_one, List.length_append, List.length_singleton]
    exact rown_far ho (fun e => by have := (ho.lt g e).1; omega)
  · rcases List.mem_append.1 hy with hy | hy
    · exact s.rb y hy
    · rw [List.mem_singleton] at hy; subst hy; exact hx
/-- A loop is left. -/
theorem Wk.mark {gr c n k : Nat} {y : BkV} (s : Wk W g h (.slice (some ⟨gr, 0, none⟩) n c) bs) (hn : n = bs.length) (hk : bs[k]? = some y) : Wk (W.setCell ⟨gr, k * 5 + 4, none⟩ (.bool true)) g h (.slice (some ⟨gr, 0, none⟩) n c) (bs.set k ⟨y.sign, y.base, y.other, true⟩) ∧ Fr g wkT W (W.setCell ⟨gr, k * 5 + 4, none⟩ (.bool true)) := by
  subst hn
  have hgr := (s.own.lt gr rfl).1
  refine ⟨⟨s.rec_.far (by simp only; omega) _, ?_, by simpa using s.few, s.hr, fun z hz => ?_⟩, (Fr.refl g wkT W).seto s.own (Nat.le_succ g) (by simp [wkT]) _⟩
  · have := rown_set (j := k * 5 + 4) (u := .bool true) s.own
    rw [ptCs_set bs k y ⟨y.sign, y.base, y.other, true⟩ 4 _ hk (by omega) rfl] at this
    rw [List.length_set]
    exact this
  · rcases List.mem_or_eq_of_mem_set hz with hz | rfl
    · exact s.rb z hz
    · exact s.rb y (List.mem_of_getElem? hk)
end
section
variable {W : World} {g : Nat} {h : Int} {v : Value} {bs ys : List BkV} {x : BkV}
set_option maxHeartbeats 4000000 in
set_option maxRecDepth 100000 in
theorem wbase_any (s : Wk W g h v bs) : Calls Try.prog 106 #[.pointer (some ⟨g, 0, none⟩)] W (BasePost (baseOf bs) W) := by
  obtain ⟨b0, hb0⟩ : ∃ b, b = baseOf bs := ⟨_, rfl⟩
  rw [← hb0]
  rcases List.eq_nil_or_concat bs with rfl | ⟨ys, x, rfl⟩
  · obtain ⟨A, n, c, rfl, hn, _⟩ := s.slice
    have hn0 : n = 0 := hn
    subst hn0
    have c1 := s.rec_.cell 1
    have HC := Lib.hid (show BasePost b0 W (.returned (.int .i64 0)) W from ⟨by rw [hb0]; rfl, Chg.refl [] W⟩)
    clear s hb0 hn
    go_enter Try.func106, Try.ntmps106
    go_wp2_with fail
    go_ret
    exact HC.out
  · rw [List.concat_eq_append] at s
    obtain ⟨gr, c, rfl, hc, hgr, j0, j1, j2, j3, j4⟩ := s.last
    have c1 := s.rec_.cell 1
    have hf := s.few
    rw [List.length_append, List.length_singleton] at hf
    have HB := Lib.hid (show b0 = x.base by rw [hb0]; simp [baseOf])
    clear s j0 j2 j3 j4 hb0
    generalize ys.length = q at *
    have hsub : IntKind.i64.wrap (((q + 1 : Nat) : Int) - 1) = (q : Int) := by rw [IntWalk.i64_in _ (by omega)]; omega
    have hne : (((q + 1 : Nat) : Int) == 0) = false := by simp; omega
    have hq0 : (0 : Int) ≤ (q : Int) := by omega
    have hq1 : (q : Int) < ((q + 1 : Nat) : Int) := by omega
    go_enter Try.func106, Try.ntmps106
    go_wp2_with fail
    go_quiet (fail)
    have HP := Lib.hid (show BasePost b0 W (.returned (.int .i64 x.base)) (W.drewN nq) from ⟨by rw [HB.out], (Chg.refl [] W).drewN nq⟩)
    go_wp2_with fail
    go_ret
    exact HP.out
theorem Wk.far {W : World} {g : Nat} {h : Int} {v : Value} {bs : List BkV} (s : Wk W g h v bs) {p : Addr} (hp : g ≠ p.block) (hv : v.ownBlock ≠ some p.block) (u : Value) : Wk (W.setCell p u) g h v bs := ⟨s.rec_.far hp u, rown_far s.own hv, s.few, s.hr, s.rb⟩
theorem Wk.ret5 {W W3 : World} {g gR : Nat} {h : Int} {v : Value} {bs : List BkV} {z0 z1 z2 z3 z4 : Value} (s : Wk W3 g h v bs) (hf : Fr g wkT W W3) (hR : Whole W3 gR 172 [z0, z1, z2, z3, z4]) (hg : g < gR) (hv : v.ownBlock ≠ some gR) (u0 u1 u2 u3 u4 : Value) :
    let w4 := ((((W3.setCell ⟨gR, 0, none⟩ u0).setCell ⟨gR, 1, none⟩ u1).setCell ⟨gR, 2, none⟩ u2).setCell ⟨gR, 3, none⟩ u3).setCell ⟨gR, 4, none⟩ u4
    Hid (Wk w4 g h v bs) ∧ Hid (Fr g wkT W w4) ∧ Hid (Whole w4 gR 172 [u0, u1, u2, u3, u4]) := by
  have hne : g ≠ gR := by omega
  have r1 := hR.set_ 0 u0
  have r2 := r1.set_ 1 u1
  have r3 := r2.set_ 2 u2
  have r4 := r3.set_ 3 u3
  have r5 := r4.set_ 4 u4
  refine ⟨Lib.hid (((((s.far hne hv _).far hne hv _).far hne hv _).far hne hv _).far hne hv _), Lib.hid (((((hf.setw hR (by omega) (by simp [wkT]) _).setw r1 (by omega) (by simp [wkT]) _).setw r2 (by omega) (by simp [wkT]) _).setw r3 (by omega) (by simp [wkT]) _).setw r4 (by omega) (by simp [wkT]) _), Lib.hid ?_⟩
  simpa using r5
def ShutPost (W : World) (g : Nat) (h : Int) (ys : List BkV) (x : BkV) (e : Ending) (w' : World) : Prop := ∃ v', e = .returned (.agg (ptC x).toArray) ∧ Wk w' g h v' ys ∧ Fr g wkT W w'
set_option maxHeartbeats 4000000 in
set_option maxRecDepth 100000 in
theorem shut_any (s : Wk W g h v (ys ++ [x])) : Calls Try.prog 125 #[.pointer (some ⟨g, 0, none⟩)] W (ShutPost W g h ys x) := by
  obtain ⟨gr, c, rfl, hc, hgr, j0, j1, j2, j3, j4⟩ := s.last
  have hf := s.few
  rw [List.length_append, List.length_singleton] at hf
  have HS := Lib.hid s
  obtain ⟨q, hq⟩ : ∃ q, q = ys.length := ⟨_, rfl⟩
  rw [← hq] at hc j0 j1 j2 j3 j4 hf HS
  have HPOP := Lib.hid (fun (W1 : World) (hc : Chg [] W W1) => show Wk (W1.setCell ⟨g, 1, none⟩ (.slice (some ⟨gr, 0, none⟩) q c)) g h (.slice (some ⟨gr, 0, none⟩) q c) ys ∧ Fr g wkT W (W1.setCell ⟨g, 1, none⟩ (.slice (some ⟨gr, 0, none⟩) q c)) from by rw [hq]; exact s.pop hc)
  clear s hq
  generalize hb91 : (x.sign == 91) = b91 at j0
  generalize hb58 : (x.sign == 58) = b58 at j2
  have HPX := Lib.hid (show ptC x = [.bool b91, .int .i64 x.base, .bool b58, .int .i64 x.other, .bool x.left] from by unfold ptC; rw [hb91, hb58])
  clear hb91 hb58
  generalize x.base = xb at j1 HPX
  generalize x.other = xo at j3 HPX
  generalize x.left = xl at j4 HPX
  go_enter Try.func125, Try.ntmps125
  go_upto_region 1 with fail
  have hN := Whole.new W 172 [.bool false, .int .i64 0, .bool false, .int .i64 0, .bool false]
  have hal := (Chg.refl [] W).alloc (.cells #[.bool false, .int .i64 0, .bool false, .int .i64 0, .bool false] 172)
  have hz1 : (W.alloc (.cells #[.bool false, .int .i64 0, .bool false, .int .i64 0, .bool false] 172)).heap.size = W.heap.size + 1 := Array.size_push _
  have HW1 := Lib.hid (HS.out.keep hal)
  have HC1 := Lib.hid hal
  have HR1 := Lib.hid hN
  have HZ1 := Lib.hid hz1
  obtain ⟨gR, hgR⟩ : ∃ gR, gR = W.heap.size := ⟨_, rfl⟩
  have HGR := Lib.hid (show W.heap.size ≤ gR from by omega)
  have HGG := Lib.hid (show gr < gR ∧ g < gR from by
    have h1 := HS.out.rec_.lt
    have h2 := block_lt_of_cell j0
    simp only at h2
    omega)
  rw [← hgR] at HR1 HZ1 ⊢
  have k0 := cell_keep j0 hal
  have k1 := cell_keep j1 hal
  have k2 := cell_keep j2 hal
  have k3 := cell_keep j3 hal
  have k4 := cell_keep j4 hal
  generalize W.alloc (.cells #[.bool false, .int .i64 0, .bool false, .int .i64 0, .bool false] 172) = w1 at HW1 HC1 HR1 HZ1 k0 k1 k2 k3 k4 ⊢
  clear hN hal hz1 hgR j0 j1 j2 j3 j4
  have c1 := HW1.out.rec_.cell 1
  have hq0 : (0 : Int) ≤ (q : Int) := by omega
  have hq1 : (q : Int) < ((q + 1 : Nat) : Int) := by omega
  go_upto_region 3 with fail
  have hX := Whole.new w1 172 [.bool b91, .int .i64 xb, .bool b58, .int .i64 xo, .bool xl]
  have hal := (Chg.refl [] w1).alloc (.cells #[.bool b91, .int .i64 xb, .bool b58, .int .i64 xo, .bool xl] 172)
  obtain ⟨gX, hgX⟩ : ∃ gX, gX = w1.heap.size := ⟨_, rfl⟩
  have HGX := Lib.hid (show gR < gX from by have := HZ1.out; omega)
  rw [← hgX] at hX ⊢
  have HX := Lib.hid hX
  have HW2 := Lib.hid (HW1.out.keep hal)
  have HC2 := Lib.hid (HC1.out.new hal)
  have HR2 := Lib.hid (HR1.out.keep hal)
  generalize w1.alloc (.cells #[.bool b91, .int .i64 xb, .bool b58, .int .i64 xo, .bool xl] 172) = w2 at HX HW2 HC2 HR2 ⊢
  clear hX hal hgX k0 k1 k2 k3 k4 c1 HW1 HC1 HR1 HZ1
  have c1 := HW2.out.rec_.cell 1
  have f1 := HW2.out.rec_.frozen 1
  have hqc : q ≤ c := by omega
  go_upto_region 4 with fail
  obtain ⟨hw3, hf3⟩ := HPOP.out w2 HC2.out
  have hX3 := HX.out.far (p := ⟨g, 1, none⟩) (by have := HGX.out; have := HGG.out; simp only; omega) (.slice (some ⟨gr, 0, none⟩) q c)
  have hR3 := HR2.out.far (p := ⟨g, 1, none⟩) (by have := HGG.out; simp only; omega) (.slice (some ⟨gr, 0, none⟩) q c)
  obtain ⟨HW4, HF4, HR4⟩ := hw3.ret5 hf3 hR3 HGG.out.2 (by have := HGG.out.1; simp [Value.ownBlock]; omega) (.bool b91) (.int .i64 xb) (.bool b58) (.int .i64 xo) (.bool xl)
  have HP := Lib.hid (show ShutPost W g h ys x (.returned (.agg #[.bool b91, .int .i64 xb, .bool b58, .int .i64 xo, .bool xl])) _ from ⟨_, by rw [HPX.out], HW4.out, HF4.out⟩)
  generalize w2.setCell ⟨g, 1, none⟩ (.slice (some ⟨gr, 0, none⟩) q c) = w3 at hX3 hR3 HR4 HP ⊢
  have x0 := hX3.cell 0
  have x1 := hX3.cell 1
  have x2 := hX3.cell 2
  have x3 := hX3.cell 3
  have x4 := hX3.cell 4
  have y0 := hR3.cell 0
  have y1 := hR3.cell 1
  have y2 := hR3.cell 2
  have y3 := hR3.cell 3
  have y4 := hR3.cell 4
  have f0 := hR3.frozen 0
  have f1 := hR3.frozen 1
  have f2 := hR3.frozen 2
  have f3 := hR3.frozen 3
  have f4 := hR3.frozen 4
  clear hX3 hR3 hw3 hf3 HW4 HF4
  go_wp2_with fail
  have e0 := HR4.out.cell 0
  have e1 := HR4.out.cell 1
  have e2 := HR4.out.cell 2
  have e3 := HR4.out.cell 3
  have e4 := HR4.out.cell 4
  generalize ((((w3.setCell ⟨gR, 0, none⟩ (.bool b91)).setCell ⟨gR, 1, none⟩ (.int .i64 xb)).setCell ⟨gR, 2, none⟩ (.bool b58)).setCell ⟨gR, 3, none⟩ (.int .i64 xo)).setCell ⟨gR, 4, none⟩ (.bool xl) = wf at HP e0 e1 e2 e3 e4 ⊢
  simp only [List.getElem?_cons_zero, List.getElem?_cons_succ] at e0 e1 e2 e3 e4
  refine bodyPost_ret (v := .agg #[.bool b91, .int .i64 xb, .bool b58, .int .i64 xo, .bool xl]) (by simp [results, Try.results125, go_sem, e0, e1, e2, e3, e4]) rfl HP.out
end
end Go.Proofs.Ytnohfdojcdhfoaa
namespace Go.Proofs.Ytnohfdojcdhfoaa
open Go.RowKit
theorem Whole.grownNe {w w' : World} {g t : Nat} {cs : List Value} {row : Option Nat} (h : Whole w g t cs) (hg : w.grownBy w' row) (hne : row ≠ some g) : Whole w' g t cs := (hg.block g h.lt (fun e => hne e.symm)).trans h
section
variable {W : World} {g : Nat} {h : Int} {v : Value} {bs ys : List BkV} {x : BkV}
def WVoid (W : World) (g : Nat) (h : Int) (bs : List BkV) (e : Ending) (w' : World) : Prop := e = .returned (.tuple #[]) ∧ ∃ v', Wk w' g h v' bs ∧ Fr g wkT W w'
set_option maxHeartbeats 8000000 in
set_option maxRecDepth 100000 in
theorem whalve_any (s : Wk W g h v (ys ++ [x])) (hx : x.sign = 63) : Calls Try.prog 117 #[.pointer (some ⟨g, 0, none⟩)] W (WVoid W g x.base (ys ++ [⟨58, x.base, h, x.left⟩])) := by
  obtain ⟨i0, hi0, hz0, hz1, hz2⟩ := info_parts info_cpart
  have HRB := Lib.hid (s.rb x (by simp))
  have HSH := Lib.hid (shut_any s)
  have hf : ys.length ≤ 99 := by have := s.few; rw [List.length_append, List.length_singleton] at this; omega
  have HHR := Lib.hid s.hr
  obtain ⟨sg, xb, xo, xl⟩ := x
  simp only at hx HRB
  subst hx
  simp only
  clear s
  go_enter Try.func117, Try.ntmps117
  go_wp2_with fail
  refine HSH.out.mono ?_
  rintro e w1 ⟨v1, rfl, hw1, hf1⟩
  have HW1 := Lib.hid hw1
  have HF1 := Lib.hid hf1
  have c0 := hw1.rec_.cell 0
  clear hw1 hf1
  have e1 : (ptC ⟨63, xb, xo, xl⟩).toArray = #[.bool false, .int .i64 xb, .bool false, .int .i64 xo, .bool xl] := rfl
  rw [e1]
  clear e1
  go_upto_region 1 with fail
  have hX := Whole.new w1 172 [.bool false, .int .i64 xb, .bool false, .int .i64 xo, .bool xl]
  have hal := (Chg.refl [] w1).alloc (.cells #[.bool false, .int .i64 xb, .bool false, .int .i64 xo, .bool xl] 172)
  obtain ⟨gX, hgX⟩ : ∃ gX, gX = w1.heap.size := ⟨_, rfl⟩
  have HGX := Lib.hid (show g < gX ∧ ∀ b, v1.ownBlock = some b → b < gX from ⟨by have := HW1.out.rec_.lt; omega, fun b hb => by have := (HW1.out.own.lt b hb).2; omega⟩)
  rw [← hgX] at hX ⊢
  have HX := Lib.hid hX
  have HW2 := Lib.hid (HW1.out.keep hal)
  have HF2 := Lib.hid (HF1.out.new hal)
  generalize w1.alloc (.cells #[.bool false, .int .i64 xb, .bool false, .int .i64 xo, .bool xl] 172) = w2 at HX HW2 HF2 ⊢
  clear hX hal hgX c0 HW1 HF1
  have c0 := HW2.out.rec_.cell 0
  have x2 := HX.out.cell 2
  have x3 := HX.out.cell 3
  have f2 := HX.out.frozen 2
  have f3 := HX.out.frozen 3
  go_upto_region 3 with fail
  have hne : g ≠ gX := by have := HGX.out.1; omega
  have hnv : v1.ownBlock ≠ some gX := fun e => by have := HGX.out.2 gX e; omega
  have HX3 := Lib.hid (show Whole ((w2.setCell ⟨gX, 2, none⟩ (.bool true)).setCell ⟨gX, 3, none⟩ (.int .i64 h)) gX 172 [.bool false, .int .i64 xb, .bool true, .int .i64 h, .bool xl] from by have := (HX.out.set_ 2 (.bool true)).set_ 3 (.int .i64 h); simpa using this)
  have HW3 := Lib.hid ((HW2.out.far (p := ⟨gX, 2, none⟩) hne hnv (.bool true)).far (p := ⟨gX, 3, none⟩) hne hnv (.int .i64 h))
  have HF3 := Lib.hid ((HF2.out.setw HX.out (j := 2) (by have := HGX.out.1; omega) (by simp [wkT]) (.bool true)).setw (HX.out.set_ 2 (.bool true)) (j := 3) (by have := HGX.out.1; omega) (by simp [wkT]) (.int .i64 h))
  generalize (w2.setCell ⟨gX, 2, none⟩ (.bool true)).setCell ⟨gX, 3, none⟩ (.int .i64 h) = w3 at HX3 HW3 HF3 ⊢
  clear c0 x2 x3 f2 f3 hne hnv HX HW2 HF2
  have x0 := HX3.out.cell 0
  have x1 := HX3.out.cell 1
  have x2 := HX3.out.cell 2
  have x3 := HX3.out.cell 3
  have x4 := HX3.out.cell 4
  obtain ⟨A3, n3, c3, hv1, hn3, hc3⟩ := HW3.out.slice
  subst hv1
  have k1 := HW3.out.rec_.cell 1
  have hal : Chg [] w3 (w3.alloc (.cells #[.bool false, .int .i64 xb, .bool true, .int .i64 h, .bool xl] 172)) := (Chg.refl [] w3).alloc _
  have q1 : (w3.alloc (.cells #[.bool false, .int .i64 xb, .bool true, .int .i64 h, .bool xl] 172)).cell? ⟨g, 1, none⟩ = some (.slice A3 n3 c3) := cell_keep (by simpa using k1) hal
  have HOW := Lib.hid (show w3.ownsRow (g + 1) 172 5 (.slice A3 n3 c3) n3 (ptCs ys) from by have := HW3.out.own; rw [← hn3] at this; exact this)
  have hBW : g + 1 ≤ w3.heap.size := HW3.out.rec_.lt
  have HN := Lib.hid hn3
  have hn99 : n3 ≤ 99 := by omega
  clear hn3 hal
  go_region_law (
    (refine step_append_n rfl (.tmp 15) (.tmp 17) 136 rfl (g + 1) 172 i0 _ 5 40 Try.underlying136 hi0 hz0 hz1 hz2 rfl (by decide) (.slice A3 n3 c3) n3 (ptCs ys) rfl (rown_keep HOW.out (((Chg.refl [] w3).alloc _).drew)) ⟨w3.heap.size, 0, none⟩ 1 1 [.bool false, .int .i64 xb, .bool true, .int .i64 h, .bool xl] rfl rfl (cells_page w3 _ _) (by simp [Value.oneCell']) (by unfold maxLen; omega) (by omega) (by simp; omega) ?_
     intro v' w' ho hg
     obtain ⟨A6, k6, rfl, _⟩ := rown_slice ho
     have HO := Lib.hid ho
     have HG := Lib.hid hg
     have HR6 := Lib.hid (whole_grown (HW3.out.rec_.keep (((Chg.refl [] w3).alloc (.cells #[.bool false, .int .i64 xb, .bool true, .int .i64 h, .bool xl] 172)).drew)) (rown_keep HW3.out.own (((Chg.refl [] w3).alloc (.cells #[.bool false, .int .i64 xb, .bool true, .int .i64 h, .bool xl] 172)).drew)) (by decide) hg)
     have f1 := HR6.out.frozen 1
     have k1 := HR6.out.cell 1
     clear ho hg))
  all_goals
    obtain ⟨hP, hF⟩ := HW3.out.push (x := ⟨58, xb, h, xl⟩) (((Chg.refl [] w3).alloc (.cells #[.bool false, .int .i64 xb, .bool true, .int .i64 h, .bool xl] 172)).drew) (by have := HN.out; omega) HO.out HG.out hf (by have := HRB.out; have := HHR.out; simp only; omega)
    have HP := Lib.hid hP
    have HFF := Lib.hid (HF3.out.trans hF)
    have HXw := Lib.hid ((HX3.out.keep (((Chg.refl [] w3).alloc (.cells #[.bool false, .int .i64 xb, .bool true, .int .i64 h, .bool xl] 172)).drew)).grownNe HG.out (fun e => by have := HGX.out.2 gX e; omega))
    have HXv := Lib.hid (HXw.out.far (p := ⟨g, 1, none⟩) (by have := HGX.out.1; simp only; omega) (.slice A6 (n3 + 1) k6))
    clear hP hF
    go_upto_region 4 with fail
    generalize hw5 : w'.setCell ⟨g, 1, none⟩ (.slice A6 (n3 + 1) k6) = w5 at HP HFF HXv ⊢
    clear hw5 f1 k1 HXw HO HG HR6
    have c0 := HP.out.rec_.cell 0
    have f0 := HP.out.rec_.frozen 0
    have x1 := HXv.out.cell 1
    go_wp2_with fail
    obtain ⟨hP2, hF2⟩ := HP.out.high xb (by have := HRB.out; omega)
    have HQ := Lib.hid (show WVoid W g xb (ys ++ [⟨58, xb, h, xl⟩]) (.returned (.tuple #[])) _ from ⟨rfl, _, hP2, HFF.out.trans hF2⟩)
    go_end0
    exact HQ.out
end
end Go.Proofs.Ytnohfdojcdhfoaa
namespace Go.Proofs.Ytnohfdojcdhfoaa
open Go.RowKit
def eEnd (h : Int) (ys : List BkV) (x : BkV) (r : Int) : Int × Int × List BkV := match rEnds h ys x r with | (true, h', bs') => (0, h', bs') | (false, h', bs') => (14, h', bs')
theorem end_58 {h : Int} {ys : List BkV} {x : BkV} (hx : x.sign = 58) (ho : -1 ≤ x.other) (hh : -1 ≤ h) : eEnd h ys x 59 = if h = -1 then (0, x.other, ys) else if x.other ≠ -1 ∧ x.other ≠ h then (14, h, ys) else (0, h, ys) := by
  unfold eEnd rEnds
  rw [if_neg (by omega), if_pos hx]
  by_cases h1 : h = -1
  · rw [if_pos h1, if_neg (by omega)]
    simp only
    rw [show max h x.other = x.other from by omega]
  · rw [if_neg h1]
    by_cases h2 : x.other ≠ -1 ∧ x.other ≠ h
    · rw [if_pos h2, if_pos (by omega)]
    · rw [if_neg h2, if_neg (by omega)]
      simp only
      rw [show max h x.other = h from by omega]
theorem end_63 {h : Int} {ys : List BkV} {x : BkV} (hx : x.sign ≠ 58) (hx2 : x.sign ≠ 91) (ho : 0 ≤ x.base) (hh : -1 ≤ h) : eEnd h ys x 59 = if h = -1 then (0, x.base, ys) else if x.base ≠ -1 ∧ x.base ≠ h then (14, h, ys) else (0, h, ys) := by
  unfold eEnd rEnds
  rw [if_neg (by omega), if_neg hx]
  by_cases h1 : h = -1
  · rw [if_pos h1, if_neg (by omega)]
    simp only
    rw [if_neg (fun hc => hx2 hc.1)]
  · rw [if_neg h1]
    by_cases h2 : x.base ≠ -1 ∧ x.base ≠ h
    · rw [if_pos h2, if_pos (by omega)]
    · rw [if_neg h2, if_neg (by omega)]
      simp only
      rw [if_neg (fun hc => hx2 hc.1), show x.base = h from by omega]
theorem end_91 {h : Int} {ys : List BkV} {x : BkV} (hx : x.sign = 91) (hh : -1 ≤ h) : eEnd h ys x 93 = if h ≠ -1 ∧ h ≠ x.base then (14, h, ys) else if x.left = true then (0, x.base, ys) else (0, -1, ys) := by
  unfold eEnd rEnds
  rw [if_neg (by omega), if_neg (by omega)]
  by_cases h1 : h ≠ -1 ∧ h ≠ x.base
  · rw [if_pos h1, if_pos (by omega)]
  · rw [if_neg h1, if_neg (by omega)]
    simp only
    cases hl : x.left with
    | true => rw [if_neg (by simp), if_pos rfl]
    | false => rw [if_pos ⟨hx, rfl⟩, if_neg (by simp)]
section
variable {W : World} {g : Nat} {h : Int} {v : Value} {bs ys : List BkV} {x : BkV}
set_option maxHeartbeats 8000000 in
set_option maxRecDepth 100000 in
theorem wendif_any (s : Wk W g h v (ys ++ [x])) (hx : x.sign ≠ 91) : Calls Try.prog 118 #[.pointer (some ⟨g, 0, none⟩)] W (WPost W g (eEnd h ys x 59)) := by
  have HRB := Lib.hid (s.rb x (by simp))
  have HSH := Lib.hid (shut_any s)
  have HHR := Lib.hid s.hr
  generalize hb91 : (x.sign == 91) = b91
  generalize hb58 : (x.sign == 58) = b58
  have HPX := Lib.hid (show (ptC x).toArray = #[.bool b91, .int .i64 x.base, .bool b58, .int .i64 x.other, .bool x.left] from by unfold ptC; rw [hb91, hb58])
  have HE := Lib.hid (show b58 = true → eEnd h ys x 59 = if h = -1 then (0, x.other, ys) else if x.other ≠ -1 ∧ x.other ≠ h then (14, h, ys) else (0, h, ys) from fun hb => end_58 (by rw [hb] at hb58; simpa using hb58) HRB.out.2.2.1 HHR.out.1)
  have HE2 := Lib.hid (show b58 = false → eEnd h ys x 59 = if h = -1 then (0, x.base, ys) else if x.base ≠ -1 ∧ x.base ≠ h then (14, h, ys) else (0, h, ys) from fun hb => end_63 (by rw [hb] at hb58; simpa using hb58) hx HRB.out.1 HHR.out.1)
  generalize eEnd h ys x 59 = R at HE HE2 ⊢
  clear s hb91 hb58 hx
  generalize x.base = xb at *
  generalize x.other = xo at *
  generalize x.left = xl at *
  go_enter Try.func118, Try.ntmps118
  go_wp2_with fail
  refine HSH.out.mono ?_
  rintro e w1 ⟨v1, rfl, hw1, hf1⟩
  rw [HPX.out]
  have HW1 := Lib.hid hw1
  have HF1 := Lib.hid hf1
  clear hw1 hf1
  go_upto_region 2 with fail
  have hX := Whole.new w1 172 [.bool b91, .int .i64 xb, .bool b58, .int .i64 xo, .bool xl]
  have hal := (Chg.refl [] w1).alloc (.cells #[.bool b91, .int .i64 xb, .bool b58, .int .i64 xo, .bool xl] 172)
  obtain ⟨gX, hgX⟩ : ∃ gX, gX = w1.heap.size := ⟨_, rfl⟩
  have hgg : g < gX := by have := HW1.out.rec_.lt; omega
  have hgv : ∀ b, v1.ownBlock = some b → b < gX := fun b hb => by have := (HW1.out.own.lt b hb).2; omega
  have HGX := Lib.hid (And.intro hgg hgv)
  clear hgg hgv
  rw [← hgX] at hX ⊢
  have HX := Lib.hid hX
  have HW2 := Lib.hid (HW1.out.keep hal)
  have HF2 := Lib.hid (HF1.out.new hal)
  generalize w1.alloc (.cells #[.bool b91, .int .i64 xb, .bool b58, .int .i64 xo, .bool xl] 172) = w2 at HX HW2 HF2 ⊢
  clear hX hal hgX HW1 HF1
  have c0 := HW2.out.rec_.cell 0
  have g0 := HW2.out.rec_.frozen 0
  have x1 := HX.out.cell 1
  have x2 := HX.out.cell 2
  have x3 := HX.out.cell 3
  have x4 := HX.out.cell 4
  have f3 := HX.out.frozen 3
  have hne : g ≠ gX := by have := HGX.out.1; omega
  have hnv : v1.ownBlock ≠ some gX := fun e => by have := HGX.out.2 gX e; omega
  have HHI := Lib.hid (show -1 ≤ xo ∧ xo ≤ 64 ∧ 0 ≤ xb ∧ xb ≤ 64 from ⟨HRB.out.2.2.1, HRB.out.2.2.2, HRB.out.1, HRB.out.2.1⟩)
  go_upto_if 8 with fail
  go_cut [] (fun wx => ∃ t : Int, Hid (R = if h = -1 then (0, t, ys) else if t ≠ -1 ∧ t ≠ h then (14, h, ys) else (0, h, ys)) ∧ Hid (-1 ≤ t ∧ t ≤ 64) ∧ Hid (Whole wx gX 172 [.bool b91, .int .i64 xb, .bool b58, .int .i64 t, .bool xl]) ∧ Hid (Wk wx g h v1 ys) ∧ Hid (Fr g wkT W wx))
  case first =>
    cases b58 with
    | true =>
      go_wp2_with fail
      go_meet
      exact ⟨xo, Lib.hid (HE.out (by first | rfl | trivial)), Lib.hid ⟨HHI.out.1, HHI.out.2.1⟩, HX, HW2, HF2⟩
    | false =>
      have hX3 := HX.out.set_ 3 (.int .i64 xb)
      have hW3 := HW2.out.far (p := ⟨gX, 3, none⟩) hne hnv (.int .i64 xb)
      have hF3 := HF2.out.setw HX.out (j := 3) (by have := HGX.out.1; omega) (by simp [wkT]) (.int .i64 xb)
      go_wp2_with fail
      go_meet
      exact ⟨xb, Lib.hid (HE2.out (by first | rfl | trivial)), Lib.hid ⟨by have := HHI.out.2.2.1; omega, HHI.out.2.2.2⟩, Lib.hid (by simpa using hX3), Lib.hid hW3, Lib.hid hF3⟩
  case rest =>
    obtain ⟨t, HR, HT, HXt, HWt, HFt⟩ := hcut
    obtain ⟨w3, rfl⟩ : ∃ w3 : World, w3 = wc := ⟨_, rfl⟩
    clear c0 g0 x1 x2 x3 x4 f3 HX HW2 HF2
    have c0 := HWt.out.rec_.cell 0
    have g0 := HWt.out.rec_.frozen 0
    have x3 := HXt.out.cell 3
    by_cases h1 : h = -1
    · subst h1
      obtain ⟨hP2, hF2⟩ := HWt.out.high t HT.out
      have HQ := Lib.hid (show WPost W g R (.returned (.int .i64 0)) _ from ⟨HFt.out.trans hF2, by rw [HR.out, if_pos rfl], fun _ => by rw [HR.out, if_pos rfl]; exact ⟨_, hP2⟩⟩)
      clear hP2 hF2
      go_wp2_with fail
      go_ret
      exact HQ.out
    · have q1 : (h == -1) = false := by simpa using h1
      by_cases ht : t = -1
      · have qt : (t != -1) = false := by simpa using ht
        have HQ := Lib.hid (fun (W' : World) (hc : Chg [] w3 W') => show WPost W g R (.returned (.int .i64 0)) W' from ⟨HFt.out.new hc, by rw [HR.out, if_neg h1, if_neg (fun hh => hh.1 ht)], fun _ => by rw [HR.out, if_neg h1, if_neg (fun hh => hh.1 ht)]; exact ⟨_, HWt.out.keep hc⟩⟩)
        have qt2 : (t == -1) = true := by simpa using ht
        clear ht h1
        go_upto_region 6 with fail
        go_quiet (fail)
        have HQ2 := Lib.hid (HQ.out _ ((Chg.refl [] w3).drewN nq))
        go_wp2_with fail
        go_ret
        exact HQ2.out
      · have qt : (t != -1) = true := by simpa using ht
        have qt2 : (t == -1) = false := by simpa using ht
        by_cases hth : t = h
        · have qh : (t != h) = false := by simpa using hth
          have qh2 : (t == h) = true := by simpa using hth
          have HQ := Lib.hid (fun (W' : World) (hc : Chg [] w3 W') => show WPost W g R (.returned (.int .i64 0)) W' from ⟨HFt.out.new hc, by rw [HR.out, if_neg h1, if_neg (fun hh => hh.2 hth)], fun _ => by rw [HR.out, if_neg h1, if_neg (fun hh => hh.2 hth)]; exact ⟨_, HWt.out.keep hc⟩⟩)
          clear ht h1 hth
          go_upto_region 6 with fail
          go_quiet (fail)
          have HQ2 := Lib.hid (HQ.out _ ((Chg.refl [] w3).drewN nq))
          go_wp2_with fail
          go_ret
          exact HQ2.out
        · have qh : (t != h) = true := by simpa using hth
          have qh2 : (t == h) = false := by simpa using hth
          have HQ := Lib.hid (fun (W' : World) (hc : Chg [] w3 W') => show WPost W g R (.returned (.int .i64 14)) W' from ⟨HFt.out.new hc, by rw [HR.out, if_neg h1, if_pos ⟨ht, hth⟩], fun hh => by rw [HR.out, if_neg h1, if_pos ⟨ht, hth⟩] at hh; exact absurd hh (by simp)⟩)
          clear ht h1 hth
          go_upto_region 6 with fail
          go_quiet (fail)
          have HQ2 := Lib.hid (HQ.out _ ((Chg.refl [] w3).drewN nq))
          go_wp2_with fail
          go_ret
          exact HQ2.out
set_option maxHeartbeats 8000000 in
set_option maxRecDepth 100000 in
theorem wendloop_any (s : Wk W g h v (ys ++ [x])) (hx : x.sign = 91) : Calls Try.prog 119 #[.pointer (some ⟨g, 0, none⟩)] W (WPost W g (eEnd h ys x 93)) := by
  have HRB := Lib.hid (s.rb x (by simp))
  have HSH := Lib.hid (shut_any s)
  have HHR := Lib.hid s.hr
  generalize hb91 : (x.sign == 91) = b91
  generalize hb58 : (x.sign == 58) = b58
  have HPX := Lib.hid (show (ptC x).toArray = #[.bool b91, .int .i64 x.base, .bool b58, .int .i64 x.other, .bool x.left] from by unfold ptC; rw [hb91, hb58])
  have HR := Lib.hid (end_91 (ys := ys) hx HHR.out.1)
  generalize eEnd h ys x 93 = R at HR ⊢
  clear s hb91 hb58 hx
  generalize x.base = xb at *
  generalize x.other = xo at *
  generalize x.left = xl at *
  go_enter Try.func119, Try.ntmps119
  go_wp2_with fail
  refine HSH.out.mono ?_
  rintro e w1 ⟨v1, rfl, hw1, hf1⟩
  rw [HPX.out]
  have HW1 := Lib.hid hw1
  have HF1 := Lib.hid hf1
  clear hw1 hf1
  go_upto_region 2 with fail
  have hX := Whole.new w1 172 [.bool b91, .int .i64 xb, .bool b58, .int .i64 xo, .bool xl]
  have hal := (Chg.refl [] w1).alloc (.cells #[.bool b91, .int .i64 xb, .bool b58, .int .i64 xo, .bool xl] 172)
  obtain ⟨gX, hgX⟩ : ∃ gX, gX = w1.heap.size := ⟨_, rfl⟩
  have hgg : g < gX := by have := HW1.out.rec_.lt; omega
  have hgv : ∀ b, v1.ownBlock = some b → b < gX := fun b hb => by have := (HW1.out.own.lt b hb).2; omega
  have HGX := Lib.hid (And.intro hgg hgv)
  clear hgg hgv
  rw [← hgX] at hX ⊢
  have HX := Lib.hid hX
  have HW2 := Lib.hid (HW1.out.keep hal)
  have HF2 := Lib.hid (HF1.out.new hal)
  generalize w1.alloc (.cells #[.bool b91, .int .i64 xb, .bool b58, .int .i64 xo, .bool xl] 172) = w2 at HX HW2 HF2 ⊢
  clear hX hal hgX HW1 HF1
  have c0 := HW2.out.rec_.cell 0
  have g0 := HW2.out.rec_.frozen 0
  have x1 := HX.out.cell 1
  have x2 := HX.out.cell 2
  have x3 := HX.out.cell 3
  have x4 := HX.out.cell 4
  have f3 := HX.out.frozen 3
  have HHI := Lib.hid (show 0 ≤ xb ∧ xb ≤ 64 from ⟨HRB.out.1, HRB.out.2.1⟩)
  by_cases hbad : h ≠ -1 ∧ h ≠ xb
  · have HQ := Lib.hid (fun (W' : World) (hc : Chg [] w2 W') => show WPost W g R (.returned (.int .i64 14)) W' from ⟨HF2.out.new hc, by rw [HR.out, if_pos hbad], fun hh => by rw [HR.out, if_pos hbad] at hh; exact absurd hh (by simp)⟩)
    have q1 : (h != -1) = true := by simpa using hbad.1
    have q2 : (h != xb) = true := by simpa using hbad.2
    have q3 : (h == -1) = false := by simpa using hbad.1
    have q4 : (h == xb) = false := by simpa using hbad.2
    clear hbad
    go_quiet (fail)
    have HQ2 := Lib.hid (HQ.out _ ((Chg.refl [] w2).drewN nq))
    go_wp2_with fail
    go_ret
    exact HQ2.out
  · have hR2 := HR.out
    rw [if_neg hbad] at hR2
    have HR2 := Lib.hid hR2
    have hcase : h = -1 ∨ (h ≠ -1 ∧ h = xb) := by omega
    clear hR2 hbad
    have HCX := Lib.hid (fun (W' : World) (hc : Chg [] w2 W') => show Wk W' g h v1 ys ∧ Fr g wkT W W' ∧ Whole W' gX 172 [.bool b91, .int .i64 xb, .bool b58, .int .i64 xo, .bool xl] from ⟨HW2.out.keep hc, HF2.out.new hc, HX.out.keep hc⟩)
    rcases hcase with h1 | ⟨h1, h2⟩
    · have q1 : (h != -1) = false := by simpa using h1
      have q3 : (h == -1) = true := by simpa using h1
      clear h1
      go_quiet (fail)
      obtain ⟨hwA, hfA, hxA⟩ := HCX.out _ ((Chg.refl [] w2).drewN nq)
      generalize w2.drewN nq = w3 at hwA hfA hxA ⊢
      have HWA := Lib.hid hwA
      have HFA := Lib.hid hfA
      have HXA := Lib.hid hxA
      clear hwA hfA hxA c0 g0 x1 x2 x3 x4 f3
      have c0 := HWA.out.rec_.cell 0
      have g0 := HWA.out.rec_.frozen 0
      go_upto_region 5 with fail
      have HWB := Lib.hid (HWA.out.high (-1) (by omega))
      have HXB := Lib.hid (HXA.out.far (p := ⟨g, 0, none⟩) (by have := HGX.out.1; simp only; omega) (.int .i64 (-1)))
      generalize w3.setCell ⟨g, 0, none⟩ (.int .i64 (-1)) = w4 at HWB HXB ⊢
      clear c0 g0
      have c0 := HWB.out.1.rec_.cell 0
      have g0 := HWB.out.1.rec_.frozen 0
      have x1 := HXB.out.cell 1
      have x4 := HXB.out.cell 4
      cases xl with
      | true =>
        have HWC := Lib.hid (HWB.out.1.high xb (by have := HHI.out; omega))
        have HQ := Lib.hid (show WPost W g R (.returned (.int .i64 0)) _ from ⟨(HFA.out.trans HWB.out.2).trans HWC.out.2, by rw [HR2.out, if_pos (by first | rfl | trivial)], fun _ => by rw [HR2.out, if_pos (by first | rfl | trivial)]; exact ⟨_, HWC.out.1⟩⟩)
        go_wp2_with fail
        go_ret
        exact HQ.out
      | false =>
        have HQ := Lib.hid (show WPost W g R (.returned (.int .i64 0)) _ from ⟨HFA.out.trans HWB.out.2, by rw [HR2.out, if_neg (by simp)], fun _ => by rw [HR2.out, if_neg (by simp)]; exact ⟨_, HWB.out.1⟩⟩)
        go_wp2_with fail
        go_ret
        exact HQ.out
    · have q1 : (h != -1) = true := by simpa using h1
      have q3 : (h == -1) = false := by simpa using h1
      have q2 : (h != xb) = false := by simpa using h2
      have q4 : (h == xb) = true := by simpa using h2
      clear h1 h2
      go_quiet (fail)
      obtain ⟨hwA, hfA, hxA⟩ := HCX.out _ ((Chg.refl [] w2).drewN nq)
      generalize w2.drewN nq = w3 at hwA hfA hxA ⊢
      have HWA := Lib.hid hwA
      have HFA := Lib.hid hfA
      have HXA := Lib.hid hxA
      clear hwA hfA hxA c0 g0 x1 x2 x3 x4 f3
      have c0 := HWA.out.rec_.cell 0
      have g0 := HWA.out.rec_.frozen 0
      go_upto_region 5 with fail
      have HWB := Lib.hid (HWA.out.high (-1) (by omega))
      have HXB := Lib.hid (HXA.out.far (p := ⟨g, 0, none⟩) (by have := HGX.out.1; simp only; omega) (.int .i64 (-1)))
      generalize w3.setCell ⟨g, 0, none⟩ (.int .i64 (-1)) = w4 at HWB HXB ⊢
      clear c0 g0
      have c0 := HWB.out.1.rec_.cell 0
      have g0 := HWB.out.1.rec_.frozen 0
      have x1 := HXB.out.cell 1
      have x4 := HXB.out.cell 4
      cases xl with
      | true =>
        have HWC := Lib.hid (HWB.out.1.high xb (by have := HHI.out; omega))
        have HQ := Lib.hid (show WPost W g R (.returned (.int .i64 0)) _ from ⟨(HFA.out.trans HWB.out.2).trans HWC.out.2, by rw [HR2.out, if_pos (by first | rfl | trivial)], fun _ => by rw [HR2.out, if_pos (by first | rfl | trivial)]; exact ⟨_, HWC.out.1⟩⟩)
        go_wp2_with fail
        go_ret
        exact HQ.out
      | false =>
        have HQ := Lib.hid (show WPost W g R (.returned (.int .i64 0)) _ from ⟨HFA.out.trans HWB.out.2, by rw [HR2.out, if_neg (by simp)], fun _ => by rw [HR2.out, if_neg (by simp)]; exact ⟨_, HWB.out.1⟩⟩)
        go_wp2_with fail
        go_ret
        exact HQ.out
end
end Go.Proofs.Ytnohfdojcdhfoaa
namespace Go.Proofs.Ytnohfdojcdhfoaa
open Go.RowKit
def lLeave (h : Int) (bs : List BkV) (k : Nat) : Int × Int × List BkV := match rLeave h bs k with | (true, h', bs') => (0, h', bs') | (false, h', bs') => (14, h', bs')
theorem lLeave_on {h : Int} {bs : List BkV} {k : Nat} {y : BkV} (hk : bs[k]? = some y) (hy : y.sign ≠ 91) : lLeave h bs (k + 1) = lLeave h bs k := by
  unfold lLeave
  rw [rLeave, hk]
  simp only
  rw [if_neg hy]
theorem lLeave_at {h : Int} {bs : List BkV} {k : Nat} {y : BkV} (hk : bs[k]? = some y) (hy : y.sign = 91) : lLeave h bs (k + 1) = if h = y.base then (0, -1, bs.set k ⟨y.sign, y.base, y.other, true⟩) else (14, -1, bs.set k ⟨y.sign, y.base, y.other, true⟩) := by
  unfold lLeave
  rw [rLeave, hk]
  simp only
  rw [if_pos hy]
  by_cases e : h = y.base
  · rw [if_pos e, show (h == y.base) = true from by simpa using e]
  · rw [if_neg e, show (h == y.base) = false from by simpa using e]
section
variable {W : World} {g : Nat} {h : Int} {v : Value} {bs ys : List BkV} {x : BkV}
theorem Wk.part (s : Wk W g h v bs) {k : Nat} {y : BkV} (hk : bs[k]? = some y) : ∃ gr c, v = .slice (some ⟨gr, 0, none⟩) bs.length c ∧ bs.length ≤ c ∧ g + 1 ≤ gr ∧ W.cell? ⟨gr, k * 5, none⟩ = some (.bool (y.sign == 91)) ∧ W.cell? ⟨gr, k * 5 + 1, none⟩ = some (.int .i64 y.base) ∧ W.cell? ⟨gr, k * 5 + 4, none⟩ = some (.bool y.left) ∧ W.frozen? ⟨gr, k * 5 + 4, none⟩ = false := by
  obtain ⟨A, n, c, rfl, hn, hc⟩ := s.slice
  subst hn
  obtain ⟨gr, rfl, c0⟩ := rown_cell s.own rfl ((ptCs_get _ _ _ 0 hk (by omega)).trans rfl)
  obtain ⟨_, e, c1⟩ := rown_cell s.own rfl ((ptCs_get _ _ _ 1 hk (by omega)).trans rfl)
  injection e with e; injection e with e; subst e
  obtain ⟨_, e, c4⟩ := rown_cell s.own rfl ((ptCs_get _ _ _ 4 hk (by omega)).trans rfl)
  injection e with e; injection e with e; subst e
  exact ⟨gr, c, rfl, hc, (s.own.lt gr rfl).1, c0, c1, c4, rown_frozen s.own⟩
set_option maxHeartbeats 8000000 in
set_option maxRecDepth 100000 in
theorem wleave_any (s : Wk W g h v bs) (hx : ∃ x ∈ bs, x.sign = 91) : Calls Try.prog 120 #[.pointer (some ⟨g, 0, none⟩)] W (WPost W g (lLeave h bs bs.length)) := by
  have h0 : 0 < bs.length := by obtain ⟨x, hx, _⟩ := hx; exact List.length_pos_of_mem hx
  have HR := Lib.hid (show ∃ q : Nat, bs.length = q + 1 from ⟨bs.length - 1, by omega⟩)
  generalize hRR : lLeave h bs bs.length = R
  obtain ⟨q, hq⟩ := HR.out
  have HQ := Lib.hid hq
  have HRR := Lib.hid hRR
  have hfew := s.few
  have hq99 : q ≤ 99 := by omega
  obtain ⟨y0, hy0⟩ : ∃ y, bs[q]? = some y := ⟨bs[q]'(by omega), by simp⟩
  obtain ⟨gr, c, rfl, hc, hgr, _⟩ := s.part hy0
  have HS := Lib.hid s
  have c0 := s.rec_.cell 0
  have c1 := s.rec_.cell 1
  have g0 := s.rec_.frozen 0
  have HX := Lib.hid (show ∃ j ≤ q, ∃ x, bs[j]? = some x ∧ x.sign = 91 from by
    obtain ⟨x, hx, hs⟩ := hx
    obtain ⟨j, hj, rfl⟩ := List.getElem_of_mem hx
    exact ⟨j, by omega, _, List.getElem?_eq_getElem hj, hs⟩)
  rw [hq] at c1 hc HS
  clear s hx h0 HR hq hRR hfew hy0
  have hq0 : (0 : Int) ≤ (q : Int) := by omega
  go_enter Try.func120, Try.ntmps120
  go_wp2_with fail
  go_loopw [3] (fun i wr => ∃ k : Nat, i = .int .i64 (k : Int) ∧ k ≤ q ∧ Hid (R = lLeave h bs (k + 1)) ∧ Hid (∃ j ≤ k, ∃ x, bs[j]? = some x ∧ x.sign = 91) ∧ wr = W) (fun i _ => (intOf i).toNat)
  case atStart => exact ⟨q, rfl, by omega, Lib.hid (by rw [← HRR.out, HQ.out]), HX, rfl⟩
  case round =>
    obtain ⟨k, rfl, hk, HRk, HXk, hwr⟩ := hrel
    subst hwr
    obtain ⟨y, hy⟩ : ∃ y, bs[k]? = some y := ⟨bs[k]'(by have := HQ.out; omega), by simp⟩
    obtain ⟨gr', c', e, _, _, y0', y1, y4, fy4⟩ := HS.out.part hy
    injection e with e1 e2 e3
    injection e1 with e1
    injection e1 with e1
    subst e1
    have hkI : (k : Int) < (q : Int) + 1 := by omega
    have hkI2 : (k : Int) < ((q + 1 : Nat) : Int) := by omega
    have hk0 : (0 : Int) ≤ (k : Int) := by omega
    by_cases h91 : y.sign = 91
    · have q91 : (y.sign == 91) = true := by simpa using h91
      rw [q91] at y0'
      have HRE := Lib.hid (HRk.out.trans (lLeave_at hy h91))
      have HY := Lib.hid hy
      clear h91 q91 hy e2 e3
      by_cases hb : h = y.base
      · have qb : (h != y.base) = false := by simpa using hb
        have qb2 : (h == y.base) = true := by simpa using hb
        have HE := Lib.hid (HRE.out.trans (if_pos hb))
        clear hb
        go_upto_region 4 with fail
        go_quiet (fail)
        have hcd := (Chg.refl [] wr).drewN nq
        have HS2 := Lib.hid (HS.out.keep hcd)
        have z4 := cell_keep y4 hcd
        have HC2 := Lib.hid hcd
        have HM := Lib.hid (HS2.out.mark (k := k) (y := y) HQ.out.symm HY.out)
        have fz4 : (wr.drewN nq).frozen? ⟨gr, k * 5 + 4, none⟩ = false := fy4
        generalize wr.drewN nq = w2 at HS2 z4 HC2 HM fz4 ⊢
        clear hcd c0 c1 g0 y0' y1 y4 fy4
        have c1 := HS2.out.rec_.cell 1
        go_upto_region 7 with fail
        generalize w2.setCell ⟨gr, k * 5 + 4, none⟩ (.bool true) = w3 at HM ⊢
        clear c1
        have c0 := HM.out.1.rec_.cell 0
        have g0 := HM.out.1.rec_.frozen 0
        obtain ⟨hP, hF⟩ := HM.out.1.high (-1) (by omega)
        have HP := Lib.hid (show WPost wr g R (.returned (.int .i64 0)) _ from ⟨((Fr.of_chg HC2.out).trans HM.out.2).trans hF, by rw [HE.out], fun _ => by rw [HE.out]; exact ⟨_, hP⟩⟩)
        clear hP hF
        go_wp2_with fail
        go_ret
        exact HP.out
      · have qb : (h != y.base) = true := by simpa using hb
        have qb2 : (h == y.base) = false := by simpa using hb
        have HE := Lib.hid (HRE.out.trans (if_neg hb))
        clear hb
        go_upto_region 4 with fail
        go_quiet (fail)
        have HP := Lib.hid (show WPost wr g R (.returned (.int .i64 14)) (wr.drewN nq) from ⟨Fr.of_chg ((Chg.refl [] wr).drewN nq), by rw [HE.out], fun hh => by rw [HE.out] at hh; exact absurd hh (by simp)⟩)
        go_wp2_with fail
        go_ret
        exact HP.out
    · have q91 : (y.sign == 91) = false := by simpa using h91
      rw [q91] at y0'
      obtain ⟨j, hj, x, hxj, hxs⟩ := HXk.out
      have hjk : j < k := by
        rcases Nat.lt_or_ge j k with h' | h'
        · exact h'
        · exfalso
          have : j = k := by omega
          subst this
          rw [hy] at hxj
          injection hxj with e
          subst e
          exact h91 hxs
      have HR2 := Lib.hid (show R = lLeave h bs (k - 1 + 1) from by rw [HRk.out, lLeave_on hy h91, show k - 1 + 1 = k from by omega])
      have HX2 := Lib.hid (show ∃ j ≤ k - 1, ∃ x, bs[j]? = some x ∧ x.sign = 91 from ⟨j, by omega, x, hxj, hxs⟩)
      have hk1 : (1 : Int) ≤ (k : Int) := by omega
      clear h91 q91 hy e2 e3 hxj
      go_wp2_with fail
      go_roundw
      case rel => exact ⟨k - 1, by rw [show ((k - 1 : Nat) : Int) = (k : Int) - 1 from by omega], by omega, HR2, HX2, by first | rfl | trivial⟩
      case measure => simp [intOf]; omega
end
end Go.Proofs.Ytnohfdojcdhfoaa
namespace Go.Proofs.Ytnohfdojcdhfoaa
open Go.RowKit
def Top (sg : Int) (bs : List BkV) : Prop := (sg = 58 → ∃ ys x, bs = ys ++ [x] ∧ x.sign = 63) ∧ (sg = 59 → ∃ ys x, bs = ys ++ [x] ∧ x.sign ≠ 91) ∧ (sg = 93 → ∃ ys x, bs = ys ++ [x] ∧ x.sign = 91) ∧ (sg = 126 → ∃ x ∈ bs, x.sign = 91)
def cTurn (h : Int) (bs : List BkV) (s : Int) : Int × Int × List BkV :=
  if isEnd s then (match bs.getLast? with
    | none => (14, h, bs)
    | some x => eEnd h bs.dropLast x s)
  else if s = 63 ∨ s = 91 then (0, h, bs ++ [⟨s, h, 0, false⟩])
  else if s = 126 then lLeave h bs bs.length
  else if s = 161 then (0, -1, bs)
  else (0, h, bs)
theorem cTurn_end {h : Int} {ys : List BkV} {x : BkV} {s : Int} (hs : isEnd s) : cTurn h (ys ++ [x]) s = eEnd h ys x s := by
  unfold cTurn
  rw [if_pos hs]
  simp only [List.getLast?_append, List.getLast?_singleton, Option.some_or, List.dropLast_concat]
section
variable {W : World} {g : Nat} {h : Int} {v : Value} {bs ys : List BkV} {x : BkV}
set_option maxHeartbeats 8000000 in
set_option maxRecDepth 100000 in
theorem wturn_63 (s : Wk W g h v bs) (h0 : 0 ≤ h) (hf : bs.length ≤ 99) : Calls Try.prog 104 #[.pointer (some ⟨g, 0, none⟩), .int .i32 63] W (WPost W g (0, h, bs ++ [⟨63, h, 0, false⟩])) := by
  obtain ⟨i0, hi0, hz0, hz1, hz2⟩ := info_parts info_cpart
  obtain ⟨A3, n3, c3, rfl, hn3, hc3⟩ := s.slice
  have HS := Lib.hid s
  have k1 := s.rec_.cell 1
  have k0 := s.rec_.cell 0
  have hal : Chg [] W (W.alloc (.cells #[.bool false, .int .i64 h, .bool false, .int .i64 0, .bool false] 172)) := (Chg.refl [] W).alloc _
  have q1 : (W.alloc (.cells #[.bool false, .int .i64 h, .bool false, .int .i64 0, .bool false] 172)).cell? ⟨g, 1, none⟩ = some (.slice A3 n3 c3) := cell_keep (by simpa using k1) hal
  have q0 : (W.alloc (.cells #[.bool false, .int .i64 h, .bool false, .int .i64 0, .bool false] 172)).cell? ⟨g, 0, none⟩ = some (.int .i64 h) := cell_keep (by simpa using k0) hal
  have HOW := Lib.hid (show W.ownsRow (g + 1) 172 5 (.slice A3 n3 c3) n3 (ptCs bs) from by have := s.own; rw [← hn3] at this; exact this)
  have hBW : g + 1 ≤ W.heap.size := s.rec_.lt
  have HN := Lib.hid hn3
  have hn99 : n3 ≤ 99 := by omega
  have HHR := Lib.hid s.hr
  clear hn3 hal s
  go_enter Try.func104, Try.ntmps104
  go_wp2_with fail
  go_region_law (
    (refine step_append_n rfl (.tmp 13) (.tmp 21) 136 rfl (g + 1) 172 i0 _ 5 40 Try.underlying136 hi0 hz0 hz1 hz2 rfl (by decide) (.slice A3 n3 c3) n3 (ptCs bs) rfl (rown_keep HOW.out (((Chg.refl [] W).alloc _).drew)) ⟨W.heap.size, 0, none⟩ 1 1 [.bool false, .int .i64 h, .bool false, .int .i64 0, .bool false] rfl rfl (cells_page W _ _) (by simp [Value.oneCell']) (by unfold maxLen; omega) (by omega) (by simp; omega) ?_
     intro v' w' ho hg
     obtain ⟨A6, k6, rfl, _⟩ := rown_slice ho
     have HO := Lib.hid ho
     have HG := Lib.hid hg
     have HR6 := Lib.hid (whole_grown (HS.out.rec_.keep (((Chg.refl [] W).alloc (.cells #[.bool false, .int .i64 h, .bool false, .int .i64 0, .bool false] 172)).drew)) (rown_keep HS.out.own (((Chg.refl [] W).alloc (.cells #[.bool false, .int .i64 h, .bool false, .int .i64 0, .bool false] 172)).drew)) (by decide) hg)
     have f1 := HR6.out.frozen 1
     have k1 := HR6.out.cell 1
     clear ho hg))
  all_goals
    obtain ⟨hP, hF⟩ := HS.out.push (x := ⟨63, h, 0, false⟩) (((Chg.refl [] W).alloc (.cells #[.bool false, .int .i64 h, .bool false, .int .i64 0, .bool false] 172)).drew) (by have := HN.out; omega) HO.out HG.out hf (by have := HHR.out; simp only; omega)
    have HP := Lib.hid (show WPost W g (0, h, bs ++ [⟨63, h, 0, false⟩]) (.returned (.int .i64 0)) _ from ⟨hF, rfl, fun _ => ⟨_, hP⟩⟩)
    clear hP hF
    go_wp2_with fail
    go_ret
    exact HP.out
set_option maxHeartbeats 8000000 in
set_option maxRecDepth 100000 in
theorem wturn_91 (s : Wk W g h v bs) (h0 : 0 ≤ h) (hf : bs.length ≤ 99) : Calls Try.prog 104 #[.pointer (some ⟨g, 0, none⟩), .int .i32 91] W (WPost W g (0, h, bs ++ [⟨91, h, 0, false⟩])) := by
  obtain ⟨i0, hi0, hz0, hz1, hz2⟩ := info_parts info_cpart
  obtain ⟨A3, n3, c3, rfl, hn3, hc3⟩ := s.slice
  have HS := Lib.hid s
  have k1 := s.rec_.cell 1
  have k0 := s.rec_.cell 0
  have hal : Chg [] W (W.alloc (.cells #[.bool true, .int .i64 h, .bool false, .int .i64 0, .bool false] 172)) := (Chg.refl [] W).alloc _
  have q1 : (W.alloc (.cells #[.bool true, .int .i64 h, .bool false, .int .i64 0, .bool false] 172)).cell? ⟨g, 1, none⟩ = some (.slice A3 n3 c3) := cell_keep (by simpa using k1) hal
  have q0 : (W.alloc (.cells #[.bool true, .int .i64 h, .bool false, .int .i64 0, .bool false] 172)).cell? ⟨g, 0, none⟩ = some (.int .i64 h) := cell_keep (by simpa using k0) hal
  have HOW := Lib.hid (show W.ownsRow (g + 1) 172 5 (.slice A3 n3 c3) n3 (ptCs bs) from by have := s.own; rw [← hn3] at this; exact this)
  have hBW : g + 1 ≤ W.heap.size := s.rec_.lt
  have HN := Lib.hid hn3
  have hn99 : n3 ≤ 99 := by omega
  have HHR := Lib.hid s.hr
  clear hn3 hal s
  go_enter Try.func104, Try.ntmps104
  go_wp2_with fail
  go_region_law (
    (refine step_append_n rfl (.tmp 13) (.tmp 21) 136 rfl (g + 1) 172 i0 _ 5 40 Try.underlying136 hi0 hz0 hz1 hz2 rfl (by decide) (.slice A3 n3 c3) n3 (ptCs bs) rfl (rown_keep HOW.out (((Chg.refl [] W).alloc _).drew)) ⟨W.heap.size, 0, none⟩ 1 1 [.bool true, .int .i64 h, .bool false, .int .i64 0, .bool false] rfl rfl (cells_page W _ _) (by simp [Value.oneCell']) (by unfold maxLen; omega) (by omega) (by simp; omega) ?_
     intro v' w' ho hg
     obtain ⟨A6, k6, rfl, _⟩ := rown_slice ho
     have HO := Lib.hid ho
     have HG := Lib.hid hg
     have HR6 := Lib.hid (whole_grown (HS.out.rec_.keep (((Chg.refl [] W).alloc (.cells #[.bool true, .int .i64 h, .bool false, .int .i64 0, .bool false] 172)).drew)) (rown_keep HS.out.own (((Chg.refl [] W).alloc (.cells #[.bool true, .int .i64 h, .bool false, .int .i64 0, .bool false] 172)).drew)) (by decide) hg)
     have f1 := HR6.out.frozen 1
     have k1 := HR6.out.cell 1
     clear ho hg))
  all_goals
    obtain ⟨hP, hF⟩ := HS.out.push (x := ⟨91, h, 0, false⟩) (((Chg.refl [] W).alloc (.cells #[.bool true, .int .i64 h, .bool false, .int .i64 0, .bool false] 172)).drew) (by have := HN.out; omega) HO.out HG.out hf (by have := HHR.out; simp only; omega)
    have HP := Lib.hid (show WPost W g (0, h, bs ++ [⟨91, h, 0, false⟩]) (.returned (.int .i64 0)) _ from ⟨hF, rfl, fun _ => ⟨_, hP⟩⟩)
    clear hP hF
    go_wp2_with fail
    go_ret
    exact HP.out
set_option maxHeartbeats 8000000 in
set_option maxRecDepth 100000 in
theorem wturn_any (s : Wk W g h v bs) (sg : Int) (ht : Top sg bs) (h0 : (sg = 63 ∨ sg = 91) → 0 ≤ h ∧ bs.length ≤ 99) : Calls Try.prog 104 #[.pointer (some ⟨g, 0, none⟩), .int .i32 sg] W (WPost W g (cTurn h bs sg)) := by
  by_cases h63 : sg = 63
  · subst h63
    exact wturn_63 s (h0 (.inl rfl)).1 (h0 (.inl rfl)).2
  by_cases h91 : sg = 91
  · subst h91
    exact wturn_91 s (h0 (.inr rfl)).1 (h0 (.inr rfl)).2
  have q63 : (sg == 63) = false := by simpa using h63
  have q91 : (sg == 91) = false := by simpa using h91
  by_cases h58 : sg = 58
  · subst h58
    obtain ⟨ys, x, rfl, hx⟩ := ht.1 rfl
    have HH := Lib.hid (whalve_any s hx)
    have HR := Lib.hid (show cTurn h (ys ++ [x]) 58 = (0, x.base, ys ++ [⟨58, x.base, h, x.left⟩]) from by rw [cTurn_end (.inl rfl)]; rfl)
    generalize cTurn h (ys ++ [x]) 58 = R at HR ⊢
    clear s ht h0 hx h63 h91
    go_enter Try.func104, Try.ntmps104
    go_wp2_with fail
    refine HH.out.mono ?_
    rintro e w1 ⟨rfl, v1, hw1, hf1⟩
    have HP := Lib.hid (show WPost W g R (.returned (.int .i64 0)) w1 from ⟨hf1, by rw [HR.out], fun _ => by rw [HR.out]; exact ⟨_, hw1⟩⟩)
    clear hw1 hf1
    go_wp2_with fail
    go_ret
    exact HP.out
  have q58 : (sg == 58) = false := by simpa using h58
  by_cases h59 : sg = 59
  · subst h59
    obtain ⟨ys, x, rfl, hx⟩ := ht.2.1 rfl
    have HH := Lib.hid (wendif_any s hx)
    have HR := Lib.hid (show cTurn h (ys ++ [x]) 59 = eEnd h ys x 59 from cTurn_end (.inr (.inl rfl)))
    generalize hRR : cTurn h (ys ++ [x]) 59 = R at HR ⊢
    clear s ht h0 h63 h91 h58 hx hRR
    go_enter Try.func104, Try.ntmps104
    go_wp2_with fail
    refine HH.out.mono ?_
    rw [← HR.out]
    obtain ⟨er, rh, rb⟩ := R
    rintro e w1 ⟨hf1, rfl, hw1⟩
    have HP := Lib.hid (show WPost W g (er, rh, rb) (.returned (.int .i64 er)) w1 from ⟨hf1, rfl, hw1⟩)
    clear hw1 hf1
    go_wp2_with fail
    go_ret
    exact HP.out
  have q59 : (sg == 59) = false := by simpa using h59
  by_cases h93 : sg = 93
  · subst h93
    obtain ⟨ys, x, rfl, hx⟩ := ht.2.2.1 rfl
    have HH := Lib.hid (wendloop_any s hx)
    have HR := Lib.hid (show cTurn h (ys ++ [x]) 93 = eEnd h ys x 93 from cTurn_end (.inr (.inr rfl)))
    generalize hRR : cTurn h (ys ++ [x]) 93 = R at HR ⊢
    clear s ht h0 h63 h91 h58 hx h59 hRR
    go_enter Try.func104, Try.ntmps104
    go_wp2_with fail
    refine HH.out.mono ?_
    rw [← HR.out]
    obtain ⟨er, rh, rb⟩ := R
    rintro e w1 ⟨hf1, rfl, hw1⟩
    have HP := Lib.hid (show WPost W g (er, rh, rb) (.returned (.int .i64 er)) w1 from ⟨hf1, rfl, hw1⟩)
    clear hw1 hf1
    go_wp2_with fail
    go_ret
    exact HP.out
  have q93 : (sg == 93) = false := by simpa using h93
  by_cases h126 : sg = 126
  · subst h126
    have HH := Lib.hid (wleave_any s (ht.2.2.2 rfl))
    have HR := Lib.hid (show cTurn h bs 126 = lLeave h bs bs.length from rfl)
    generalize hRR : cTurn h bs 126 = R at HR ⊢
    clear s ht h0 h63 h91 h58 h59 h93 hRR
    go_enter Try.func104, Try.ntmps104
    go_wp2_with fail
    refine HH.out.mono ?_
    rw [← HR.out]
    obtain ⟨er, rh, rb⟩ := R
    rintro e w1 ⟨hf1, rfl, hw1⟩
    have HP := Lib.hid (show WPost W g (er, rh, rb) (.returned (.int .i64 er)) w1 from ⟨hf1, rfl, hw1⟩)
    clear hw1 hf1
    go_wp2_with fail
    go_ret
    exact HP.out
  have q126 : (sg == 126) = false := by simpa using h126
  by_cases h161 : sg = 161
  · subst h161
    have c0 := s.rec_.cell 0
    have g0 := s.rec_.frozen 0
    obtain ⟨hP, hF⟩ := s.high (-1) (by omega)
    have HP := Lib.hid (show WPost W g (cTurn h bs 161) (.returned (.int .i64 0)) _ from ⟨hF, rfl, fun _ => ⟨_, hP⟩⟩)
    clear s ht h0 hP hF h63 h91 h58 h59 h93 h126
    go_enter Try.func104, Try.ntmps104
    go_wp2_with fail
    go_ret
    exact HP.out
  · have q161 : (sg == 161) = false := by simpa using h161
    have HR := Lib.hid (show cTurn h bs sg = (0, h, bs) from by
      have hne : ¬ isEnd sg := by unfold isEnd; omega
      unfold cTurn
      rw [if_neg hne, if_neg (by omega), if_neg (by omega), if_neg (by omega)])
    have HP := Lib.hid (show WPost W g (cTurn h bs sg) (.returned (.int .i64 0)) W from ⟨Fr.refl _ _ _, by rw [HR.out], fun _ => by rw [HR.out]; exact ⟨_, s⟩⟩)
    clear s ht h0 h63 h91 h58 h59 h93 h126 h161
    go_enter Try.func104, Try.ntmps104
    go_wp2_with fail
    go_ret
    exact HP.out
end
end Go.Proofs.Ytnohfdojcdhfoaa
namespace Go.Proofs.Ytnohfdojcdhfoaa
open Go.RowKit
structure Bas (h : Int) (bs : List BkV) : Prop where
  sorted : bs.Pairwise fun a b => a.base ≤ b.base
  oth : ∀ x ∈ bs, x.sign = 58 → x.other = -1 ∨ x.base ≤ x.other
  top : 0 ≤ h → ∀ x ∈ bs, x.base ≤ h
theorem Bas.base {h : Int} {bs : List BkV} (hb : Bas h bs) (h0 : 0 ≤ h) : baseOf bs ≤ h := by
  unfold baseOf
  cases hl : bs.getLast? with
  | none => exact h0
  | some x => exact hb.top h0 x (List.mem_of_getLast? hl)
theorem takes_end' {l : List FnV} {s : Int} (hs : isEnd s) (name : Int) : rTakes l s name = (0, 0, true) := by
  rcases hs with rfl | rfl | rfl <;> rfl
theorem rTok_dead {l : List FnV} {h : Int} {bs : List BkV} {s name : Int} (h0 : h < 0) : rTok l h bs s name = if isEnd s then cTurn h bs s else (15, h, bs) := by
  unfold rTok cTurn
  by_cases he : isEnd s
  · rw [if_pos he, if_pos he, if_pos he]; rfl
  · rw [if_neg he, if_neg he, if_pos h0]
theorem rTok_none {l : List FnV} {h : Int} {bs : List BkV} {s name p g : Int} (h0 : 0 ≤ h) (ht : rTakes l s name = (p, g, false)) : rTok l h bs s name = (22, h, bs) := by
  have he : ¬ isEnd s := fun he => by rw [takes_end' he] at ht; simp at ht
  unfold rTok
  rw [if_neg he, if_neg (by omega), ht]
theorem rTok_alive {l : List FnV} {h : Int} {bs : List BkV} {s name p g : Int} (h0 : 0 ≤ h) (h64 : h ≤ 64) (hb : baseOf bs ≤ h) (ht : rTakes l s name = (p, g, true)) : rTok l h bs s name = if h - baseOf bs < p ∨ 64 < h - p + g then (14, h, bs) else cTurn (h - p + g) bs s := by
  by_cases he : isEnd s
  · rw [takes_end' he] at ht
    injection ht with h1 h2
    injection h2 with h2 _
    subst h1; subst h2
    rw [if_neg (by omega), show h - 0 + 0 = h from by omega]
    unfold rTok cTurn
    rw [if_pos he, if_pos he]; rfl
  · unfold rTok cTurn
    rw [if_neg he, if_neg (by omega), ht, if_neg he]
    rfl
section
variable {W : World} {g : Nat} {h : Int} {v : Value} {bs : List BkV} {A : Option Addr} {n c : Nat} {l : List FnV} {pages most : Int}
set_option maxHeartbeats 16000000 in
set_option maxRecDepth 100000 in
theorem wstep_any (s : Wk W g h v bs) (hF : Fnr W A n c l) (t : TkV) (hb : Bas h bs) (htop : Top t.sign bs) (hfew : bs.length ≤ 99) : Calls Try.prog 80 #[.pointer (some ⟨g, 0, none⟩), unitV pages most A n c, .agg (tkC t).toArray] W (WPost W g (rTok l h bs t.sign t.name)) := by
  unfold unitV
  obtain ⟨r, tn, nm⟩ := t
  simp only at htop
  simp only [tkC]
  obtain ⟨R, hR⟩ : ∃ R, R = rTok l h bs r nm := ⟨_, rfl⟩
  rw [← hR]
  have HR := Lib.hid hR
  have HTOP := Lib.hid htop
  have HS := Lib.hid s
  have HF := Lib.hid hF
  have HB := Lib.hid hb
  obtain ⟨hr0, hr1⟩ := s.hr
  clear hR htop s hF hb
  go_enter Try.func80, Try.ntmps80
  go_upto_region 1 with fail
  have hN := Whole.new W 31 [.int .i64 pages, .int .i64 most, .slice A n c]
  have hal : Chg [] W (W.alloc (.cells #[.int .i64 pages, .int .i64 most, .slice A n c] 31)) := (Chg.refl [] W).alloc _
  have hsz : (W.alloc (.cells #[.int .i64 pages, .int .i64 most, .slice A n c] 31)).heap.size = W.heap.size + 1 := Array.size_push _
  obtain ⟨w1, hw1⟩ : ∃ w1, w1 = W.alloc (.cells #[.int .i64 pages, .int .i64 most, .slice A n c] 31) := ⟨_, rfl⟩
  rw [← hw1] at hN hal hsz ⊢
  have hN2 := Whole.new w1 121 [.int .i32 r, .int .i64 tn, .int .i32 nm]
  have hal2 : Chg [] w1 (w1.alloc (.cells #[.int .i32 r, .int .i64 tn, .int .i32 nm] 121)) := (Chg.refl [] w1).alloc _
  rw [hsz] at hN2
  have hU2 := hN.keep hal2
  have hc := hal.trans hal2
  generalize w1.alloc (.cells #[.int .i32 r, .int .i64 tn, .int .i32 nm] 121) = w2 at hN2 hU2 hc ⊢
  have HF2 := Lib.hid (HF.out.keep hc)
  have HS2 := Lib.hid (HS.out.keep hc)
  have HGU := Lib.hid (show g < W.heap.size from HS.out.rec_.lt)
  generalize W.heap.size = gu at hU2 hN2 HGU ⊢
  have HU2 := Lib.hid hU2
  have HT2 := Lib.hid hN2
  have HC2 := Lib.hid hc
  clear hN hal hsz hw1 hN2 hal2 hU2 hc
  have c0 := HS2.out.rec_.cell 0
  have t0 := HT2.out.cell 0
  have t1 := HT2.out.cell 1
  have t2 := HT2.out.cell 2
  have u0 := HU2.out.cell 0
  have u1 := HU2.out.cell 1
  have u2 := HU2.out.cell 2
  by_cases hdead : h = -1
  · have HRD := Lib.hid (HR.out.trans (rTok_dead (by omega)))
    subst hdead
    by_cases h58 : r = 58
    · subst h58
      have HRE := Lib.hid (HRD.out.trans (if_pos (.inl rfl)))
      have HTC := Lib.hid (wturn_any HS2.out 58 HTOP.out (fun hh => by omega))
      rw [← HRE.out] at HTC
      go_wp2_with fail
      refine HTC.out.mono ?_
      obtain ⟨er, rh, rb⟩ := R
      rintro e w9 ⟨hf9, rfl, hw9⟩
      have HP := Lib.hid (show WPost W g (er, rh, rb) (.returned (.int .i64 er)) w9 from ⟨(Fr.of_chg HC2.out).trans hf9, rfl, hw9⟩)
      clear hf9 hw9
      go_wp2_with fail
      go_ret
      exact HP.out
    have q58 : (r == 58) = false := by simpa using h58
    have p58 : (r != 58) = true := by simpa using h58
    by_cases h59 : r = 59
    · subst h59
      have HRE := Lib.hid (HRD.out.trans (if_pos (.inr (.inl rfl))))
      have HTC := Lib.hid (wturn_any HS2.out 59 HTOP.out (fun hh => by omega))
      rw [← HRE.out] at HTC
      go_wp2_with fail
      refine HTC.out.mono ?_
      obtain ⟨er, rh, rb⟩ := R
      rintro e w9 ⟨hf9, rfl, hw9⟩
      have HP := Lib.hid (show WPost W g (er, rh, rb) (.returned (.int .i64 er)) w9 from ⟨(Fr.of_chg HC2.out).trans hf9, rfl, hw9⟩)
      clear hf9 hw9
      go_wp2_with fail
      go_ret
      exact HP.out
    have q59 : (r == 59) = false := by simpa using h59
    have p59 : (r != 59) = true := by simpa using h59
    by_cases h93 : r = 93
    · subst h93
      have HRE := Lib.hid (HRD.out.trans (if_pos (.inr (.inr rfl))))
      have HTC := Lib.hid (wturn_any HS2.out 93 HTOP.out (fun hh => by omega))
      rw [← HRE.out] at HTC
      go_wp2_with fail
      refine HTC.out.mono ?_
      obtain ⟨er, rh, rb⟩ := R
      rintro e w9 ⟨hf9, rfl, hw9⟩
      have HP := Lib.hid (show WPost W g (er, rh, rb) (.returned (.int .i64 er)) w9 from ⟨(Fr.of_chg HC2.out).trans hf9, rfl, hw9⟩)
      clear hf9 hw9
      go_wp2_with fail
      go_ret
      exact HP.out
    have q93 : (r == 93) = false := by simpa using h93
    have p93 : (r != 93) = true := by simpa using h93
    have HRE := Lib.hid (HRD.out.trans (if_neg (show ¬ isEnd r from by unfold isEnd; omega)))
    have HP := Lib.hid (show WPost W g R (.returned (.int .i64 15)) w2 from ⟨Fr.of_chg HC2.out, by rw [HRE.out], fun hh => by rw [HRE.out] at hh; exact absurd hh (by simp)⟩)
    clear h58 h59 h93
    go_wp2_with fail
    go_ret
    exact HP.out
  have qdead : (h == -1) = false := by simpa using hdead
  have h0 : 0 ≤ h := by omega
  have HBB := Lib.hid (HB.out.base h0)
  clear hdead
  obtain ⟨T, hT⟩ : ∃ T, T = rTakes l r nm := ⟨_, rfl⟩
  have HT := Lib.hid hT
  have hin := rTakes_in l r nm
  rw [← hT] at hin
  clear hT
  go_wp2_with fail
  refine (ctakes_any HF2.out ⟨r, tn, nm⟩).mono ?_
  rw [← HT.out]
  obtain ⟨p, q, ok⟩ := T
  simp only at hin
  rintro e w3 ⟨rfl, hc3⟩
  have HS3 := Lib.hid (HS2.out.keep hc3)
  have HT3 := Lib.hid (HT2.out.keep hc3)
  have HC3 := Lib.hid (HC2.out.new hc3)
  clear hc3 c0 t0 t1 t2 u0 u1 u2 HF2 HU2 HS2 HT2 HC2
  cases ok with
  | false =>
    have HRE := Lib.hid (HR.out.trans (rTok_none h0 HT.out.symm))
    have HP := Lib.hid (show WPost W g R (.returned (.int .i64 22)) w3 from ⟨Fr.of_chg HC3.out, by rw [HRE.out], fun hh => by rw [HRE.out] at hh; exact absurd hh (by simp)⟩)
    go_wp2_with fail
    go_ret
    exact HP.out
  | true =>
    have HR2 := Lib.hid (HR.out.trans (rTok_alive h0 hr1 HBB.out HT.out.symm))
    obtain ⟨b0, hb0⟩ : ∃ b, b = baseOf bs := ⟨_, rfl⟩
    have hbr : 0 ≤ b0 ∧ b0 ≤ 64 := by
      rw [hb0]
      unfold baseOf
      cases hl : bs.getLast? with
      | none => exact ⟨Int.le_refl 0, by decide⟩
      | some x => have := HS3.out.rb x (List.mem_of_getLast? hl); exact ⟨this.1, this.2.1⟩
    rw [← hb0] at HR2
    have HBO := Lib.hid hb0
    clear hb0
    go_upto_region 8 with fail
    have c3 := HS3.out.rec_.cell 0
    have HDR := Lib.hid ((Chg.refl [] w3).drew)
    have HCB := Lib.hid (fun (V : World) (hV : Chg [] w3 V) => show Calls Try.prog 106 #[.pointer (some ⟨g, 0, none⟩)] V (BasePost b0 V) from by rw [HBO.out]; exact wbase_any (HS3.out.keep hV))
    by_cases hlow : h - b0 < p
    · have qlow : decide (h - b0 < p) = true := by simpa using hlow
      have HRE := Lib.hid (HR2.out.trans (if_pos (.inl hlow)))
      clear hlow
      refine wp_flow (by kernel_rfl) plainT plainT_ok (by kernel_rfl) ?_
      refine flow_move_out plainT_ok rfl rfl rfl ?_
      refine flow1 (r := .pointer (some ⟨g, 0, none⟩)) plainT_ok rfl (.inn rfl) rfl (fun ev W he e1 => by go_simp) ?_
      refine flow1 (r := .pointer (some ⟨g, 0, none⟩)) plainT_ok rfl (.inn rfl) rfl (fun ev W he e1 => by go_simp) ?_
      refine flow1h (r := .int .i64 h) plainT_ok rfl (.inn rfl) rfl (fun ev W he hW e1 => by have c0 := cell_keep (by simpa using c3 : w3.cell? ⟨g, 0, none⟩ = some (.int .i64 h)) (HDR.out.trans (show Chg [] w3.drew _ from hW)); go_simp) ?_
      refine flow_move_out plainT_ok rfl rfl rfl ?_
      refine flow_callv (.int .i64 b0) (by kernel_rfl) rfl (.cons (.inn rfl) .nil) (fun V hV => (HCB.out V (HDR.out.trans (show Chg [] w3.drew _ from hV))).mono fun e w' hb => ⟨hb.1, by rw [plain_by]; exact hb.2⟩) ?_
      refine flow2 (r := .int .i64 (h - b0)) plainT_ok rfl (.inn rfl) (.inn rfl) rfl (fun ev W he e1 e2 => by have hw : IntKind.i64.wrap (h - b0) = h - b0 := IntWalk.i64_in _ (by omega); go_simp) ?_
      refine flow_move_out plainT_ok rfl rfl rfl ?_
      refine flow2 (r := .bool true) plainT_ok rfl (.inn rfl) (.inn rfl) rfl (fun ev W he e1 e2 => by go_simp) ?_
      refine flow_move plainT_ok rfl (keeps_isV _) (.inr (keeps_isV _)) rfl ?_
      refine flow_skip rfl ?_
      refine flow_skip rfl ?_
      refine flow_skip rfl ?_
      refine flow_skip rfl ?_
      refine flow_skip rfl ?_
      refine flow_skip rfl ?_
      refine flow_skip rfl ?_
      refine flow_skip rfl ?_
      refine flow_skip rfl ?_
      refine flow_or_true plainT_ok rfl rfl rfl ?_
      intro vs V hV hG
      obtain e60 : vs 60 = .bool true := hG 60 _ rfl (by kernel_rfl)
      have hV' : Chg [] w3 V := HDR.out.trans (show Chg [] w3.drew _ from hV)
      have HS4 := Lib.hid (HS3.out.keep hV')
      have HT4 := Lib.hid (HT3.out.keep hV')
      have HC4 := Lib.hid (HC3.out.new hV')
      simp only [putAll, Act.put, List.setIfInBounds_toArray, List.set_cons_zero, List.set_cons_succ, e60]
      clear hG hV hV' e60 c3 HCB
      have HP := Lib.hid (show WPost W g R (.returned (.int .i64 14)) V from ⟨Fr.of_chg HC4.out, by rw [HRE.out], fun hh => by rw [HRE.out] at hh; exact absurd hh (by simp)⟩)
      go_wp2_with fail
      go_ret
      exact HP.out
    · have qlow : decide (h - b0 < p) = false := by simpa using hlow
      by_cases hbig : 64 < h - p + q
      · have qbig : decide (64 < h - p + q) = true := by simpa using hbig
        have HRE := Lib.hid (HR2.out.trans (if_pos (.inr hbig)))
        refine wp_flow (by kernel_rfl) plainT plainT_ok (by kernel_rfl) ?_
        refine flow_move_out plainT_ok rfl rfl rfl ?_
        refine flow1 (r := .pointer (some ⟨g, 0, none⟩)) plainT_ok rfl (.inn rfl) rfl (fun ev W he e1 => by go_simp) ?_
        refine flow1 (r := .pointer (some ⟨g, 0, none⟩)) plainT_ok rfl (.inn rfl) rfl (fun ev W he e1 => by go_simp) ?_
        refine flow1h (r := .int .i64 h) plainT_ok rfl (.inn rfl) rfl (fun ev W he hW e1 => by have c0 := cell_keep (by simpa using c3 : w3.cell? ⟨g, 0, none⟩ = some (.int .i64 h)) (HDR.out.trans (show Chg [] w3.drew _ from hW)); go_simp) ?_
        refine flow_move_out plainT_ok rfl rfl rfl ?_
        refine flow_callv (.int .i64 b0) (by kernel_rfl) rfl (.cons (.inn rfl) .nil) (fun V hV => (HCB.out V (HDR.out.trans (show Chg [] w3.drew _ from hV))).mono fun e w' hb => ⟨hb.1, by rw [plain_by]; exact hb.2⟩) ?_
        refine flow2 (r := .int .i64 (h - b0)) plainT_ok rfl (.inn rfl) (.inn rfl) rfl (fun ev W he e1 e2 => by have hw : IntKind.i64.wrap (h - b0) = h - b0 := IntWalk.i64_in _ (by omega); go_simp) ?_
        refine flow_move_out plainT_ok rfl rfl rfl ?_
        refine flow2 (r := .bool false) plainT_ok rfl (.inn rfl) (.inn rfl) rfl (fun ev W he e1 e2 => by go_simp) ?_
        refine flow_move plainT_ok rfl (keeps_isV _) (.inr (keeps_isV _)) rfl ?_
        refine flow_move_out plainT_ok rfl rfl rfl ?_
        refine flow1 (r := .pointer (some ⟨g, 0, none⟩)) plainT_ok rfl (.inn rfl) rfl (fun ev W he e1 => by go_simp) ?_
        refine flow1 (r := .pointer (some ⟨g, 0, none⟩)) plainT_ok rfl (.inn rfl) rfl (fun ev W he e1 => by go_simp) ?_
        refine flow1h (r := .int .i64 h) plainT_ok rfl (.inn rfl) rfl (fun ev W he hW e1 => by have c0 := cell_keep (by simpa using c3 : w3.cell? ⟨g, 0, none⟩ = some (.int .i64 h)) (HDR.out.trans (show Chg [] w3.drew _ from hW)); go_simp) ?_
        refine flow_move_out plainT_ok rfl rfl rfl ?_
        refine flow2 (r := .int .i64 (h - p)) plainT_ok rfl (.inn rfl) (.inn rfl) rfl (fun ev W he e1 e2 => by have hw : IntKind.i64.wrap (h - p) = h - p := IntWalk.i64_in _ (by omega); go_simp) ?_
        refine flow_move_out plainT_ok rfl rfl rfl ?_
        refine flow2 (r := .int .i64 (h - p + q)) plainT_ok rfl (.inn rfl) (.inn rfl) rfl (fun ev W he e1 e2 => by have hw : IntKind.i64.wrap (h - p + q) = h - p + q := IntWalk.i64_in _ (by omega); go_simp) ?_
        refine flow2 (r := .bool true) plainT_ok rfl (.inn rfl) (.const _) rfl (fun ev W he e1 e2 => by go_simp) ?_
        refine flow_or_false plainT_ok rfl rfl rfl ?_
        intro vs V hV hG
        obtain e60 : vs 60 = .bool true := hG 60 _ rfl (by kernel_rfl)
        have hV' : Chg [] w3 V := HDR.out.trans (show Chg [] w3.drew _ from hV)
        have HS4 := Lib.hid (HS3.out.keep hV')
        have HT4 := Lib.hid (HT3.out.keep hV')
        have HC4 := Lib.hid (HC3.out.new hV')
        simp only [putAll, Act.put, List.setIfInBounds_toArray, List.set_cons_zero, List.set_cons_succ, e60]
        clear hG hV hV' e60 c3 HCB
        have HP := Lib.hid (show WPost W g R (.returned (.int .i64 14)) V from ⟨Fr.of_chg HC4.out, by rw [HRE.out], fun hh => by rw [HRE.out] at hh; exact absurd hh (by simp)⟩)
        go_wp2_with fail
        go_ret
        exact HP.out
      · have qbig : decide (64 < h - p + q) = false := by simpa using hbig
        have HRE := Lib.hid (HR2.out.trans (if_neg (by omega)))
        have hlo : 0 ≤ h - p + q := by omega
        have hhi : h - p + q ≤ 64 := by omega
        refine wp_flow (by kernel_rfl) plainT plainT_ok (by kernel_rfl) ?_
        refine flow_move_out plainT_ok rfl rfl rfl ?_
        refine flow1 (r := .pointer (some ⟨g, 0, none⟩)) plainT_ok rfl (.inn rfl) rfl (fun ev W he e1 => by go_simp) ?_
        refine flow1 (r := .pointer (some ⟨g, 0, none⟩)) plainT_ok rfl (.inn rfl) rfl (fun ev W he e1 => by go_simp) ?_
        refine flow1h (r := .int .i64 h) plainT_ok rfl (.inn rfl) rfl (fun ev W he hW e1 => by have c0 := cell_keep (by simpa using c3 : w3.cell? ⟨g, 0, none⟩ = some (.int .i64 h)) (HDR.out.trans (show Chg [] w3.drew _ from hW)); go_simp) ?_
        refine flow_move_out plainT_ok rfl rfl rfl ?_
        refine flow_callv (.int .i64 b0) (by kernel_rfl) rfl (.cons (.inn rfl) .nil) (fun V hV => (HCB.out V (HDR.out.trans (show Chg [] w3.drew _ from hV))).mono fun e w' hb => ⟨hb.1, by rw [plain_by]; exact hb.2⟩) ?_
        refine flow2 (r := .int .i64 (h - b0)) plainT_ok rfl (.inn rfl) (.inn rfl) rfl (fun ev W he e1 e2 => by have hw : IntKind.i64.wrap (h - b0) = h - b0 := IntWalk.i64_in _ (by omega); go_simp) ?_
        refine flow_move_out plainT_ok rfl rfl rfl ?_
        refine flow2 (r := .bool false) plainT_ok rfl (.inn rfl) (.inn rfl) rfl (fun ev W he e1 e2 => by go_simp) ?_
        refine flow_move plainT_ok rfl (keeps_isV _) (.inr (keeps_isV _)) rfl ?_
        refine flow_move_out plainT_ok rfl rfl rfl ?_
        refine flow1 (r := .pointer (some ⟨g, 0, none⟩)) plainT_ok rfl (.inn rfl) rfl (fun ev W he e1 => by go_simp) ?_
        refine flow1 (r := .pointer (some ⟨g, 0, none⟩)) plainT_ok rfl (.inn rfl) rfl (fun ev W he e1 => by go_simp) ?_
        refine flow1h (r := .int .i64 h) plainT_ok rfl (.inn rfl) rfl (fun ev W he hW e1 => by have c0 := cell_keep (by simpa using c3 : w3.cell? ⟨g, 0, none⟩ = some (.int .i64 h)) (HDR.out.trans (show Chg [] w3.drew _ from hW)); go_simp) ?_
        refine flow_move_out plainT_ok rfl rfl rfl ?_
        refine flow2 (r := .int .i64 (h - p)) plainT_ok rfl (.inn rfl) (.inn rfl) rfl (fun ev W he e1 e2 => by have hw : IntKind.i64.wrap (h - p) = h - p := IntWalk.i64_in _ (by omega); go_simp) ?_
        refine flow_move_out plainT_ok rfl rfl rfl ?_
        refine flow2 (r := .int .i64 (h - p + q)) plainT_ok rfl (.inn rfl) (.inn rfl) rfl (fun ev W he e1 e2 => by have hw : IntKind.i64.wrap (h - p + q) = h - p + q := IntWalk.i64_in _ (by omega); go_simp) ?_
        refine flow2 (r := .bool false) plainT_ok rfl (.inn rfl) (.const _) rfl (fun ev W he e1 e2 => by go_simp) ?_
        refine flow_or_false plainT_ok rfl rfl rfl ?_
        intro vs V hV hG
        obtain e60 : vs 60 = .bool false := hG 60 _ rfl (by kernel_rfl)
        have hV' : Chg [] w3 V := HDR.out.trans (show Chg [] w3.drew _ from hV)
        have HS4 := Lib.hid (HS3.out.keep hV')
        have HT4 := Lib.hid (HT3.out.keep hV')
        have HC4 := Lib.hid (HC3.out.new hV')
        simp only [putAll, Act.put, List.setIfInBounds_toArray, List.set_cons_zero, List.set_cons_succ, e60]
        clear hG hV hV' e60 c3 HCB
        have c0 := HS4.out.rec_.cell 0
        have f0 := HS4.out.rec_.frozen 0
        have he5 : h + (q - p) = h - p + q := by omega
        have HE5 := Lib.hid he5
        clear he5
        go_upto_region 11 with fail
        rw [HE5.out]
        generalize h - p + q = h5 at *
        have HS5 := Lib.hid (HS4.out.high h5 (by omega))
        have HT5 := Lib.hid (HT4.out.far (p := ⟨g, 0, none⟩) (by have := HGU.out; simp only; omega) (.int .i64 h5))
        generalize V.setCell ⟨g, 0, none⟩ (.int .i64 h5) = w5 at HS5 HT5 ⊢
        clear c0 f0 hlow hbig qlow qbig HR2
        have t0 := HT5.out.cell 0
        have HTC := Lib.hid (wturn_any HS5.out.1 r HTOP.out (fun _ => ⟨hlo, hfew⟩))
        rw [← HRE.out] at HTC
        go_wp2_with fail
        refine HTC.out.mono ?_
        obtain ⟨er, rh, rb⟩ := R
        rintro e w9 ⟨hf9, rfl, hw9⟩
        have HP := Lib.hid (show WPost W g (er, rh, rb) (.returned (.int .i64 er)) w9 from ⟨((Fr.of_chg HC4.out).trans HS5.out.2).trans hf9, rfl, hw9⟩)
        clear hf9 hw9
        go_wp2_with fail
        go_ret
        exact HP.out
end
end Go.Proofs.Ytnohfdojcdhfoaa
namespace Go.Proofs.Ytnohfdojcdhfoaa
open Go.RowKit
section
variable {W W' : World} {gs B : Nat} {h : Int} {vo : Value} {bs : List BkV}
/-- Yes or no, and what lies there then. -/
def StPost (gs B : Nat) (vo : Value) (R : Bool × Int × List BkV) (W : World) (e : Ending) (w' : World) : Prop :=
  ∃ vo', e = .returned (.bool R.1) ∧ St w' gs B R.2.1 vo' R.2.2 ∧ Chg (stT gs vo) W w' ∧ (vo'.ownBlock = vo.ownBlock ∨ ∃ g, vo'.ownBlock = some g ∧ W.heap.size ≤ g)
theorem st_ok {w' : World} {R : Bool × Int × List BkV} (b : Bool) (h' : Int) (vo' : Value) (bs' : List BkV) (hR : R = (b, h', bs')) (hS : St w' gs B h' vo' bs') (hC : Chg (stT gs vo) W w') (hO : vo'.ownBlock = vo.ownBlock ∨ ∃ g, vo'.ownBlock = some g ∧ W.heap.size ≤ g) : StPost gs B vo R W (.returned (.bool b)) w' := by subst hR; exact ⟨vo', rfl, hS, hC, hO⟩
theorem st_in (gs : Nat) (vo : Value) : gs ∈ stT gs vo := List.mem_cons_self ..
theorem st_in2 (gs g c q : Nat) : g ∈ stT gs (.slice (some ⟨g, 0, none⟩) q c) := by simp [stT, Value.ownBlock]
set_option maxHeartbeats 2000000 in
set_option maxRecDepth 100000 in
theorem leave_any (s : St W gs B h vo bs) : Calls Try.prog 98 #[.pointer (some ⟨gs, 0, none⟩)] W (StPost gs B vo (rLeave h bs bs.length) W) := by
  obtain ⟨A, c, hvo, _, _, _⟩ := s.slice
  have S := Lib.hid s
  have hf := s.few
  have c0 := s.rec_.cell 0
  have c1 := s.rec_.cell 1
  rw [hvo] at c1
  have HV := Lib.hid hvo
  obtain ⟨m, hm⟩ : ∃ m, m = bs.length := ⟨_, rfl⟩
  obtain ⟨R, hR⟩ : ∃ R, R = rLeave h bs bs.length := ⟨_, rfl⟩
  rw [← hR]
  rw [← hm] at c1 hf hR
  have HM := Lib.hid hm
  have HR0 := Lib.hid hR
  clear hR
  obtain ⟨i0, hsub, hi0, hi1⟩ : ∃ i0 : Int, IntKind.i64.wrap ((m : Int) - 1) = i0 ∧ -1 ≤ i0 ∧ i0 < (m : Int) := ⟨(m : Int) - 1, IntWalk.i64_in _ (by omega), by omega, by omega⟩
  have HI0 := Lib.hid (show R = rLeave h bs (i0 + 1).toNat from by rw [HR0.out]; congr 1; have : IntKind.i64.wrap ((m : Int) - 1) = (m : Int) - 1 := IntWalk.i64_in _ (by omega); omega)
  clear s hvo hm
  go_enter Try.func98, Try.ntmps98
  go_wp2_with fail
  go_loopw [3] (fun i wr => ∃ k : Int, i = .int .i64 k ∧ -1 ≤ k ∧ k < (m : Int) ∧ Hid (R = rLeave h bs (k + 1).toNat) ∧ wr = W) (fun i _ => ((intOf i) + 1).toNat)
  case atStart => exact ⟨i0, rfl, hi0, hi1, HI0, rfl⟩
  case round =>
    obtain ⟨k, rfl, hk0, hk1, HRK, hwr⟩ := hrel
    subst hwr
    by_cases hk : 0 ≤ k
    · obtain ⟨q, rfl⟩ : ∃ q : Nat, k = (q : Int) := ⟨k.toNat, by omega⟩
      have hqm : q < m := by omega
      obtain ⟨x, hx⟩ : ∃ x, bs[q]? = some x := ⟨bs[q]'(by rw [← HM.out]; exact hqm), by simp⟩
      have HRQ := Lib.hid (show R = if x.sign = 91 then (h == x.base, -1, bs.set q ⟨x.sign, x.base, x.other, true⟩) else rLeave h bs q from by rw [HRK.out, show ((q : Int) + 1).toNat = q + 1 from by omega, rLeave, hx])
      obtain ⟨g, c', hvo, hg, j0, j1, j2, j3⟩ := S.out.cell hx
      have hvo2 := HV.out
      rw [hvo] at hvo2
      injection hvo2 with e1 e2 e3
      subst e1; subst e3
      clear hvo e2 j1 j2
      by_cases h91 : x.sign = 91
      · have q1 : (x.sign == 91) = true := by simpa using h91
        have f3 : wr.frozen? ⟨g, q * 4 + 3, none⟩ = false := rown_frozen (by have := S.out.own; rw [HV.out] at this; rw [← HM.out] at this; exact this)
        have HRE := Lib.hid (show R = (h == x.base, -1, bs.set q ⟨x.sign, x.base, x.other, true⟩) from by rw [HRQ.out, if_pos h91])
        clear h91
        go_upto_region 6 with fail
        have S5 := Lib.hid (S.out.poke (i := q) (j := 3) (x := x) (y := ⟨x.sign, x.base, x.other, true⟩) (u := .bool true) HV.out hx (by omega) rfl (S.out.wf x (List.mem_of_getElem? hx)))
        have hx5 : (bs.set q ⟨x.sign, x.base, x.other, true⟩)[q]? = some ⟨x.sign, x.base, x.other, true⟩ := by
          rw [List.getElem?_set_self (by rw [← HM.out]; exact hqm)]
        have HM5 := Lib.hid (show (bs.set q ⟨x.sign, x.base, x.other, true⟩).length = m by rw [List.length_set]; exact HM.out.symm)
        have HC5 := Lib.hid (show Chg (stT gs vo) wr (wr.setCell ⟨g, q * 4 + 3, none⟩ (.bool true)) from ((Chg.refl [] wr).sub (by simp)).setCell (fun _ => by rw [HV.out]; exact st_in2 gs g _ _) _)
        clear hx j0 j3 c0 c1 f3
        generalize bs.set q ⟨x.sign, x.base, x.other, true⟩ = bs5 at S5 hx5 HM5 HRE
        generalize wr.setCell ⟨g, q * 4 + 3, none⟩ (.bool true) = w5 at S5 HC5 ⊢
        have c0 := S5.out.rec_.cell 0
        have c1 := S5.out.rec_.cell 1
        rw [HV.out, ← HM.out] at c1
        have f0 := S5.out.rec_.frozen 0
        obtain ⟨g', c', hvo, hg, j0, j1, j2, j3⟩ := S5.out.cell hx5
        have hvo2 := HV.out
        rw [hvo] at hvo2
        injection hvo2 with e1 e2 e3
        injection e1 with e1; injection e1 with e1
        subst e1; subst e3
        clear hvo e2 hx5 j0 j2 j3
        go_quiet (fail)
        have S6 := Lib.hid (S5.out.keep ((Chg.refl [] w5).drewN nq))
        have HC6 := Lib.hid (HC5.out.drewN nq)
        have S7 := Lib.hid (S6.out.high (-1) (by omega))
        have HC7 := Lib.hid (HC6.out.setCell (p := ⟨gs, 0, none⟩) (fun _ => st_in gs vo) (.int .i64 (-1)))
        clear c0 c1 f0 j1
        have c0 := S6.out.rec_.cell 0
        have f0 := S6.out.rec_.frozen 0
        have HP := Lib.hid (show StPost gs B vo R wr (.returned (.bool (h == x.base))) ((w5.drewN nq).setCell ⟨gs, 0, none⟩ (.int .i64 (-1))) from st_ok _ _ vo bs5 HRE.out S7.out HC7.out (.inl rfl))
        go_wp2_with fail
        go_ret
        exact HP.out
      · have q1 : (x.sign == 91) = false := by simpa using h91
        have HRE := Lib.hid (show R = rLeave h bs ((q : Int) - 1 + 1).toNat from by rw [HRQ.out, if_neg h91]; congr 1; omega)
        clear h91
        go_wp2_with fail
        go_roundw
        case rel => exact ⟨(q : Int) - 1, by go_num, by omega, by omega, HRE, by first | rfl | trivial⟩
        case measure => simp [intOf]
    · obtain rfl : k = -1 := by omega
      have HP := Lib.hid (show StPost gs B vo R wr (.returned (.bool false)) wr from st_ok false h vo bs (HRK.out.trans rfl) S.out ((Chg.refl [] wr).sub (by simp)) (.inl rfl))
      go_wp2_with fail
      go_ret
      exact HP.out
end
end Go.Proofs.Ytnohfdojcdhfoaa
namespace Go.Proofs.Ytnohfdojcdhfoaa
open Go.RowKit
section
variable {W W' : World} {gs B : Nat} {h : Int} {vo : Value} {ys : List BkV} {x : BkV}
theorem St.poke_last {y : BkV} {u : Value} {g c m q j : Nat} (s : St W gs B h vo (ys ++ [x])) (hv : vo = .slice (some ⟨g, 0, none⟩) m c) (hq : ys.length = q) (hj : j < 4) (hu : (bkC x).set j u = bkC y) (hy : 0 ≤ y.base ∧ y.base ≤ 64 ∧ -1 ≤ y.other ∧ y.other ≤ 64) :
    St (W.setCell ⟨g, q * 4 + j, none⟩ u) gs B h vo (ys ++ [y]) := by
  have h1 := s.poke (i := ys.length) (x := x) hv (by simp) hj hu hy
  rw [hq] at h1
  have e : (ys ++ [x]).set q y = ys ++ [y] := by rw [← hq]; simp
  rwa [e] at h1
theorem st_in3 {g c m : Nat} (hv : vo = .slice (some ⟨g, 0, none⟩) m c) : g ∈ stT gs vo := by rw [hv]; exact st_in2 gs g c m
theorem rEnds_half (h : Int) (ys : List BkV) (x : BkV) : rEnds h ys x 58 = (true, x.base, ys ++ [⟨58, x.base, h, x.left⟩]) := rfl
theorem rEnds_pop {r : Int} (hr : r ≠ 58) (h : Int) (ys : List BkV) (x : BkV) : rEnds h ys x r = if x.sign = 58 then (if 0 ≤ x.other ∧ 0 ≤ h ∧ x.other ≠ h then (false, h, ys) else (true, max h x.other, ys))
  else if 0 ≤ h ∧ h ≠ x.base then (false, h, ys) else (true, (if x.sign = 91 ∧ x.left = false then -1 else x.base), ys) := by unfold rEnds; rw [if_neg hr]
set_option maxHeartbeats 4000000 in
set_option maxRecDepth 100000 in
theorem ends_half (s : St W gs B h vo (ys ++ [x])) : Calls Try.prog 96 #[.pointer (some ⟨gs, 0, none⟩), .int .i32 58] W (StPost gs B vo (rEnds h ys x 58) W) := by
  obtain ⟨g, c, hvo, hg, j0, j1, j2, j3⟩ := s.cell (i := ys.length) (x := x) (by simp)
  have hl : (ys ++ [x]).length = ys.length + 1 := by simp
  have S := Lib.hid s
  have HV := Lib.hid hvo
  have c0 := s.rec_.cell 0
  have c1 := s.rec_.cell 1
  rw [hvo, hl] at c1
  have f0 := s.rec_.frozen 0
  have hwf := s.wf x (by simp)
  have hf := s.few
  rw [hl] at hf
  have hF : ∀ j, W.frozen? ⟨g, j, none⟩ = false := fun j => rown_frozen (by have := s.own; rw [hvo] at this; exact this)
  have g0 := hF (ys.length * 4)
  have g2 := hF (ys.length * 4 + 2)
  have hlt : gs ≠ g := by have := s.lo; omega
  clear hvo s hF
  obtain ⟨hw0, hw1, hw2, hw3⟩ := hwf
  clear hl
  generalize hq : ys.length = q at *
  have HQ := Lib.hid hq
  clear hq
  have hsub : IntKind.i64.wrap (((q + 1 : Nat) : Int) - 1) = (q : Int) := by rw [IntWalk.i64_in _ (by omega)]; omega
  have hq0 : (0 : Int) ≤ (q : Int) := by omega
  have hq1 : (q : Int) < ((q + 1 : Nat) : Int) := by omega
  go_enter Try.func96, Try.ntmps96
  go_wp2_with fail
  go_quiet (fail)
  have HD := Lib.hid ((Chg.refl [] W).drewN nq)
  have S1 := Lib.hid (S.out.keep HD.out)
  have j0' := cell_keep j0 HD.out
  have j1' := cell_keep j1 HD.out
  have j2' := cell_keep j2 HD.out
  have c0' := cell_keep c0 HD.out
  clear j0 j1 j2 j3 c0 c1 f0 g0 g2
  have f0 := S1.out.rec_.frozen 0
  have hF : ∀ j, (W.drewN nq).frozen? ⟨g, j, none⟩ = false := fun j => rown_frozen (by have := S1.out.own; rw [HV.out] at this; exact this)
  have g0 := hF (q * 4)
  have g2 := hF (q * 4 + 2)
  clear hF
  generalize W.drewN nq = w1 at HD S1 j0' j1' j2' c0' f0 g0 g2 ⊢
  go_wp2_with fail
  go_region
  have hst := S1.out.hr
  have S2 := S1.out.poke_last (j := 0) (y := ⟨58, x.base, x.other, x.left⟩) (u := .int .i32 58) HV.out HQ.out (by omega) rfl ⟨hw0, hw1, hw2, hw3⟩
  have S3 := S2.poke_last (j := 2) (y := ⟨58, x.base, h, x.left⟩) (u := .int .i64 h) HV.out HQ.out (by omega) rfl ⟨hw0, hw1, hst⟩
  have S4 := (S3.high x.base ⟨by omega, hw1⟩).keep ((Chg.refl [] _).drew)
  have HC4 := ((((HD.out.sub (T' := stT gs vo) (by simp)).setCell (p := ⟨g, q * 4, none⟩) (fun _ => st_in3 HV.out) (.int .i32 58)).setCell (p := ⟨g, q * 4 + 2, none⟩) (fun _ => st_in3 HV.out) (.int .i64 h)).setCell (p := ⟨gs, 0, none⟩) (fun _ => st_in gs vo) (.int .i64 x.base)).drew
  have HP := Lib.hid (show StPost gs B vo (rEnds h ys x 58) W (.returned (.bool true)) _ from st_ok true _ vo _ (rEnds_half h ys x) S4 HC4 (.inl rfl))
  clear S2 S3 S4 HC4
  go_wp2_with fail
  go_ret
  exact HP.out
set_option maxHeartbeats 4000000 in
set_option maxRecDepth 100000 in
theorem ends_pop (s : St W gs B h vo (ys ++ [x])) (r : Int) (hr : r ≠ 58) : Calls Try.prog 96 #[.pointer (some ⟨gs, 0, none⟩), .int .i32 r] W (StPost gs B vo (rEnds h ys x r) W) := by
  obtain ⟨R, hR⟩ : ∃ R, R = rEnds h ys x r := ⟨_, rfl⟩
  rw [← hR]
  rw [rEnds_pop hr] at hR
  have HR := Lib.hid hR
  clear hR
  obtain ⟨g, c, hvo, hg, j0, j1, j2, j3⟩ := s.cell (i := ys.length) (x := x) (by simp)
  have hl : (ys ++ [x]).length = ys.length + 1 := by simp
  have S := Lib.hid s
  have HV := Lib.hid hvo
  have c0 := s.rec_.cell 0
  have c1 := s.rec_.cell 1
  rw [hvo, hl] at c1
  have hwf := s.wf x (by simp)
  have hf := s.few
  rw [hl] at hf
  have hlt : gs ≠ g := by have := s.lo; omega
  have hst := s.hr
  have hcap : ys.length + 1 ≤ c ∧ c ≤ 9223372036854775807 := by
    obtain ⟨A', c', e, h1, h2, _⟩ := s.slice
    rw [hvo] at e
    injection e with _ _ e
    subst e
    rw [hl] at h1
    exact ⟨h1, h2⟩
  clear hvo s
  obtain ⟨hw0, hw1, hw2, hw3⟩ := hwf
  obtain ⟨hc1, hc2⟩ := hcap
  clear hl
  generalize hq : ys.length = q at *
  have HQ := Lib.hid hq
  clear hq
  have hsub : IntKind.i64.wrap (((q + 1 : Nat) : Int) - 1) = (q : Int) := by rw [IntWalk.i64_in _ (by omega)]; omega
  have hq0 : (0 : Int) ≤ (q : Int) := by omega
  have hq1 : (q : Int) < ((q + 1 : Nat) : Int) := by omega
  have hqc : (q : Int) ≤ (c : Int) := by omega
  have hrb : (r == 58) = false := by simpa using hr
  go_enter Try.func96, Try.ntmps96
  go_wp2_with fail
  go_quiet (fail)
  have HD := Lib.hid ((Chg.refl [] W).drewN nq)
  have S1 := Lib.hid (S.out.keep HD.out)
  have c1' := cell_keep c1 HD.out
  clear j0 j1 j2 j3 c0 c1
  have f1 := S1.out.rec_.frozen 1
  generalize W.drewN nq = w1 at HD S1 c1' f1 ⊢
  go_upto_region 5 with fail
  go_region
  obtain ⟨l0, l1, l2, l3⟩ : w1.cell? ⟨g, q * 4, none⟩ = some (.int .i32 x.sign) ∧ w1.cell? ⟨g, q * 4 + 1, none⟩ = some (.int .i64 x.base) ∧ w1.cell? ⟨g, q * 4 + 2, none⟩ = some (.int .i64 x.other) ∧ w1.cell? ⟨g, q * 4 + 3, none⟩ = some (.bool x.left) := by
    obtain ⟨g', c', e, _, l0, l1, l2, l3⟩ := S1.out.cell (i := ys.length) (x := x) (by simp)
    rw [HV.out] at e
    injection e with e; injection e with e; injection e with e
    subst e
    rw [HQ.out] at l0 l1 l2 l3
    exact ⟨l0, l1, l2, l3⟩
  have S5' := (S1.out.drop HV.out).keep ((Chg.refl [] _).drew)
  rw [HQ.out] at S5'
  have hc5 : Chg [gs] w1 (w1.setCell ⟨gs, 1, none⟩ (.slice (some ⟨g, 0, none⟩) q c)).drew := ((Chg.refl [gs] w1).setCell (p := ⟨gs, 1, none⟩) (by simp) _).drew
  have S5 := Lib.hid S5'
  have HC5 := Lib.hid (show Chg (stT gs vo) W _ from (HD.out.sub (T' := stT gs vo) (by simp)).trans (hc5.sub (by intro i hi; simp only [List.mem_cons, List.not_mem_nil, or_false] at hi; subst hi; exact st_in _ vo)))
  generalize (w1.setCell ⟨gs, 1, none⟩ (.slice (some ⟨g, 0, none⟩) q c)).drew = w5 at S5 S5' HC5 hc5 ⊢
  have hgl : g < w1.heap.size := block_lt_of_cell l0
  have k0 : w5.cell? ⟨g, q * 4, none⟩ = some (.int .i32 x.sign) := by rw [← l0]; exact World.cell?_of_block (w := w1) (hc5.block g hgl (by simp; omega))
  have k1 : w5.cell? ⟨g, q * 4 + 1, none⟩ = some (.int .i64 x.base) := by rw [← l1]; exact World.cell?_of_block (w := w1) (hc5.block g hgl (by simp; omega))
  have k2 : w5.cell? ⟨g, q * 4 + 2, none⟩ = some (.int .i64 x.other) := by rw [← l2]; exact World.cell?_of_block (w := w1) (hc5.block g hgl (by simp; omega))
  have k3 : w5.cell? ⟨g, q * 4 + 3, none⟩ = some (.bool x.left) := by rw [← l3]; exact World.cell?_of_block (w := w1) (hc5.block g hgl (by simp; omega))
  have c0 := S5'.rec_.cell 0
  have f0 := S5'.rec_.frozen 0
  have HOB := Lib.hid (show (Value.slice (some ⟨g, 0, none⟩) q c).ownBlock = vo.ownBlock by rw [HV.out]; rfl)
  clear S5' hc5 l0 l1 l2 l3 c1' f1 hgl
  generalize hvo5 : Value.slice (some ⟨g, 0, none⟩) q c = vo5 at S5 HOB
  clear hvo5
  by_cases h58 : x.sign = 58
  · have q58 : (x.sign == 58) = true := by simpa using h58
    have HR1 := Lib.hid (show R = if 0 ≤ x.other ∧ 0 ≤ h ∧ x.other ≠ h then (false, h, ys) else (true, max h x.other, ys) from by rw [HR.out, if_pos h58])
    clear h58
    go_upto_region 7 with fail
    by_cases ho : 0 ≤ x.other
    · have qo : decide (0 ≤ x.other) = true := by simpa using ho
      by_cases hh : 0 ≤ h
      · have qh : decide (0 ≤ h) = true := by simpa using hh
        by_cases hne : x.other = h
        · have HRM := Lib.hid (show R = (true, h, ys) from by rw [HR1.out, if_neg (by omega)]; congr 2; omega)
          have qn : (x.other != h) = false := by simpa using hne
          have qn2 : (x.other == h) = true := by simpa using hne
          go_quiet (fail)
          have S6 := Lib.hid (S5.out.keep ((Chg.refl [] w5).drewN nq))
          have HC6 := Lib.hid (HC5.out.drewN nq)
          have k0' := cell_keep k0 ((Chg.refl [] w5).drewN nq)
          have k1' := cell_keep k1 ((Chg.refl [] w5).drewN nq)
          have k2' := cell_keep k2 ((Chg.refl [] w5).drewN nq)
          have k3' := cell_keep k3 ((Chg.refl [] w5).drewN nq)
          clear k0 k1 k2 k3 c0 f0
          have c0 := S6.out.rec_.cell 0
          have f0 := S6.out.rec_.frozen 0
          generalize w5.drewN nq = w6 at S6 HC6 k0' k1' k2' k3' c0 f0 ⊢
          go_upto_region 9 with fail
          go_region
          have S7 := (S6.out.high h (by have := S6.out.hr; omega)).keep ((Chg.refl [] _).drew)
          have HC7 := (HC6.out.setCell (p := ⟨gs, 0, none⟩) (fun _ => st_in gs vo) (.int .i64 h)).drew
          have HP := Lib.hid (show StPost gs B vo R W (.returned (.bool true)) _ from st_ok true _ vo5 ys (HRM.out) S7 HC7 (.inl HOB.out))
          clear S7 HC7
          go_wp2_with fail
          go_ret
          exact HP.out
        · have HRM := Lib.hid (show R = (false, h, ys) from by rw [HR1.out, if_pos ⟨ho, hh, hne⟩])
          have qn : (x.other != h) = true := by simpa using hne
          have qn2 : (x.other == h) = false := by simpa using hne
          go_quiet (fail)
          have S6 := Lib.hid (S5.out.keep ((Chg.refl [] w5).drewN nq))
          have HC6 := Lib.hid (HC5.out.drewN nq)
          have k0' := cell_keep k0 ((Chg.refl [] w5).drewN nq)
          have k1' := cell_keep k1 ((Chg.refl [] w5).drewN nq)
          have k2' := cell_keep k2 ((Chg.refl [] w5).drewN nq)
          have k3' := cell_keep k3 ((Chg.refl [] w5).drewN nq)
          clear k0 k1 k2 k3 c0 f0
          have c0 := S6.out.rec_.cell 0
          have f0 := S6.out.rec_.frozen 0
          generalize w5.drewN nq = w6 at S6 HC6 k0' k1' k2' k3' c0 f0 ⊢
          have HP := Lib.hid (show StPost gs B vo R W (.returned (.bool false)) w6 from st_ok false h vo5 ys HRM.out S6.out HC6.out (.inl HOB.out))
          go_wp2_with fail
          go_ret
          exact HP.out
      · have qh : decide (0 ≤ h) = false := by simpa using hh
        have HRM := Lib.hid (show R = (true, max h x.other, ys) from by rw [HR1.out, if_neg (by omega)])
        go_quiet (fail)
        have S6 := Lib.hid (S5.out.keep ((Chg.refl [] w5).drewN nq))
        have HC6 := Lib.hid (HC5.out.drewN nq)
        have k0' := cell_keep k0 ((Chg.refl [] w5).drewN nq)
        have k1' := cell_keep k1 ((Chg.refl [] w5).drewN nq)
        have k2' := cell_keep k2 ((Chg.refl [] w5).drewN nq)
        have k3' := cell_keep k3 ((Chg.refl [] w5).drewN nq)
        clear k0 k1 k2 k3 c0 f0
        have c0 := S6.out.rec_.cell 0
        have f0 := S6.out.rec_.frozen 0
        generalize w5.drewN nq = w6 at S6 HC6 k0' k1' k2' k3' c0 f0 ⊢
        go_upto_region 9 with fail
        go_region
        have S7 := (S6.out.high (max h x.other) (by have := S6.out.hr; omega)).keep ((Chg.refl [] _).drew)
        have HC7 := (HC6.out.setCell (p := ⟨gs, 0, none⟩) (fun _ => st_in gs vo) (.int .i64 (max h x.other))).drew
        have HP := Lib.hid (show StPost gs B vo R W (.returned (.bool true)) _ from st_ok true _ vo5 ys (HRM.out) S7 HC7 (.inl HOB.out))
        clear S7 HC7
        go_wp2_with fail
        go_ret
        exact HP.out
    · have qo : decide (0 ≤ x.other) = false := by simpa using ho
      have HRM := Lib.hid (show R = (true, max h x.other, ys) from by rw [HR1.out, if_neg (by omega)])
      go_quiet (fail)
      have S6 := Lib.hid (S5.out.keep ((Chg.refl [] w5).drewN nq))
      have HC6 := Lib.hid (HC5.out.drewN nq)
      have k0' := cell_keep k0 ((Chg.refl [] w5).drewN nq)
      have k1' := cell_keep k1 ((Chg.refl [] w5).drewN nq)
      have k2' := cell_keep k2 ((Chg.refl [] w5).drewN nq)
      have k3' := cell_keep k3 ((Chg.refl [] w5).drewN nq)
      clear k0 k1 k2 k3 c0 f0
      have c0 := S6.out.rec_.cell 0
      have f0 := S6.out.rec_.frozen 0
      generalize w5.drewN nq = w6 at S6 HC6 k0' k1' k2' k3' c0 f0 ⊢
      go_upto_region 9 with fail
      go_region
      have S7 := (S6.out.high (max h x.other) (by have := S6.out.hr; omega)).keep ((Chg.refl [] _).drew)
      have HC7 := (HC6.out.setCell (p := ⟨gs, 0, none⟩) (fun _ => st_in gs vo) (.int .i64 (max h x.other))).drew
      have HP := Lib.hid (show StPost gs B vo R W (.returned (.bool true)) _ from st_ok true _ vo5 ys (HRM.out) S7 HC7 (.inl HOB.out))
      clear S7 HC7
      go_wp2_with fail
      go_ret
      exact HP.out
  · have q58 : (x.sign == 58) = false := by simpa using h58
    have HR1 := Lib.hid (show R = if 0 ≤ h ∧ h ≠ x.base then (false, h, ys) else (true, (if x.sign = 91 ∧ x.left = false then -1 else x.base), ys) from by rw [HR.out, if_neg h58])
    clear h58
    go_upto_region 11 with fail
    by_cases hh : 0 ≤ h
    · have qh : decide (0 ≤ h) = true := by simpa using hh
      by_cases hne : h = x.base
      · have HRN := Lib.hid (show R = (true, (if x.sign = 91 ∧ x.left = false then -1 else x.base), ys) from by rw [HR1.out, if_neg (by omega)])
        have qn : (h != x.base) = false := by simpa using hne
        have qn2 : (h == x.base) = true := by simpa using hne
        go_quiet (fail)
        have S6 := Lib.hid (S5.out.keep ((Chg.refl [] w5).drewN nq))
        have HC6 := Lib.hid (HC5.out.drewN nq)
        have k0' := cell_keep k0 ((Chg.refl [] w5).drewN nq)
        have k1' := cell_keep k1 ((Chg.refl [] w5).drewN nq)
        have k2' := cell_keep k2 ((Chg.refl [] w5).drewN nq)
        have k3' := cell_keep k3 ((Chg.refl [] w5).drewN nq)
        clear k0 k1 k2 k3 c0 f0
        have c0 := S6.out.rec_.cell 0
        have f0 := S6.out.rec_.frozen 0
        generalize w5.drewN nq = w6 at S6 HC6 k0' k1' k2' k3' c0 f0 ⊢
        go_upto_region 14 with fail
        have S7 := Lib.hid (S6.out.high x.base ⟨by omega, hw1⟩)
        have HC7 := Lib.hid (HC6.out.setCell (p := ⟨gs, 0, none⟩) (fun _ => st_in gs vo) (.int .i64 x.base))
        have m0 : (w6.setCell ⟨gs, 0, none⟩ (.int .i64 x.base)).cell? ⟨g, q * 4, none⟩ = some (.int .i32 x.sign) := by rw [← k0']; exact World.cell?_of_block (w := w6) (Below.heap_setCell w6 ⟨gs, 0, none⟩ _ g (Ne.symm hlt))
        have m3 : (w6.setCell ⟨gs, 0, none⟩ (.int .i64 x.base)).cell? ⟨g, q * 4 + 3, none⟩ = some (.bool x.left) := by rw [← k3']; exact World.cell?_of_block (w := w6) (Below.heap_setCell w6 ⟨gs, 0, none⟩ _ g (Ne.symm hlt))
        clear k0' k1' k2' k3' c0 f0
        generalize w6.setCell ⟨gs, 0, none⟩ (.int .i64 x.base) = w7 at S7 HC7 m0 m3 ⊢
        have f0 := S7.out.rec_.frozen 0
        have c0 := S7.out.rec_.cell 0
        have S8 := Lib.hid (S7.out.high (-1) (by omega))
        have HC8 := Lib.hid (HC7.out.setCell (p := ⟨gs, 0, none⟩) (fun _ => st_in gs vo) (.int .i64 (-1)))
        have HP1 := Lib.hid (fun (hn : ¬ (x.sign = 91 ∧ x.left = false)) => show StPost gs B vo R W (.returned (.bool true)) w7 from st_ok true _ vo5 ys (by rw [HRN.out, if_neg hn]) S7.out HC7.out (.inl HOB.out))
        have HP2 := Lib.hid (fun (hn : x.sign = 91 ∧ x.left = false) => show StPost gs B vo R W (.returned (.bool true)) (w7.setCell ⟨gs, 0, none⟩ (.int .i64 (-1))) from st_ok true _ vo5 ys (by rw [HRN.out, if_pos hn]) S8.out HC8.out (.inl HOB.out))
        by_cases h91 : x.sign = 91
        · have q91 : (x.sign == 91) = true := by simpa using h91
          cases hlf : x.left
          · have HPP := Lib.hid (HP2.out ⟨h91, hlf⟩)
            rw [hlf] at m3
            clear h91 hlf
            go_wp2_with fail
            go_ret
            exact HPP.out
          · have HPP := Lib.hid (HP1.out (by rw [hlf]; simp))
            rw [hlf] at m3
            clear h91 hlf
            go_wp2_with fail
            go_ret
            exact HPP.out
        · have q91 : (x.sign == 91) = false := by simpa using h91
          have HPP := Lib.hid (HP1.out (fun hn => h91 hn.1))
          clear h91
          go_wp2_with fail
          go_ret
          exact HPP.out
      · have HRM := Lib.hid (show R = (false, h, ys) from by rw [HR1.out, if_pos ⟨hh, hne⟩])
        have qn : (h != x.base) = true := by simpa using hne
        have qn2 : (h == x.base) = false := by simpa using hne
        go_quiet (fail)
        have S6 := Lib.hid (S5.out.keep ((Chg.refl [] w5).drewN nq))
        have HC6 := Lib.hid (HC5.out.drewN nq)
        have k0' := cell_keep k0 ((Chg.refl [] w5).drewN nq)
        have k1' := cell_keep k1 ((Chg.refl [] w5).drewN nq)
        have k2' := cell_keep k2 ((Chg.refl [] w5).drewN nq)
        have k3' := cell_keep k3 ((Chg.refl [] w5).drewN nq)
        clear k0 k1 k2 k3 c0 f0
        have c0 := S6.out.rec_.cell 0
        have f0 := S6.out.rec_.frozen 0
        generalize w5.drewN nq = w6 at S6 HC6 k0' k1' k2' k3' c0 f0 ⊢
        have HP := Lib.hid (show StPost gs B vo R W (.returned (.bool false)) w6 from st_ok false h vo5 ys HRM.out S6.out HC6.out (.inl HOB.out))
        go_wp2_with fail
        go_ret
        exact HP.out
    · have qh : decide (0 ≤ h) = false := by simpa using hh
      have HRN := Lib.hid (show R = (true, (if x.sign = 91 ∧ x.left = false then -1 else x.base), ys) from by rw [HR1.out, if_neg (by omega)])
      go_quiet (fail)
      have S6 := Lib.hid (S5.out.keep ((Chg.refl [] w5).drewN nq))
      have HC6 := Lib.hid (HC5.out.drewN nq)
      have k0' := cell_keep k0 ((Chg.refl [] w5).drewN nq)
      have k1' := cell_keep k1 ((Chg.refl [] w5).drewN nq)
      have k2' := cell_keep k2 ((Chg.refl [] w5).drewN nq)
      have k3' := cell_keep k3 ((Chg.refl [] w5).drewN nq)
      clear k0 k1 k2 k3 c0 f0
      have c0 := S6.out.rec_.cell 0
      have f0 := S6.out.rec_.frozen 0
      generalize w5.drewN nq = w6 at S6 HC6 k0' k1' k2' k3' c0 f0 ⊢
      go_upto_region 14 with fail
      have S7 := Lib.hid (S6.out.high x.base ⟨by omega, hw1⟩)
      have HC7 := Lib.hid (HC6.out.setCell (p := ⟨gs, 0, none⟩) (fun _ => st_in gs vo) (.int .i64 x.base))
      have m0 : (w6.setCell ⟨gs, 0, none⟩ (.int .i64 x.base)).cell? ⟨g, q * 4, none⟩ = some (.int .i32 x.sign) := by rw [← k0']; exact World.cell?_of_block (w := w6) (Below.heap_setCell w6 ⟨gs, 0, none⟩ _ g (Ne.symm hlt))
      have m3 : (w6.setCell ⟨gs, 0, none⟩ (.int .i64 x.base)).cell? ⟨g, q * 4 + 3, none⟩ = some (.bool x.left) := by rw [← k3']; exact World.cell?_of_block (w := w6) (Below.heap_setCell w6 ⟨gs, 0, none⟩ _ g (Ne.symm hlt))
      clear k0' k1' k2' k3' c0 f0
      generalize w6.setCell ⟨gs, 0, none⟩ (.int .i64 x.base) = w7 at S7 HC7 m0 m3 ⊢
      have f0 := S7.out.rec_.frozen 0
      have c0 := S7.out.rec_.cell 0
      have S8 := Lib.hid (S7.out.high (-1) (by omega))
      have HC8 := Lib.hid (HC7.out.setCell (p := ⟨gs, 0, none⟩) (fun _ => st_in gs vo) (.int .i64 (-1)))
      have HP1 := Lib.hid (fun (hn : ¬ (x.sign = 91 ∧ x.left = false)) => show StPost gs B vo R W (.returned (.bool true)) w7 from st_ok true _ vo5 ys (by rw [HRN.out, if_neg hn]) S7.out HC7.out (.inl HOB.out))
      have HP2 := Lib.hid (fun (hn : x.sign = 91 ∧ x.left = false) => show StPost gs B vo R W (.returned (.bool true)) (w7.setCell ⟨gs, 0, none⟩ (.int .i64 (-1))) from st_ok true _ vo5 ys (by rw [HRN.out, if_pos hn]) S8.out HC8.out (.inl HOB.out))
      by_cases h91 : x.sign = 91
      · have q91 : (x.sign == 91) = true := by simpa using h91
        cases hlf : x.left
        · have HPP := Lib.hid (HP2.out ⟨h91, hlf⟩)
          rw [hlf] at m3
          clear h91 hlf
          go_wp2_with fail
          go_ret
          exact HPP.out
        · have HPP := Lib.hid (HP1.out (by rw [hlf]; simp))
          rw [hlf] at m3
          clear h91 hlf
          go_wp2_with fail
          go_ret
          exact HPP.out
      · have q91 : (x.sign == 91) = false := by simpa using h91
        have HPP := Lib.hid (HP1.out (fun hn => h91 hn.1))
        clear h91
        go_wp2_with fail
        go_ret
        exact HPP.out
end
end Go.Proofs.Ytnohfdojcdhfoaa
namespace Go.Proofs.Ytnohfdojcdhfoaa
open Go.RowKit
/-- No fault: the state behind. -/
def TkPost (gs B : Nat) (vo : Value) (R : Int × Int × List BkV) (W : World) (e : Ending) (w' : World) : Prop :=
  e = .returned (.int .i64 R.1) ∧ (R.1 = 0 → ∃ vo' : Value, St w' gs B R.2.1 vo' R.2.2) ∧ Chg (stT gs vo) W w'
section
variable {W W' W1 w' : World} {gs B : Nat} {h : Int} {vo : Value} {ys bs : List BkV} {x : BkV} {A : Option Addr} {n c : Nat} {l : List FnV} {pages most : Int}
theorem tk_no {R : Int × Int × List BkV} (er : Int) (hne : er ≠ 0) (hR : R.1 = er) (hC : Chg (stT gs vo) W W') : TkPost gs B vo R W (.returned (.int .i64 er)) W' := by
  subst hR
  exact ⟨rfl, fun h => absurd h hne, hC⟩
theorem tk_ok {R : Int × Int × List BkV} (h' : Int) (vo' : Value) (bs' : List BkV) (hR : R = (0, h', bs')) (hS : St W' gs B h' vo' bs') (hC : Chg (stT gs vo) W W') : TkPost gs B vo R W (.returned (.int .i64 0)) W' := by
  subst hR
  exact ⟨rfl, fun _ => ⟨vo', hS⟩, hC⟩
theorem rTok_end {s name : Int} (hs : isEnd s) : rTok l h (ys ++ [x]) s name = match rEnds h ys x s with | (true, h', bs') => (0, h', bs') | (false, h', bs') => (14, h', bs') := by
  unfold rTok
  rw [if_pos hs]
  simp only [List.getLast?_append, List.getLast?_singleton, Option.some_or, List.dropLast_concat] <;> rfl
theorem takes_end {s : Int} (hs : isEnd s) (name : Int) : rTakes l s name = (0, 0, true) := by
  rcases hs with rfl | rfl | rfl <;> rfl
theorem St.push {v' : Value} (s : St W gs B h vo bs) (hc : Chg [] W W1) (ho : w'.ownsRow B 153 4 v' (bs.length + 1) (bkCs bs ++ bkC x)) (hg : W1.grownBy w' vo.ownBlock)
    (hx : 0 ≤ x.base ∧ x.base ≤ 64 ∧ -1 ≤ x.other ∧ x.other ≤ 64) (hf : bs.length + 1 ≤ 1000) : St (w'.setCell ⟨gs, 1, none⟩ v') gs B h v' (bs ++ [x]) := by
  have h1 := s.keep hc
  have hr := whole_grown h1.rec_ h1.own (by decide) hg
  have haw : v'.ownBlock ≠ some gs := fun hcc => by have := (ho.lt gs hcc).1; have := s.lo; omega
  refine ⟨?_, ?_, s.lo, by simpa using hf, s.hr, fun b hb => ?_, by rw [size_set]; exact Nat.le_trans h1.room hg.size⟩
  · have := hr.set_ 1 v'
    simpa using this
  · rw [bkCs_app, bkCs_one, List.length_append, List.length_singleton]
    exact rown_far ho haw
  · rcases List.mem_append.1 hb with hb | hb
    · exact s.wf b hb
    · rw [List.mem_singleton] at hb; subst hb; exact hx
theorem Chg.of_push {A5 : Option Addr} {m k5 : Nat} {o : Obj} (hc : Chg (stT gs vo) W W1) (s : St W1 gs B h vo bs) (hv : vo = .slice A5 m k5) (hg : (W1.alloc o).drew.grownBy w' (Value.slice A5 m k5).ownBlock) : Chg (stT gs vo) W w' := by
  subst hv
  refine (hc.trans (((Chg.refl [] W1).alloc o).drew.sub (T' := stT gs (.slice A5 m k5)) (by simp))).trans (Chg.of_grown hg fun g hgg _ => ?_)
  simp [stT, hgg]
theorem info_block : (Try.prog.info? 153).map (fun i => (i.zero, i.size, i.bytes)) = some (some (.agg #[.int .i32 0, .int .i64 0, .int .i64 0, .bool false]), 4, 32) := by kernel_rfl
set_option maxHeartbeats 4000000 in
set_option maxRecDepth 100000 in
theorem token_ends (s : St W gs B h vo (ys ++ [x])) (hF : Fnr W A n c l) (t : TkV) (hr : isEnd t.sign) : Calls Try.prog 77 #[.pointer (some ⟨gs, 0, none⟩), unitV pages most A n c, .agg (tkC t).toArray] W (TkPost gs B vo (rTok l h (ys ++ [x]) t.sign t.name) W) := by
  unfold unitV
  obtain ⟨r, tn, nm⟩ := t
  simp only [tkC] at hr ⊢
  obtain ⟨R, hR⟩ : ∃ R, R = rTok l h (ys ++ [x]) r nm := ⟨_, rfl⟩
  rw [← hR]
  rw [rTok_end hr] at hR
  have HR := Lib.hid hR
  have HTE := Lib.hid (takes_end (l := l) hr nm)
  have S := Lib.hid s
  have HF := Lib.hid hF
  have hgs := s.rec_.lt
  clear s hF hR
  rcases hr with rfl | rfl | rfl
  · go_enter Try.func77, Try.ntmps77
    go_upto_region 1 with fail
    have hN := Whole.new W 31 [.int .i64 pages, .int .i64 most, .slice A n c]
    have hal : Chg [] W (W.alloc (.cells #[.int .i64 pages, .int .i64 most, .slice A n c] 31)) := (Chg.refl [] W).alloc _
    have hsz : (W.alloc (.cells #[.int .i64 pages, .int .i64 most, .slice A n c] 31)).heap.size = W.heap.size + 1 := Array.size_push _
    obtain ⟨w1, hw1⟩ : ∃ w1, w1 = W.alloc (.cells #[.int .i64 pages, .int .i64 most, .slice A n c] 31) := ⟨_, rfl⟩
    rw [← hw1] at hN hal hsz ⊢
    have hN2 := Whole.new w1 121 [.int .i32 58, .int .i64 tn, .int .i32 nm]
    have hal2 : Chg [] w1 (w1.alloc (.cells #[.int .i32 58, .int .i64 tn, .int .i32 nm] 121)) := (Chg.refl [] w1).alloc _
    rw [hsz] at hN2
    have hU2 := hN.keep hal2
    have hc := hal.trans hal2
    generalize w1.alloc (.cells #[.int .i32 58, .int .i64 tn, .int .i32 nm] 121) = w2 at hN2 hU2 hc ⊢
    have HF2 := Lib.hid (HF.out.keep hc)
    have S2 := Lib.hid (S.out.keep hc)
    skip
    generalize W.heap.size = g at hU2 hN2 ⊢
    have HC2 := Lib.hid (hc.sub (T' := stT gs vo) (by simp))
    have u0 := hU2.cell 0
    have u1 := hU2.cell 1
    have u2 := hU2.cell 2
    have t0 := hN2.cell 0
    have t1 := hN2.cell 1
    have t2 := hN2.cell 2
    have HT2 := Lib.hid hN2
    have c0 := S2.out.rec_.cell 0
    clear hN hal hsz hw1 hN2 hal2 hU2 hc
    by_cases hh : h < 0
    · have qh : decide (h < 0) = true := by simpa using hh
      clear hh
      go_wp2_with fail
      refine (takes_any HF2.out ⟨58, tn, nm⟩).mono ?_
      rintro e w3 ⟨he3, hc3⟩
      rw [HTE.out] at he3
      subst he3
      have S3 := Lib.hid (S2.out.keep hc3)
      have HC3 := Lib.hid (HC2.out.trans (hc3.sub (T' := stT gs vo) (by simp)))
      have t0' := (HT2.out.keep hc3).cell 0
      clear hc3 t0 t1 t2 u0 u1 u2 c0
      go_wp2_with fail
      refine (ends_half S3.out).mono ?_
      rintro e w4 ⟨vo4, rfl, hS4, hc4, _⟩
      have HSZ := Lib.hid HC3.out.size
      have HR1 := Lib.hid HR.out
      rcases hE : rEnds h ys x 58 with ⟨b4, h4, bs4⟩
      rw [hE] at hS4
      have HE := Lib.hid hE
      clear hE
      cases b4
      · have HP := Lib.hid (show TkPost gs B vo R W (.returned (.int .i64 14)) w4 from tk_no 14 (by decide) (by rw [HR.out, HE.out]) (HC3.out.trans hc4))
        clear hS4 hc4 t0'
        go_wp2_with fail
        go_ret
        exact HP.out
      · have HP := Lib.hid (show TkPost gs B vo R W (.returned (.int .i64 0)) w4 from tk_ok h4 vo4 bs4 (by rw [HR.out, HE.out]) hS4 (HC3.out.trans hc4))
        clear hS4 hc4 t0'
        go_wp2_with fail
        go_ret
        exact HP.out
    · have qh : decide (h < 0) = false := by simpa using hh
      clear hh
      go_wp2_with fail
      refine (takes_any HF2.out ⟨58, tn, nm⟩).mono ?_
      rintro e w3 ⟨he3, hc3⟩
      rw [HTE.out] at he3
      subst he3
      have S3 := Lib.hid (S2.out.keep hc3)
      have HC3 := Lib.hid (HC2.out.trans (hc3.sub (T' := stT gs vo) (by simp)))
      have t0' := (HT2.out.keep hc3).cell 0
      clear hc3 t0 t1 t2 u0 u1 u2 c0
      go_wp2_with fail
      refine (ends_half S3.out).mono ?_
      rintro e w4 ⟨vo4, rfl, hS4, hc4, _⟩
      have HSZ := Lib.hid HC3.out.size
      have HR1 := Lib.hid HR.out
      rcases hE : rEnds h ys x 58 with ⟨b4, h4, bs4⟩
      rw [hE] at hS4
      have HE := Lib.hid hE
      clear hE
      cases b4
      · have HP := Lib.hid (show TkPost gs B vo R W (.returned (.int .i64 14)) w4 from tk_no 14 (by decide) (by rw [HR.out, HE.out]) (HC3.out.trans hc4))
        clear hS4 hc4 t0'
        go_wp2_with fail
        go_ret
        exact HP.out
      · have HP := Lib.hid (show TkPost gs B vo R W (.returned (.int .i64 0)) w4 from tk_ok h4 vo4 bs4 (by rw [HR.out, HE.out]) hS4 (HC3.out.trans hc4))
        clear hS4 hc4 t0'
        go_wp2_with fail
        go_ret
        exact HP.out
  · go_enter Try.func77, Try.ntmps77
    go_upto_region 1 with fail
    have hN := Whole.new W 31 [.int .i64 pages, .int .i64 most, .slice A n c]
    have hal : Chg [] W (W.alloc (.cells #[.int .i64 pages, .int .i64 most, .slice A n c] 31)) := (Chg.refl [] W).alloc _
    have hsz : (W.alloc (.cells #[.int .i64 pages, .int .i64 most, .slice A n c] 31)).heap.size = W.heap.size + 1 := Array.size_push _
    obtain ⟨w1, hw1⟩ : ∃ w1, w1 = W.alloc (.cells #[.int .i64 pages, .int .i64 most, .slice A n c] 31) := ⟨_, rfl⟩
    rw [← hw1] at hN hal hsz ⊢
    have hN2 := Whole.new w1 121 [.int .i32 59, .int .i64 tn, .int .i32 nm]
    have hal2 : Chg [] w1 (w1.alloc (.cells #[.int .i32 59, .int .i64 tn, .int .i32 nm] 121)) := (Chg.refl [] w1).alloc _
    rw [hsz] at hN2
    have hU2 := hN.keep hal2
    have hc := hal.trans hal2
    generalize w1.alloc (.cells #[.int .i32 59, .int .i64 tn, .int .i32 nm] 121) = w2 at hN2 hU2 hc ⊢
    have HF2 := Lib.hid (HF.out.keep hc)
    have S2 := Lib.hid (S.out.keep hc)
    skip
    generalize W.heap.size = g at hU2 hN2 ⊢
    have HC2 := Lib.hid (hc.sub (T' := stT gs vo) (by simp))
    have u0 := hU2.cell 0
    have u1 := hU2.cell 1
    have u2 := hU2.cell 2
    have t0 := hN2.cell 0
    have t1 := hN2.cell 1
    have t2 := hN2.cell 2
    have HT2 := Lib.hid hN2
    have c0 := S2.out.rec_.cell 0
    clear hN hal hsz hw1 hN2 hal2 hU2 hc
    by_cases hh : h < 0
    · have qh : decide (h < 0) = true := by simpa using hh
      clear hh
      go_wp2_with fail
      refine (takes_any HF2.out ⟨59, tn, nm⟩).mono ?_
      rintro e w3 ⟨he3, hc3⟩
      rw [HTE.out] at he3
      subst he3
      have S3 := Lib.hid (S2.out.keep hc3)
      have HC3 := Lib.hid (HC2.out.trans (hc3.sub (T' := stT gs vo) (by simp)))
      have t0' := (HT2.out.keep hc3).cell 0
      clear hc3 t0 t1 t2 u0 u1 u2 c0
      go_wp2_with fail
      refine (ends_pop S3.out 59 (by decide)).mono ?_
      rintro e w4 ⟨vo4, rfl, hS4, hc4, _⟩
      have HSZ := Lib.hid HC3.out.size
      have HR1 := Lib.hid HR.out
      rcases hE : rEnds h ys x 59 with ⟨b4, h4, bs4⟩
      rw [hE] at hS4
      have HE := Lib.hid hE
      clear hE
      cases b4
      · have HP := Lib.hid (show TkPost gs B vo R W (.returned (.int .i64 14)) w4 from tk_no 14 (by decide) (by rw [HR.out, HE.out]) (HC3.out.trans hc4))
        clear hS4 hc4 t0'
        go_wp2_with fail
        go_ret
        exact HP.out
      · have HP := Lib.hid (show TkPost gs B vo R W (.returned (.int .i64 0)) w4 from tk_ok h4 vo4 bs4 (by rw [HR.out, HE.out]) hS4 (HC3.out.trans hc4))
        clear hS4 hc4 t0'
        go_wp2_with fail
        go_ret
        exact HP.out
    · have qh : decide (h < 0) = false := by simpa using hh
      clear hh
      go_wp2_with fail
      refine (takes_any HF2.out ⟨59, tn, nm⟩).mono ?_
      rintro e w3 ⟨he3, hc3⟩
      rw [HTE.out] at he3
      subst he3
      have S3 := Lib.hid (S2.out.keep hc3)
      have HC3 := Lib.hid (HC2.out.trans (hc3.sub (T' := stT gs vo) (by simp)))
      have t0' := (HT2.out.keep hc3).cell 0
      clear hc3 t0 t1 t2 u0 u1 u2 c0
      go_wp2_with fail
      refine (ends_pop S3.out 59 (by decide)).mono ?_
      rintro e w4 ⟨vo4, rfl, hS4, hc4, _⟩
      have HSZ := Lib.hid HC3.out.size
      have HR1 := Lib.hid HR.out
      rcases hE : rEnds h ys x 59 with ⟨b4, h4, bs4⟩
      rw [hE] at hS4
      have HE := Lib.hid hE
      clear hE
      cases b4
      · have HP := Lib.hid (show TkPost gs B vo R W (.returned (.int .i64 14)) w4 from tk_no 14 (by decide) (by rw [HR.out, HE.out]) (HC3.out.trans hc4))
        clear hS4 hc4 t0'
        go_wp2_with fail
        go_ret
        exact HP.out
      · have HP := Lib.hid (show TkPost gs B vo R W (.returned (.int .i64 0)) w4 from tk_ok h4 vo4 bs4 (by rw [HR.out, HE.out]) hS4 (HC3.out.trans hc4))
        clear hS4 hc4 t0'
        go_wp2_with fail
        go_ret
        exact HP.out
  · go_enter Try.func77, Try.ntmps77
    go_upto_region 1 with fail
    have hN := Whole.new W 31 [.int .i64 pages, .int .i64 most, .slice A n c]
    have hal : Chg [] W (W.alloc (.cells #[.int .i64 pages, .int .i64 most, .slice A n c] 31)) := (Chg.refl [] W).alloc _
    have hsz : (W.alloc (.cells #[.int .i64 pages, .int .i64 most, .slice A n c] 31)).heap.size = W.heap.size + 1 := Array.size_push _
    obtain ⟨w1, hw1⟩ : ∃ w1, w1 = W.alloc (.cells #[.int .i64 pages, .int .i64 most, .slice A n c] 31) := ⟨_, rfl⟩
    rw [← hw1] at hN hal hsz ⊢
    have hN2 := Whole.new w1 121 [.int .i32 93, .int .i64 tn, .int .i32 nm]
    have hal2 : Chg [] w1 (w1.alloc (.cells #[.int .i32 93, .int .i64 tn, .int .i32 nm] 121)) := (Chg.refl [] w1).alloc _
    rw [hsz] at hN2
    have hU2 := hN.keep hal2
    have hc := hal.trans hal2
    generalize w1.alloc (.cells #[.int .i32 93, .int .i64 tn, .int .i32 nm] 121) = w2 at hN2 hU2 hc ⊢
    have HF2 := Lib.hid (HF.out.keep hc)
    have S2 := Lib.hid (S.out.keep hc)
    skip
    generalize W.heap.size = g at hU2 hN2 ⊢
    have HC2 := Lib.hid (hc.sub (T' := stT gs vo) (by simp))
    have u0 := hU2.cell 0
    have u1 := hU2.cell 1
    have u2 := hU2.cell 2
    have t0 := hN2.cell 0
    have t1 := hN2.cell 1
    have t2 := hN2.cell 2
    have HT2 := Lib.hid hN2
    have c0 := S2.out.rec_.cell 0
    clear hN hal hsz hw1 hN2 hal2 hU2 hc
    by_cases hh : h < 0
    · have qh : decide (h < 0) = true := by simpa using hh
      clear hh
      go_wp2_with fail
      refine (takes_any HF2.out ⟨93, tn, nm⟩).mono ?_
      rintro e w3 ⟨he3, hc3⟩
      rw [HTE.out] at he3
      subst he3
      have S3 := Lib.hid (S2.out.keep hc3)
      have HC3 := Lib.hid (HC2.out.trans (hc3.sub (T' := stT gs vo) (by simp)))
      have t0' := (HT2.out.keep hc3).cell 0
      clear hc3 t0 t1 t2 u0 u1 u2 c0
      go_wp2_with fail
      refine (ends_pop S3.out 93 (by decide)).mono ?_
      rintro e w4 ⟨vo4, rfl, hS4, hc4, _⟩
      have HSZ := Lib.hid HC3.out.size
      have HR1 := Lib.hid HR.out
      rcases hE : rEnds h ys x 93 with ⟨b4, h4, bs4⟩
      rw [hE] at hS4
      have HE := Lib.hid hE
      clear hE
      cases b4
      · have HP := Lib.hid (show TkPost gs B vo R W (.returned (.int .i64 14)) w4 from tk_no 14 (by decide) (by rw [HR.out, HE.out]) (HC3.out.trans hc4))
        clear hS4 hc4 t0'
        go_wp2_with fail
        go_ret
        exact HP.out
      · have HP := Lib.hid (show TkPost gs B vo R W (.returned (.int .i64 0)) w4 from tk_ok h4 vo4 bs4 (by rw [HR.out, HE.out]) hS4 (HC3.out.trans hc4))
        clear hS4 hc4 t0'
        go_wp2_with fail
        go_ret
        exact HP.out
    · have qh : decide (h < 0) = false := by simpa using hh
      clear hh
      go_wp2_with fail
      refine (takes_any HF2.out ⟨93, tn, nm⟩).mono ?_
      rintro e w3 ⟨he3, hc3⟩
      rw [HTE.out] at he3
      subst he3
      have S3 := Lib.hid (S2.out.keep hc3)
      have HC3 := Lib.hid (HC2.out.trans (hc3.sub (T' := stT gs vo) (by simp)))
      have t0' := (HT2.out.keep hc3).cell 0
      clear hc3 t0 t1 t2 u0 u1 u2 c0
      go_wp2_with fail
      refine (ends_pop S3.out 93 (by decide)).mono ?_
      rintro e w4 ⟨vo4, rfl, hS4, hc4, _⟩
      have HSZ := Lib.hid HC3.out.size
      have HR1 := Lib.hid HR.out
      rcases hE : rEnds h ys x 93 with ⟨b4, h4, bs4⟩
      rw [hE] at hS4
      have HE := Lib.hid hE
      clear hE
      cases b4
      · have HP := Lib.hid (show TkPost gs B vo R W (.returned (.int .i64 14)) w4 from tk_no 14 (by decide) (by rw [HR.out, HE.out]) (HC3.out.trans hc4))
        clear hS4 hc4 t0'
        go_wp2_with fail
        go_ret
        exact HP.out
      · have HP := Lib.hid (show TkPost gs B vo R W (.returned (.int .i64 0)) w4 from tk_ok h4 vo4 bs4 (by rw [HR.out, HE.out]) hS4 (HC3.out.trans hc4))
        clear hS4 hc4 t0'
        go_wp2_with fail
        go_ret
        exact HP.out
end
end Go.Proofs.Ytnohfdojcdhfoaa
namespace Go.Proofs.Ytnohfdojcdhfoaa
open Go.RowKit
section
variable {W W' : World} {gs B : Nat} {h : Int} {vo : Value} {bs : List BkV} {A : Option Addr} {n c : Nat} {l : List FnV} {pages most : Int}
set_option maxHeartbeats 8000000 in
set_option maxRecDepth 100000 in
theorem token_other (s : St W gs B h vo bs) (hF : Fnr W A n c l) (t : TkV) (hne : ¬ isEnd t.sign) (hfew : bs.length < 1000) : Calls Try.prog 77 #[.pointer (some ⟨gs, 0, none⟩), unitV pages most A n c, .agg (tkC t).toArray] W (TkPost gs B vo (rTok l h bs t.sign t.name) W) := by
  unfold unitV
  obtain ⟨r, tn, nm⟩ := t
  simp only [tkC] at hne ⊢
  obtain ⟨R, hR⟩ : ∃ R, R = rTok l h bs r nm := ⟨_, rfl⟩
  rw [← hR]
  unfold rTok at hR
  rw [if_neg hne] at hR
  have HR := Lib.hid hR
  have S := Lib.hid s
  have HF := Lib.hid hF
  have hgs := s.rec_.lt
  obtain ⟨hh0, hh1⟩ := s.hr
  obtain ⟨hb0, hb1⟩ := base_in s
  generalize hbo : baseOf bs = b0 at hb0 hb1
  have HBO := Lib.hid hbo
  have q58 : (r == 58) = false := by simp; intro e; exact hne (.inl e)
  have q59 : (r == 59) = false := by simp; intro e; exact hne (.inr (.inl e))
  have q93 : (r == 93) = false := by simp; intro e; exact hne (.inr (.inr e))
  clear s hF hbo hne hR
  go_enter Try.func77, Try.ntmps77
  go_upto_region 1 with fail
  have hN := Whole.new W 31 [.int .i64 pages, .int .i64 most, .slice A n c]
  have hal : Chg [] W (W.alloc (.cells #[.int .i64 pages, .int .i64 most, .slice A n c] 31)) := (Chg.refl [] W).alloc _
  have hsz : (W.alloc (.cells #[.int .i64 pages, .int .i64 most, .slice A n c] 31)).heap.size = W.heap.size + 1 := Array.size_push _
  obtain ⟨w1, hw1⟩ : ∃ w1, w1 = W.alloc (.cells #[.int .i64 pages, .int .i64 most, .slice A n c] 31) := ⟨_, rfl⟩
  rw [← hw1] at hN hal hsz ⊢
  have hN2 := Whole.new w1 121 [.int .i32 r, .int .i64 tn, .int .i32 nm]
  have hal2 : Chg [] w1 (w1.alloc (.cells #[.int .i32 r, .int .i64 tn, .int .i32 nm] 121)) := (Chg.refl [] w1).alloc _
  rw [hsz] at hN2
  have hU2 := hN.keep hal2
  have hc := hal.trans hal2
  generalize w1.alloc (.cells #[.int .i32 r, .int .i64 tn, .int .i32 nm] 121) = w2 at hN2 hU2 hc ⊢
  have HF2 := Lib.hid (HF.out.keep hc)
  have S2 := Lib.hid (S.out.keep hc)
  have hgg := hgs
  generalize W.heap.size = g at hU2 hN2 hgg ⊢
  have HC2 := Lib.hid (hc.sub (T' := stT gs vo) (by simp))
  have u0 := hU2.cell 0
  have u1 := hU2.cell 1
  have u2 := hU2.cell 2
  have t0 := hN2.cell 0
  have t1 := hN2.cell 1
  have t2 := hN2.cell 2
  have HT2 := Lib.hid hN2
  have c0 := S2.out.rec_.cell 0
  clear hN hal hsz hw1 hN2 hal2 hU2 hc
  by_cases hh : h < 0
  · have qh : decide (h < 0) = true := by simpa using hh
    have HH := Lib.hid hh
    clear hh
    have HP := Lib.hid (show TkPost gs B vo R W (.returned (.int .i64 15)) w2 from tk_no 15 (by decide) (by rw [HR.out, if_pos HH.out]) HC2.out)
    go_wp2_with fail
    go_ret
    exact HP.out
  · have qh : decide (h < 0) = false := by simpa using hh
    have HR1 := Lib.hid (HR.out.trans (if_neg hh))
    rcases hT : rTakes l r nm with ⟨p, g, ok⟩
    have hin := rTakes_in l r nm
    rw [hT] at hin
    obtain ⟨hp0, hp1, hg0, hg1⟩ := hin
    simp only at hp0 hp1 hg0 hg1
    have HT := Lib.hid hT
    clear hT
    go_wp2_with fail
    refine (takes_any HF2.out ⟨r, tn, nm⟩).mono ?_
    rintro e w3 ⟨he3, hc3⟩
    rw [show rTakes l (TkV.mk r tn nm).sign (TkV.mk r tn nm).name = (p, g, ok) from HT.out] at he3
    subst he3
    have S3 := Lib.hid (S2.out.keep hc3)
    have HF3 := Lib.hid (HF2.out.keep hc3)
    have HC3 := Lib.hid (HC2.out.trans (hc3.sub (T' := stT gs vo) (by simp)))
    have HT3 := Lib.hid (HT2.out.keep hc3)
    clear hc3 t0 t1 t2 u0 u1 u2 c0
    cases ok
    · skip
      have HP := Lib.hid (show TkPost gs B vo R W (.returned (.int .i64 22)) w3 from tk_no 22 (by decide) (by rw [HR1.out, HT.out]) HC3.out)
      go_wp2_with fail
      go_ret
      exact HP.out
    · have HR2 := Lib.hid (show R = (if h - b0 < p ∨ 64 < h - p + g then ((14, h, bs) : Int × Int × List BkV)
          else if r = 63 ∨ r = 91 then (0, h - p + g, bs ++ [⟨r, h - p + g, 0, false⟩])
          else if r = 126 then (match rLeave (h - p + g) bs bs.length with | (true, h', bs') => (0, h', bs') | (false, h', bs') => (14, h', bs'))
          else if r = 161 then (0, -1, bs)
          else (0, h - p + g, bs)) from by rw [HR1.out, HT.out, ← HBO.out] <;> rfl)
      go_upto_region 11 with fail
      have c3 := S3.out.rec_.cell 0
      have HDR := Lib.hid ((Chg.refl [] w3).drew)
      have HCB := Lib.hid (fun (V : World) (hV : Chg [] w3 V) => show Calls Try.prog 97 #[.pointer (some ⟨gs, 0, none⟩)] V (BasePost b0 V) from by rw [← HBO.out]; exact base_any (S3.out.keep hV))
      by_cases hlow : h - b0 < p
      · have qlow : decide (h - b0 < p) = true := by simpa using hlow
        have HRE := Lib.hid (HR2.out.trans (if_pos (.inl hlow)))
        clear hlow
        refine wp_flow (by kernel_rfl) plainT plainT_ok (by kernel_rfl) ?_
        refine flow_move_out plainT_ok rfl rfl rfl ?_
        refine flow1 (r := .pointer (some ⟨gs, 0, none⟩)) plainT_ok rfl (.inn rfl) rfl (fun ev W he e1 => by go_simp) ?_
        refine flow1 (r := .pointer (some ⟨gs, 0, none⟩)) plainT_ok rfl (.inn rfl) rfl (fun ev W he e1 => by go_simp) ?_
        refine flow1h (r := .int .i64 h) plainT_ok rfl (.inn rfl) rfl (fun ev W he hW e1 => by have c0 := cell_keep (by simpa using c3 : w3.cell? ⟨gs, 0, none⟩ = some (.int .i64 h)) (HDR.out.trans (show Chg [] w3.drew _ from hW)); go_simp) ?_
        refine flow_move_out plainT_ok rfl rfl rfl ?_
        refine flow_callv (.int .i64 b0) (by kernel_rfl) rfl (.cons (.inn rfl) .nil) (fun V hV => (HCB.out V (HDR.out.trans (show Chg [] w3.drew _ from hV))).mono fun e w' hb => ⟨hb.1, by rw [plain_by]; exact hb.2⟩) ?_
        refine flow2 (r := .int .i64 (h - b0)) plainT_ok rfl (.inn rfl) (.inn rfl) rfl (fun ev W he e1 e2 => by have hw : IntKind.i64.wrap (h - b0) = h - b0 := IntWalk.i64_in _ (by omega); go_simp) ?_
        refine flow_move_out plainT_ok rfl rfl rfl ?_
        refine flow2 (r := .bool true) plainT_ok rfl (.inn rfl) (.inn rfl) rfl (fun ev W he e1 e2 => by go_simp) ?_
        refine flow_move plainT_ok rfl (keeps_isV _) (.inr (keeps_isV _)) rfl ?_
        refine flow_skip rfl ?_
        refine flow_skip rfl ?_
        refine flow_skip rfl ?_
        refine flow_skip rfl ?_
        refine flow_skip rfl ?_
        refine flow_skip rfl ?_
        refine flow_skip rfl ?_
        refine flow_skip rfl ?_
        refine flow_skip rfl ?_
        refine flow_or_true plainT_ok rfl rfl rfl ?_
        intro vs V hV hG
        obtain e67 : vs 67 = .bool true := hG 67 _ rfl (by kernel_rfl)
        have hV' : Chg [] w3 V := HDR.out.trans (show Chg [] w3.drew _ from hV)
        have S4 := Lib.hid (S3.out.keep hV')
        have HF4 := Lib.hid (HF3.out.keep hV')
        have HC4 := Lib.hid (HC3.out.trans (hV'.sub (T' := stT gs vo) (by simp)))
        have HT4 := Lib.hid (HT3.out.keep hV')
        simp only [putAll, Act.put, List.setIfInBounds_toArray, List.set_cons_zero, List.set_cons_succ, e67]
        clear hG hV hV' e67 c3 HCB
        have HP := Lib.hid (show TkPost gs B vo R W (.returned (.int .i64 14)) V from tk_no 14 (by decide) (by rw [HRE.out]) HC4.out)
        go_wp2_with fail
        go_ret
        exact HP.out
      · have qlow : decide (h - b0 < p) = false := by simpa using hlow
        by_cases hbig : 64 < h - p + g
        · have qbig : decide (64 < h - p + g) = true := by simpa using hbig
          have HRE := Lib.hid (HR2.out.trans (if_pos (.inr hbig)))
          refine wp_flow (by kernel_rfl) plainT plainT_ok (by kernel_rfl) ?_
          refine flow_move_out plainT_ok rfl rfl rfl ?_
          refine flow1 (r := .pointer (some ⟨gs, 0, none⟩)) plainT_ok rfl (.inn rfl) rfl (fun ev W he e1 => by go_simp) ?_
          refine flow1 (r := .pointer (some ⟨gs, 0, none⟩)) plainT_ok rfl (.inn rfl) rfl (fun ev W he e1 => by go_simp) ?_
          refine flow1h (r := .int .i64 h) plainT_ok rfl (.inn rfl) rfl (fun ev W he hW e1 => by have c0 := cell_keep (by simpa using c3 : w3.cell? ⟨gs, 0, none⟩ = some (.int .i64 h)) (HDR.out.trans (show Chg [] w3.drew _ from hW)); go_simp) ?_
          refine flow_move_out plainT_ok rfl rfl rfl ?_
          refine flow_callv (.int .i64 b0) (by kernel_rfl) rfl (.cons (.inn rfl) .nil) (fun V hV => (HCB.out V (HDR.out.trans (show Chg [] w3.drew _ from hV))).mono fun e w' hb => ⟨hb.1, by rw [plain_by]; exact hb.2⟩) ?_
          refine flow2 (r := .int .i64 (h - b0)) plainT_ok rfl (.inn rfl) (.inn rfl) rfl (fun ev W he e1 e2 => by have hw : IntKind.i64.wrap (h - b0) = h - b0 := IntWalk.i64_in _ (by omega); go_simp) ?_
          refine flow_move_out plainT_ok rfl rfl rfl ?_
          refine flow2 (r := .bool false) plainT_ok rfl (.inn rfl) (.inn rfl) rfl (fun ev W he e1 e2 => by go_simp) ?_
          refine flow_move plainT_ok rfl (keeps_isV _) (.inr (keeps_isV _)) rfl ?_
          refine flow_move_out plainT_ok rfl rfl rfl ?_
          refine flow1 (r := .pointer (some ⟨gs, 0, none⟩)) plainT_ok rfl (.inn rfl) rfl (fun ev W he e1 => by go_simp) ?_
          refine flow1 (r := .pointer (some ⟨gs, 0, none⟩)) plainT_ok rfl (.inn rfl) rfl (fun ev W he e1 => by go_simp) ?_
          refine flow1h (r := .int .i64 h) plainT_ok rfl (.inn rfl) rfl (fun ev W he hW e1 => by have c0 := cell_keep (by simpa using c3 : w3.cell? ⟨gs, 0, none⟩ = some (.int .i64 h)) (HDR.out.trans (show Chg [] w3.drew _ from hW)); go_simp) ?_
          refine flow_move_out plainT_ok rfl rfl rfl ?_
          refine flow2 (r := .int .i64 (h - p)) plainT_ok rfl (.inn rfl) (.inn rfl) rfl (fun ev W he e1 e2 => by have hw : IntKind.i64.wrap (h - p) = h - p := IntWalk.i64_in _ (by omega); go_simp) ?_
          refine flow_move_out plainT_ok rfl rfl rfl ?_
          refine flow2 (r := .int .i64 (h - p + g)) plainT_ok rfl (.inn rfl) (.inn rfl) rfl (fun ev W he e1 e2 => by have hw : IntKind.i64.wrap (h - p + g) = h - p + g := IntWalk.i64_in _ (by omega); go_simp) ?_
          refine flow2 (r := .bool true) plainT_ok rfl (.inn rfl) (.const _) rfl (fun ev W he e1 e2 => by go_simp) ?_
          refine flow_or_false plainT_ok rfl rfl rfl ?_
          intro vs V hV hG
          obtain e67 : vs 67 = .bool true := hG 67 _ rfl (by kernel_rfl)
          have hV' : Chg [] w3 V := HDR.out.trans (show Chg [] w3.drew _ from hV)
          have S4 := Lib.hid (S3.out.keep hV')
          have HF4 := Lib.hid (HF3.out.keep hV')
          have HC4 := Lib.hid (HC3.out.trans (hV'.sub (T' := stT gs vo) (by simp)))
          have HT4 := Lib.hid (HT3.out.keep hV')
          simp only [putAll, Act.put, List.setIfInBounds_toArray, List.set_cons_zero, List.set_cons_succ, e67]
          clear hG hV hV' e67 c3 HCB
          have HP := Lib.hid (show TkPost gs B vo R W (.returned (.int .i64 14)) V from tk_no 14 (by decide) (by rw [HRE.out]) HC4.out)
          go_wp2_with fail
          go_ret
          exact HP.out
        · have qbig : decide (64 < h - p + g) = false := by simpa using hbig
          have HR3 := Lib.hid (HR2.out.trans (if_neg (by omega)))
          have hlo : 0 ≤ h - p + g := by omega
          have hhi : h - p + g ≤ 64 := by omega
          have hwa : IntKind.i64.wrap (h - p) = h - p := IntWalk.i64_in _ (by omega)
          have hwb : IntKind.i64.wrap (h - p + g) = h - p + g := IntWalk.i64_in _ (by omega)
          refine wp_flow (by kernel_rfl) plainT plainT_ok (by kernel_rfl) ?_
          refine flow_move_out plainT_ok rfl rfl rfl ?_
          refine flow1 (r := .pointer (some ⟨gs, 0, none⟩)) plainT_ok rfl (.inn rfl) rfl (fun ev W he e1 => by go_simp) ?_
          refine flow1 (r := .pointer (some ⟨gs, 0, none⟩)) plainT_ok rfl (.inn rfl) rfl (fun ev W he e1 => by go_simp) ?_
          refine flow1h (r := .int .i64 h) plainT_ok rfl (.inn rfl) rfl (fun ev W he hW e1 => by have c0 := cell_keep (by simpa using c3 : w3.cell? ⟨gs, 0, none⟩ = some (.int .i64 h)) (HDR.out.trans (show Chg [] w3.drew _ from hW)); go_simp) ?_
          refine flow_move_out plainT_ok rfl rfl rfl ?_
          refine flow_callv (.int .i64 b0) (by kernel_rfl) rfl (.cons (.inn rfl) .nil) (fun V hV => (HCB.out V (HDR.out.trans (show Chg [] w3.drew _ from hV))).mono fun e w' hb => ⟨hb.1, by rw [plain_by]; exact hb.2⟩) ?_
          refine flow2 (r := .int .i64 (h - b0)) plainT_ok rfl (.inn rfl) (.inn rfl) rfl (fun ev W he e1 e2 => by have hw : IntKind.i64.wrap (h - b0) = h - b0 := IntWalk.i64_in _ (by omega); go_simp) ?_
          refine flow_move_out plainT_ok rfl rfl rfl ?_
          refine flow2 (r := .bool false) plainT_ok rfl (.inn rfl) (.inn rfl) rfl (fun ev W he e1 e2 => by go_simp) ?_
          refine flow_move plainT_ok rfl (keeps_isV _) (.inr (keeps_isV _)) rfl ?_
          refine flow_move_out plainT_ok rfl rfl rfl ?_
          refine flow1 (r := .pointer (some ⟨gs, 0, none⟩)) plainT_ok rfl (.inn rfl) rfl (fun ev W he e1 => by go_simp) ?_
          refine flow1 (r := .pointer (some ⟨gs, 0, none⟩)) plainT_ok rfl (.inn rfl) rfl (fun ev W he e1 => by go_simp) ?_
          refine flow1h (r := .int .i64 h) plainT_ok rfl (.inn rfl) rfl (fun ev W he hW e1 => by have c0 := cell_keep (by simpa using c3 : w3.cell? ⟨gs, 0, none⟩ = some (.int .i64 h)) (HDR.out.trans (show Chg [] w3.drew _ from hW)); go_simp) ?_
          refine flow_move_out plainT_ok rfl rfl rfl ?_
          refine flow2 (r := .int .i64 (h - p)) plainT_ok rfl (.inn rfl) (.inn rfl) rfl (fun ev W he e1 e2 => by have hw : IntKind.i64.wrap (h - p) = h - p := IntWalk.i64_in _ (by omega); go_simp) ?_
          refine flow_move_out plainT_ok rfl rfl rfl ?_
          refine flow2 (r := .int .i64 (h - p + g)) plainT_ok rfl (.inn rfl) (.inn rfl) rfl (fun ev W he e1 e2 => by have hw : IntKind.i64.wrap (h - p + g) = h - p + g := IntWalk.i64_in _ (by omega); go_simp) ?_
          refine flow2 (r := .bool false) plainT_ok rfl (.inn rfl) (.const _) rfl (fun ev W he e1 e2 => by go_simp) ?_
          refine flow_or_false plainT_ok rfl rfl rfl ?_
          intro vs V hV hG
          obtain e67 : vs 67 = .bool false := hG 67 _ rfl (by kernel_rfl)
          have hV' : Chg [] w3 V := HDR.out.trans (show Chg [] w3.drew _ from hV)
          have S4 := Lib.hid (S3.out.keep hV')
          have HF4 := Lib.hid (HF3.out.keep hV')
          have HC4 := Lib.hid (HC3.out.trans (hV'.sub (T' := stT gs vo) (by simp)))
          have HT4 := Lib.hid (HT3.out.keep hV')
          simp only [putAll, Act.put, List.setIfInBounds_toArray, List.set_cons_zero, List.set_cons_succ, e67]
          clear hG hV hV' e67 c3 HCB
          have c0 := S4.out.rec_.cell 0
          have f0 := S4.out.rec_.frozen 0
          go_upto_region 14 with fail
          generalize h - p + g = h5 at *
          have S5 := Lib.hid (S4.out.high h5 (by omega))
          have HC5 := Lib.hid (HC4.out.setCell (p := ⟨gs, 0, none⟩) (fun _ => st_in gs vo) (.int .i64 h5))
          have HT5 := Lib.hid (HT4.out.far (p := ⟨gs, 0, none⟩) (by simp only; omega) (.int .i64 h5))
          generalize V.setCell ⟨gs, 0, none⟩ (.int .i64 h5) = w5 at S5 HC5 HT5 ⊢
          clear c0 f0 hlow hbig hwa hwb qlow qbig HR2 HR1
          have t0 := HT5.out.cell 0
          have c0 := S5.out.rec_.cell 0
          have f0 := S5.out.rec_.frozen 0
          by_cases hop : r = 63 ∨ r = 91
          · have HRE := Lib.hid (HR3.out.trans (if_pos hop))
            obtain ⟨i0, hi0, hz0, hz1, hz2⟩ := info_parts info_block
            obtain ⟨A5, k5, hvo, hle, hcm, _⟩ := S5.out.slice
            have c1 := S5.out.rec_.cell 1
            rw [hvo] at c1
            have HV := Lib.hid hvo
            have hBW : B ≤ w5.heap.size := S5.out.room
            have HOW := Lib.hid (show w5.ownsRow B 153 4 (.slice A5 bs.length k5) bs.length (bkCs bs) from by rw [← hvo]; exact S5.out.own)
            have HBL := Lib.hid (show bs.length + 1 ≤ 1000 from hfew)
            clear hvo
            obtain ⟨m, hm⟩ : ∃ m, m = bs.length := ⟨_, rfl⟩
            rw [← hm] at c1 hle hfew HOW HV
            have HM := Lib.hid hm
            clear hm
            rcases hop with rfl | rfl
            · have q1 : (w5.alloc (.cells #[.int .i32 63, .int .i64 h5, .int .i64 0, .bool false] 153)).cell? ⟨gs, 1, none⟩ = some (.slice A5 m k5) := cell_keep (by simpa using c1) ((Chg.refl [] w5).alloc _)
              go_upto_region 17 with fail
              go_region_law (
                (refine step_append_n rfl (.tmp 88) (.tmp 96) 128 rfl B 153 i0 _ 4 32 Try.underlying128 hi0 hz0 hz1 hz2 rfl (by decide) (.slice A5 m k5) m (bkCs bs) rfl (rown_keep HOW.out (((Chg.refl [] w5).alloc _).drew)) ⟨w5.heap.size, 0, none⟩ 1 1 [.int .i32 63, .int .i64 h5, .int .i64 0, .bool false] rfl rfl (cells_page w5 _ _) (by simp [Value.oneCell']) (by unfold maxLen; omega) (by omega) (by simp; omega) ?_
                 intro v' w' ho hg
                 obtain ⟨A6, k6, rfl, _⟩ := rown_slice ho
                 have HO := Lib.hid ho
                 have HG := Lib.hid hg
                 have HR6 := Lib.hid (whole_grown (S5.out.rec_.keep (((Chg.refl [] w5).alloc (.cells #[.int .i32 63, .int .i64 h5, .int .i64 0, .bool false] 153)).drew)) (rown_keep S5.out.own (((Chg.refl [] w5).alloc (.cells #[.int .i32 63, .int .i64 h5, .int .i64 0, .bool false] 153)).drew)) (by decide) (by rw [HV.out]; exact hg))
                 have f1 := HR6.out.frozen 1
                 have k1 := HR6.out.cell 1
                 clear ho hg))
              all_goals
                have S6 := Lib.hid (S5.out.push (x := ⟨63, h5, 0, false⟩) (((Chg.refl [] w5).alloc (.cells #[.int .i32 63, .int .i64 h5, .int .i64 0, .bool false] 153)).drew) (by rw [← HM.out]; exact HO.out) (by rw [HV.out]; exact HG.out) ⟨by omega, by omega, by simp, by simp⟩ HBL.out)
                have HC6 := Lib.hid ((show Chg (stT gs vo) W _ from Chg.of_push HC5.out S5.out HV.out HG.out).setCell (p := ⟨gs, 1, none⟩) (fun _ => st_in gs vo) (.slice A6 (m + 1) k6))
                have HP := Lib.hid (show TkPost gs B vo R W (.returned (.int .i64 0)) _ from tk_ok h5 (.slice A6 (m + 1) k6) _ (HRE.out) S6.out HC6.out)
                go_wp2_with fail
                go_ret
                exact HP.out
            · have q1 : (w5.alloc (.cells #[.int .i32 91, .int .i64 h5, .int .i64 0, .bool false] 153)).cell? ⟨gs, 1, none⟩ = some (.slice A5 m k5) := cell_keep (by simpa using c1) ((Chg.refl [] w5).alloc _)
              go_upto_region 17 with fail
              go_region_law (
                (refine step_append_n rfl (.tmp 88) (.tmp 96) 128 rfl B 153 i0 _ 4 32 Try.underlying128 hi0 hz0 hz1 hz2 rfl (by decide) (.slice A5 m k5) m (bkCs bs) rfl (rown_keep HOW.out (((Chg.refl [] w5).alloc _).drew)) ⟨w5.heap.size, 0, none⟩ 1 1 [.int .i32 91, .int .i64 h5, .int .i64 0, .bool false] rfl rfl (cells_page w5 _ _) (by simp [Value.oneCell']) (by unfold maxLen; omega) (by omega) (by simp; omega) ?_
                 intro v' w' ho hg
                 obtain ⟨A6, k6, rfl, _⟩ := rown_slice ho
                 have HO := Lib.hid ho
                 have HG := Lib.hid hg
                 have HR6 := Lib.hid (whole_grown (S5.out.rec_.keep (((Chg.refl [] w5).alloc (.cells #[.int .i32 91, .int .i64 h5, .int .i64 0, .bool false] 153)).drew)) (rown_keep S5.out.own (((Chg.refl [] w5).alloc (.cells #[.int .i32 91, .int .i64 h5, .int .i64 0, .bool false] 153)).drew)) (by decide) (by rw [HV.out]; exact hg))
                 have f1 := HR6.out.frozen 1
                 have k1 := HR6.out.cell 1
                 clear ho hg))
              all_goals
                have S6 := Lib.hid (S5.out.push (x := ⟨91, h5, 0, false⟩) (((Chg.refl [] w5).alloc (.cells #[.int .i32 91, .int .i64 h5, .int .i64 0, .bool false] 153)).drew) (by rw [← HM.out]; exact HO.out) (by rw [HV.out]; exact HG.out) ⟨by omega, by omega, by simp, by simp⟩ HBL.out)
                have HC6 := Lib.hid ((show Chg (stT gs vo) W _ from Chg.of_push HC5.out S5.out HV.out HG.out).setCell (p := ⟨gs, 1, none⟩) (fun _ => st_in gs vo) (.slice A6 (m + 1) k6))
                have HP := Lib.hid (show TkPost gs B vo R W (.returned (.int .i64 0)) _ from tk_ok h5 (.slice A6 (m + 1) k6) _ (HRE.out) S6.out HC6.out)
                go_wp2_with fail
                go_ret
                exact HP.out
          · have HR4 := Lib.hid (HR3.out.trans (if_neg hop))
            have q63 : (r == 63) = false := by simp; intro e; exact hop (.inl e)
            have q91 : (r == 91) = false := by simp; intro e; exact hop (.inr e)
            clear hop
            by_cases h126 : r = 126
            · have q126 : (r == 126) = true := by simpa using h126
              have HRE := Lib.hid (HR4.out.trans (if_pos h126))
              clear h126
              go_wp2_with fail
              refine (leave_any S5.out).mono ?_
              rintro e w6 ⟨vo6, rfl, hS6, hc6, _⟩
              rcases hE : rLeave h5 bs bs.length with ⟨b6, h6, bs6⟩
              rw [hE] at hS6
              have HE := Lib.hid hE
              clear hE c0 f0 t0
              cases b6
              · have HP := Lib.hid (show TkPost gs B vo R W (.returned (.int .i64 14)) w6 from tk_no 14 (by decide) (by rw [HRE.out, HE.out]) (HC5.out.trans hc6))
                clear hS6 hc6
                go_wp2_with fail
                go_ret
                exact HP.out
              · have HP := Lib.hid (show TkPost gs B vo R W (.returned (.int .i64 0)) w6 from tk_ok h6 vo6 bs6 (by rw [HRE.out, HE.out]) hS6 (HC5.out.trans hc6))
                clear hS6 hc6
                go_wp2_with fail
                go_ret
                exact HP.out
            · have q126 : (r == 126) = false := by simpa using h126
              have HR5 := Lib.hid (HR4.out.trans (if_neg h126))
              clear h126
              by_cases h161 : r = 161
              · have q161 : (r == 161) = true := by simpa using h161
                have S6 := Lib.hid (S5.out.high (-1) (by omega))
                have HC6 := Lib.hid (HC5.out.setCell (p := ⟨gs, 0, none⟩) (fun _ => st_in gs vo) (.int .i64 (-1)))
                have HP := Lib.hid (show TkPost gs B vo R W (.returned (.int .i64 0)) _ from tk_ok (-1) vo bs (HR5.out.trans (if_pos h161)) S6.out HC6.out)
                clear h161
                go_wp2_with fail
                go_ret
                exact HP.out
              · have q161 : (r == 161) = false := by simpa using h161
                have HP := Lib.hid (show TkPost gs B vo R W (.returned (.int .i64 0)) w5 from tk_ok h5 vo bs (HR5.out.trans (if_neg h161)) S5.out HC5.out)
                clear h161
                go_wp2_with fail
                go_ret
                exact HP.out
end
end Go.Proofs.Ytnohfdojcdhfoaa
namespace Go.Proofs.Ytnohfdojcdhfoaa
open Go.RowKit
section
variable {W : World} {gm gt B n : Nat} {m : NSt} {vo : Value}
theorem alloc_away {W : World} {g t : Nat} {cs : List Value} (h : Whole W g t cs) (o : Obj) : Whole (W.alloc o) g t cs := h.keep ((Chg.refl [] W).alloc o)
set_option maxHeartbeats 1000000 in
theorem inner_none (h : Mt W gm gt B n m vo []) : Calls Try.prog 124 #[.pointer (some ⟨gm, 0, none⟩)] W fun e w' =>
    e = .returned (.tuple #[.agg #[.bool false, .int .i64 0, .int .i64 0, .slice none 0 0], .bool false]) ∧ Chg [] W w' := by
  obtain ⟨A, c, rfl, _, _, _⟩ := rown_slice h.own
  have hr := h.rec_
  simp only [List.length_nil] at hr
  clear h
  go_enter Try.func124, Try.ntmps124
  go_upto_region 1 with fail
  have hal : Chg [] W (W.alloc (.cells #[.bool false, .int .i64 0, .int .i64 0, .slice none 0 0] 169)) := (Chg.refl [] W).alloc _
  have c2 := (hr.keep hal).cell 2
  have hN : Whole (W.alloc (.cells #[.bool false, .int .i64 0, .int .i64 0, .slice none 0 0] 169)) W.heap.size 169 [.bool false, .int .i64 0, .int .i64 0, .slice none 0 0] := Whole.new W 169 [.bool false, .int .i64 0, .int .i64 0, .slice none 0 0]
  obtain ⟨g9, hg9⟩ : ∃ g, g = W.heap.size := ⟨_, rfl⟩
  rw [← hg9] at hN ⊢
  generalize W.alloc (.cells #[.bool false, .int .i64 0, .int .i64 0, .slice none 0 0] 169) = w1 at hal c2 hN ⊢
  have f0 := hN.frozen 0
  have f1 := hN.frozen 1
  have f2 := hN.frozen 2
  have f3 := hN.frozen 3
  have k0 := hN.cell 0
  have k1 := hN.cell 1
  have k2 := hN.cell 2
  have k3 := hN.cell 3
  have HC := Lib.hid (show Chg [] W (w1) from hal)
  have HN := Lib.hid hN
  have HG := Lib.hid hg9
  clear hal hN hg9 hr
  go_wp2_with fail
  have hz := (((HN.out.set_ 0 (.bool false)).set_ 1 (.int .i64 0)).set_ 2 (.int .i64 0)).set_ 3 (.slice none 0 0)
  simp only [List.set_cons_zero, List.set_cons_succ] at hz
  have HCz := Lib.hid (((((HC.out.setCell (p := ⟨g9, 0, none⟩) (fun h => absurd h (by have := HG.out; simp only; omega)) (.bool false)).setCell (p := ⟨g9, 1, none⟩) (fun h => absurd h (by have := HG.out; simp only; omega)) (.int .i64 0)).setCell (p := ⟨g9, 2, none⟩) (fun h => absurd h (by have := HG.out; simp only; omega)) (.int .i64 0)).setCell (p := ⟨g9, 3, none⟩) (fun h => absurd h (by have := HG.out; simp only; omega)) (.slice none 0 0)))
  generalize (((w1.setCell ⟨g9, 0, none⟩ (.bool false)).setCell ⟨g9, 1, none⟩ (.int .i64 0)).setCell ⟨g9, 2, none⟩ (.int .i64 0)).setCell ⟨g9, 3, none⟩ (.slice none 0 0) = w9 at hz HCz ⊢
  clear k0 k1 k2 k3 f0 f1 f2 f3 c2
  have k0 := hz.cell 0
  have k1 := hz.cell 1
  have k2 := hz.cell 2
  have k3 := hz.cell 3
  exact bodyPost_ret (v := .tuple #[.agg #[.bool false, .int .i64 0, .int .i64 0, .slice none 0 0], .bool false]) (by simp [results, Try.results124, go_sem, k0, k1, k2, k3]) rfl ⟨rfl, HCz.out⟩
set_option maxHeartbeats 2000000 in
theorem inner_some {ys : List PV} {x : PV} (h : Mt W gm gt B n m vo (ys ++ [x])) : Calls Try.prog 124 #[.pointer (some ⟨gm, 0, none⟩)] W fun e w' =>
    e = .returned (.tuple #[.agg #[.bool x.p.loop, .int .i64 (x.p.at_ : Int), .int .i64 (x.p.waits : Int), x.v], .bool true]) ∧ Chg [] W w' := by
  obtain ⟨px, vx⟩ := x
  obtain ⟨Av, cv, e, _⟩ := own_slice (h.left ⟨px, vx⟩ (by simp))
  simp only at e
  subst e
  have hl : (ys ++ [(⟨px, .slice Av px.left.length cv⟩ : PV)]).length = ys.length + 1 := by simp
  obtain ⟨A, c, rfl, hc1, hc2, _⟩ := rown_slice h.own
  have hr := h.rec_
  rw [hl] at hr hc1
  have hf := h.few
  rw [hl] at hf
  have hal : Chg [] W (W.alloc (.cells #[.bool false, .int .i64 0, .int .i64 0, .slice none 0 0] 169)) := (Chg.refl [] W).alloc _
  have hg : ∀ j u, (pvC ⟨px, .slice Av px.left.length cv⟩)[j]? = some u → j < 4 → (pvCs (ys ++ [⟨px, .slice Av px.left.length cv⟩]))[ys.length * 4 + j]? = some u := fun j u hu hj => (pvCs_get (ys ++ [⟨px, .slice Av px.left.length cv⟩]) ys.length ⟨px, .slice Av px.left.length cv⟩ j (by simp) hj).trans hu
  obtain ⟨g, rfl, j0⟩ := rown_cell (rown_keep h.own hal) rfl (hg 0 _ rfl (by omega))
  obtain ⟨g', e, j1⟩ := rown_cell (rown_keep h.own hal) rfl (hg 1 _ rfl (by omega))
  injection e with e; injection e with e; subst e
  obtain ⟨g', e, j2⟩ := rown_cell (rown_keep h.own hal) rfl (hg 2 _ rfl (by omega))
  injection e with e; injection e with e; subst e
  obtain ⟨g', e, j3⟩ := rown_cell (rown_keep h.own hal) rfl (hg 3 _ rfl (by omega))
  injection e with e; injection e with e; subst e
  generalize ys.length = q at *
  clear hg hl h
  rw [Nat.add_zero] at j0
  have hsub : IntKind.i64.wrap (((q + 1 : Nat) : Int) - 1) = (q : Int) := by rw [IntWalk.i64_in _ (by omega)]; omega
  have hne : (((q + 1 : Nat) : Int) == 0) = false := by simp; omega
  have hq0 : (0 : Int) ≤ (q : Int) := by omega
  have hq1 : (q : Int) < ((q + 1 : Nat) : Int) := by omega
  go_enter Try.func124, Try.ntmps124
  go_upto_region 1 with fail
  have c2 := (hr.keep hal).cell 2
  have hN : Whole (W.alloc (.cells #[.bool false, .int .i64 0, .int .i64 0, .slice none 0 0] 169)) W.heap.size 169 [.bool false, .int .i64 0, .int .i64 0, .slice none 0 0] := Whole.new W 169 [.bool false, .int .i64 0, .int .i64 0, .slice none 0 0]
  obtain ⟨g9, hg9⟩ : ∃ g, g = W.heap.size := ⟨_, rfl⟩
  rw [← hg9] at hN ⊢
  generalize W.alloc (.cells #[.bool false, .int .i64 0, .int .i64 0, .slice none 0 0] 169) = w1 at hal c2 hN j0 j1 j2 j3 ⊢
  have f0 := hN.frozen 0
  have f1 := hN.frozen 1
  have f2 := hN.frozen 2
  have f3 := hN.frozen 3
  have k0 := hN.cell 0
  have k1 := hN.cell 1
  have k2 := hN.cell 2
  have k3 := hN.cell 3
  have HC := Lib.hid (show Chg [] W (w1) from hal)
  have HN := Lib.hid hN
  have HG := Lib.hid hg9
  clear hal hN hg9 hr
  go_wp2_with fail
  go_region
  have hz := (((HN.out.set_ 0 (.bool px.loop)).set_ 1 (.int .i64 (px.at_ : Int))).set_ 2 (.int .i64 (px.waits : Int))).set_ 3 (.slice Av px.left.length cv)
  simp only [List.set_cons_zero, List.set_cons_succ] at hz
  have HCz := Lib.hid (((((HC.out.setCell (p := ⟨g9, 0, none⟩) (fun h => absurd h (by have := HG.out; simp only; omega)) (.bool px.loop)).setCell (p := ⟨g9, 1, none⟩) (fun h => absurd h (by have := HG.out; simp only; omega)) (.int .i64 (px.at_ : Int))).setCell (p := ⟨g9, 2, none⟩) (fun h => absurd h (by have := HG.out; simp only; omega)) (.int .i64 (px.waits : Int))).setCell (p := ⟨g9, 3, none⟩) (fun h => absurd h (by have := HG.out; simp only; omega)) (.slice Av px.left.length cv)))
  have hz2 := hz.drew
  have HCz2 := Lib.hid HCz.out.drew
  generalize ((((w1.setCell ⟨g9, 0, none⟩ (.bool px.loop)).setCell ⟨g9, 1, none⟩ (.int .i64 (px.at_ : Int))).setCell ⟨g9, 2, none⟩ (.int .i64 (px.waits : Int))).setCell ⟨g9, 3, none⟩ (.slice Av px.left.length cv)).drew = w9 at hz2 HCz2 ⊢
  clear k0 k1 k2 k3 f0 f1 f2 f3 c2 j0 j1 j2 j3 hz HCz
  have k0 := hz2.cell 0
  have k1 := hz2.cell 1
  have k2 := hz2.cell 2
  have k3 := hz2.cell 3
  go_wp2_with fail
  exact bodyPost_ret (v := .tuple #[.agg #[.bool px.loop, .int .i64 (px.at_ : Int), .int .i64 (px.waits : Int), .slice Av px.left.length cv], .bool true]) (by simp [results, Try.results124, go_sem, k0, k1, k2, k3]) rfl ⟨rfl, HCz2.out⟩
end
end Go.Proofs.Ytnohfdojcdhfoaa
