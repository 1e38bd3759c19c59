/-
  UU: NestMem, NestIn.
-/
import Derived.Test.YtbkfhndmeljlcaaGreatDoorZUU4
import Derived.Test.YtbkfhndmeljlcaaGreatDoorZUU5
import Derived.Deep.DeepCutAuto
import Derived.RegionTactic
import Derived.ChangeAlike
namespace Go.Proofs.YtbkfhndmeljlcaaGreatDoor
open Go.RowKit
/-- What lies below B stays, but for the blocks of T. -/
structure Lo (B : Nat) (T : List Nat) (a b : World) : Prop where
  os : b.os = a.os
  tape : b.tape = a.tape
  output : b.output = a.output
  size : a.heap.size ≤ b.heap.size
  block : ∀ k, k < B → k < a.heap.size → k ∉ T → b.heap[k]? = a.heap[k]?
theorem Lo.of_chg {B : Nat} {T T' : List Nat} {a b : World} (h : Chg T' a b) (hT : ∀ i ∈ T', B ≤ i ∨ i ∈ T) : Lo B T a b :=
  ⟨h.os, h.tape, h.output, h.size, fun k hB hk hn => h.block k hk fun hm => by rcases hT k hm with h | h; omega; exact hn h⟩
theorem Lo.refl (B : Nat) (T : List Nat) (a : World) : Lo B T a a := Lo.of_chg (Chg.refl [] a) fun i hi => by cases hi
theorem Lo.trans {B : Nat} {T : List Nat} {a b c : World} (h : Lo B T a b) (k : Lo B T b c) : Lo B T a c :=
  ⟨k.os.trans h.os, k.tape.trans h.tape, k.output.trans h.output, Nat.le_trans h.size k.size, fun i hB hi hn => (k.block i hB (Nat.lt_of_lt_of_le hi h.size) hn).trans (h.block i hB hi hn)⟩
theorem Lo.chg {B : Nat} {T : List Nat} {w a b : World} (h0 : Chg [] w a) (h : Lo B T a b) (hB : w.heap.size ≤ B) (hT : ∀ i ∈ T, w.heap.size ≤ i) : Chg [] w b :=
  ⟨h.os.trans h0.os, h.tape.trans h0.tape, h.output.trans h0.output, Nat.le_trans h0.size h.size, fun k hk _ => (h.block k (by omega) (Nat.lt_of_lt_of_le hk h0.size) fun hm => by have := hT k hm; omega).trans (h0.block k hk (by simp))⟩
theorem Lo.of_grown {B B2 e k n : Nat} {T : List Nat} {v : Value} {xs : List Value} {a b : World} (ho : a.ownsRow B2 e k v n xs) (hB : B ≤ B2) (hg : a.grownBy b v.ownBlock) : Lo B T a b :=
  ⟨hg.os, hg.tape, hg.output, hg.size, fun i hi hk _ => hg.block i hk fun hc => by have := (ho.lt i hc.symm).1; omega⟩
/-- Numbers, as cells. -/
def nts (l : List Nat) : List Value := l.map fun k : Nat => Value.int .i64 (k : Int)
theorem nts_len (l : List Nat) : (nts l).length = l.length := by simp [nts]
theorem nts_app (l m : List Nat) : nts (l ++ m) = nts l ++ nts m := by simp [nts]
theorem nms_set (l : List Int) (i : Nat) (x : Int) : (nms l).set i (.int .i64 x) = nms (l.set i x) := by simp [nms]
/-- A part, and the row of its left ones. -/
structure PV where
  p : NPart
  v : Value
def pvC (x : PV) : List Value := [.bool x.p.loop, .int .i64 (x.p.at_ : Int), .int .i64 (x.p.waits : Int), x.v]
def pvCs : List PV → List Value
  | [] => []
  | x :: l => pvC x ++ pvCs l
theorem pvCs_len : ∀ l, (pvCs l).length = l.length * 4
  | [] => rfl
  | x :: l => by rw [pvCs, List.length_append, pvCs_len l]; simp [pvC]; omega
theorem pvCs_app : ∀ l m, pvCs (l ++ m) = pvCs l ++ pvCs m
  | [], _ => rfl
  | x :: l, m => by rw [List.cons_append, pvCs, pvCs, pvCs_app l m, List.append_assoc]
theorem pvCs_one (x : PV) : pvCs [x] = pvC x := by simp [pvCs]
theorem pvCs_get : ∀ (l : List PV) (k : Nat) (x : PV) (j : Nat), l[k]? = some x → j < 4 → (pvCs l)[k * 4 + j]? = (pvC x)[j]?
  | [], k, x, j, h, hj => by simp at h
  | y :: l, 0, x, j, h, hj => by
    simp at h; subst h
    rw [pvCs, List.getElem?_append_left (by simp [pvC]; omega)]
    congr 1; omega
  | y :: l, k + 1, x, j, h, hj => by
    simp at h
    rw [pvCs, List.getElem?_append_right (by simp [pvC]; omega)]
    rw [← pvCs_get l k x j h hj]
    congr 1; simp [pvC]; omega
/-- What a match has in memory: the outer parts first. -/
structure Mt (W : World) (gm gt B n : Nat) (m : NSt) (vo : Value) (xs : List PV) : Prop where
  rec_ : Whole W gm 168 [.slice (some ⟨gt, 0, none⟩) n n, .int .i64 (m.deep : Int), vo]
  to_ : Whole W gt 3 (nms m.tO)
  len : m.tO.length = n
  op : m.op = (xs.map (·.p)).reverse
  own : W.ownsRow B 182 4 vo xs.length (pvCs xs)
  left : ∀ x ∈ xs, W.ownsRow B 3 1 x.v x.p.left.length (nts x.p.left)
  apart : xs.Pairwise fun x y => x.v.ownBlock = none ∨ x.v.ownBlock ≠ y.v.ownBlock
  lo : gm < B ∧ gt < B ∧ gm ≠ gt
  few : xs.length ≤ 16
  deep : m.deep ≤ 16
  wf : ∀ x ∈ xs, x.p.at_ < n ∧ x.p.waits < n ∧ x.p.left.length ≤ n ∧ ∀ j ∈ x.p.left, j < n
  big : n ≤ 100000
  room : B ≤ W.heap.size
theorem size_set (W : World) (p : Addr) (u : Value) : (W.setCell p u).heap.size = W.heap.size := by simp [World.setCell]
section
variable {W W' : World} {gm gt B n : Nat} {m : NSt} {vo : Value} {xs : List PV}
theorem Mt.keep (h : Mt W gm gt B n m vo xs) (hc : Chg [] W W') : Mt W' gm gt B n m vo xs :=
  { h with rec_ := h.rec_.keep hc, to_ := h.to_.keep hc, own := rown_keep h.own hc, left := fun x hx => own_keep (h.left x hx) hc, room := Nat.le_trans h.room hc.size }
theorem rown_set {e k q g c j : Nat} {u : Value} {cs : List Value} (h : W.ownsRow B e k (.slice (some ⟨g, 0, none⟩) q c) q cs) : (W.setCell ⟨g, j, none⟩ u).ownsRow B e k (.slice (some ⟨g, 0, none⟩) q c) q (cs.set j u) := by
  refine ⟨by rw [List.length_set]; exact h.1, ?_⟩
  rcases h.2 with ⟨h', _⟩ | ⟨g', cap, cur, h', hb, hg, hn, hc, hs, ht⟩
  · cases h'
  · injection h' with h1 _ h3
    injection h1 with h1
    injection h1 with h1
    subst h1
    subst h3
    refine .inr ⟨g, c, cur.setIfInBounds j u, rfl, hb, ?_, hn, hc, by simpa using hs, ?_⟩
    · have := heap_setCell_same W g j cur e u hg
      simpa using this
    · rw [Array.toList_setIfInBounds, List.take_set, ht]
theorem rown_frozen {e k q g c j : Nat} {cs : List Value} (h : W.ownsRow B e k (.slice (some ⟨g, 0, none⟩) q c) q cs) : W.frozen? ⟨g, j, none⟩ = false := by
  rcases h.2 with ⟨h', _⟩ | ⟨g', cap, cur, h', hb, hg, hn, hc, hs, ht⟩
  · cases h'
  · injection h' with h1 _ h3
    injection h1 with h1
    injection h1 with h1
    subst h1
    exact frozen_of_row W g j cur e hg
theorem rown_far {e k q : Nat} {v u : Value} {cs : List Value} {p : Addr} (h : W.ownsRow B e k v q cs) (hp : v.ownBlock ≠ some p.block) : (W.setCell p u).ownsRow B e k v q cs := by
  refine ⟨h.1, h.2.imp id ?_⟩
  rintro ⟨g, cap, cur, rfl, hb, hg, r⟩
  exact ⟨g, cap, cur, rfl, hb, (Below.heap_setCell W p u g (fun hc => hp (by rw [← hc]; rfl))).trans hg, r⟩
theorem own_ne {B2 e k q e2 k2 q2 : Nat} {v v2 : Value} {cs cs2 : List Value} (h : W.ownsRow B e k v q cs) (h2 : W.ownsRow B2 e2 k2 v2 q2 cs2) (hne : e ≠ e2) {g : Nat} (hg : v.ownBlock = some g) : v2.ownBlock ≠ some g := by
  intro hg2
  rcases h.2 with ⟨rfl, _⟩ | ⟨a, cap, cur, rfl, _, ha, _⟩
  · cases hg
  rcases h2.2 with ⟨rfl, _⟩ | ⟨b, cap2, cur2, rfl, _, hb, _⟩
  · cases hg2
  injection hg with hg
  injection hg2 with hg2
  simp only at hg hg2
  rw [hg] at ha
  rw [hg2] at hb
  rw [ha] at hb
  injection hb with hb
  injection hb with _ hb _
  exact hne hb
theorem rown_take {e k q q' : Nat} {A : Option Addr} {c : Nat} {cs : List Value} (h : W.ownsRow B e k (.slice A q c) q cs) (hq : q' ≤ q) (h0 : A ≠ none) : W.ownsRow B e k (.slice A q' c) q' (cs.take (q' * k)) := by
  have hl := h.1
  refine ⟨by rw [List.length_take, hl]; exact Nat.min_eq_left (Nat.mul_le_mul_right _ hq), ?_⟩
  rcases h.2 with ⟨h', _⟩ | ⟨g', cap, cur, h', hb, hg, hn, hc, hs, ht⟩
  · injection h' with h1; exact absurd h1 h0
  · injection h' with h1 _ h3
    subst h1
    subst h3
    exact .inr ⟨g', c, cur, rfl, hb, hg, by omega, hc, hs, by rw [← ht, List.take_take, Nat.min_eq_left (Nat.mul_le_mul_right _ hq)]⟩
/-- A place of 'to' is written. -/
theorem Mt.poke (h : Mt W gm gt B n m vo xs) (j : Nat) (x : Int) : Mt (W.setCell ⟨gt, j, none⟩ (.int .i64 x)) gm gt B n ⟨m.tO.set j x, m.deep, m.op⟩ vo xs := by
  have hown : ∀ {e k q : Nat} {v : Value} {cs : List Value}, W.ownsRow B e k v q cs → v.ownBlock ≠ some gt := fun ho hc => by
    have := (ho.lt gt hc).1; have := h.lo; omega
  refine { h with rec_ := h.rec_.far (by simpa using h.lo.2.2) _, to_ := ?_, len := by rw [List.length_set]; exact h.len, own := rown_far h.own (hown h.own), left := fun y hy => rown_far (h.left y hy) (hown (h.left y hy)), room := by rw [size_set]; exact h.room }
  have := h.to_.set_ j (.int .i64 x)
  rwa [nms_set] at this
/-- The innermost part waits elsewhere. -/
theorem Mt.waits {ys : List PV} {x : PV} {g c q : Nat} (h : Mt W gm gt B n m vo (ys ++ [x])) (hv : vo = .slice (some ⟨g, 0, none⟩) q c) (i : Nat) (hi : i < n) :
    Mt (W.setCell ⟨g, ys.length * 4 + 2, none⟩ (.int .i64 (i : Int))) gm gt B n ⟨m.tO, m.deep, ⟨x.p.loop, x.p.at_, i, x.p.left⟩ :: (ys.map (·.p)).reverse⟩ vo (ys ++ [⟨⟨x.p.loop, x.p.at_, i, x.p.left⟩, x.v⟩]) := by
  subst hv
  have hq : q = (ys ++ [x]).length := by
    rcases h.own.2 with ⟨e, _⟩ | ⟨_, _, _, e, _⟩
    · cases e
    · injection e
  subst hq
  have hB := (h.own.lt g rfl).1
  have hlo := h.lo
  refine ⟨h.rec_.far (by simp only; omega) _, h.to_.far (by simp only; omega) _, h.len, by simp, ?_, fun y hy => ?_, ?_, h.lo, by have := h.few; simpa using this, h.deep, fun y hy => ?_, h.big, by rw [size_set]; exact h.room⟩
  · have ho := rown_set (j := ys.length * 4 + 2) (u := .int .i64 (i : Int)) h.own
    have e1 : (ys ++ [(⟨⟨x.p.loop, x.p.at_, i, x.p.left⟩, x.v⟩ : PV)]).length = (ys ++ [x]).length := by simp
    have e2 : (pvCs (ys ++ [x])).set (ys.length * 4 + 2) (.int .i64 (i : Int)) = pvCs (ys ++ [⟨⟨x.p.loop, x.p.at_, i, x.p.left⟩, x.v⟩]) := by
      rw [pvCs_app, pvCs_app, pvCs_one, pvCs_one, List.set_append_right _ _ (by rw [pvCs_len]; omega), pvCs_len]
      rw [show ys.length * 4 + 2 - ys.length * 4 = 2 by omega]
      rfl
    rw [e1, ← e2]
    exact ho
  · rcases List.mem_append.1 hy with hy | hy
    · exact rown_far (h.left y (List.mem_append_left _ hy)) (own_ne h.own (h.left y (List.mem_append_left _ hy)) (by decide) rfl)
    · simp only [List.mem_cons, List.not_mem_nil, or_false] at hy
      subst hy
      have hx := h.left x (by simp)
      exact rown_far hx (own_ne h.own hx (by decide) rfl)
  · have := h.apart
    rw [List.pairwise_append] at this ⊢
    refine ⟨this.1, List.pairwise_singleton _ _, fun y hy z hz => ?_⟩
    simp only [List.mem_cons, List.not_mem_nil, or_false] at hz
    subst hz
    exact this.2.2 y hy x (by simp)
  · rcases List.mem_append.1 hy with hy | hy
    · exact h.wf y (List.mem_append_left _ hy)
    · simp only [List.mem_cons, List.not_mem_nil, or_false] at hy
      subst hy
      have := h.wf x (by simp)
      exact ⟨this.1, hi, this.2.2⟩
/-- The innermost part is taken away. -/
theorem Mt.drop {ys : List PV} {x : PV} {A : Option Addr} {c q : Nat} (h : Mt W gm gt B n m vo (ys ++ [x])) (hv : vo = .slice A q c) :
    Mt (W.setCell ⟨gm, 2, none⟩ (.slice A ys.length c)) gm gt B n ⟨m.tO, m.deep, (ys.map (·.p)).reverse⟩ (.slice A ys.length c) ys := by
  subst hv
  have hq : q = (ys ++ [x]).length := by
    rcases h.own.2 with ⟨e, e2⟩ | ⟨_, _, _, e, _⟩
    · injection e with _ e _; rw [e2, e]
    · injection e
  subst hq
  have hA : A ≠ none := by
    rintro rfl
    rcases h.own.2 with ⟨e, _⟩ | ⟨_, _, _, e, _⟩
    · injection e with _ e _; simp at e
    · injection e with e _; cases e
  have hown : ∀ {e k q : Nat} {v : Value} {cs : List Value}, W.ownsRow B e k v q cs → v.ownBlock ≠ some gm := fun ho hc => by
    have := (ho.lt gm hc).1; have := h.lo; omega
  have ht := rown_take (q' := ys.length) h.own (by simp) hA
  have e2 : (pvCs (ys ++ [x])).take (ys.length * 4) = pvCs ys := by rw [pvCs_app, ← pvCs_len, List.take_left]
  rw [e2] at ht
  refine ⟨?_, h.to_.far (by simpa using Ne.symm h.lo.2.2) _, h.len, rfl, rown_far ht (hown ht), fun y hy => ?_, ?_, h.lo, by have := h.few; simp at this; omega, h.deep, fun y hy => h.wf y (List.mem_append_left _ hy), h.big, by rw [size_set]; exact h.room⟩
  · have := h.rec_.set_ 2 (.slice A ys.length c)
    simpa using this
  · have := h.left y (List.mem_append_left _ hy)
    exact rown_far this (hown this)
  · exact (List.pairwise_append.1 h.apart).1
end
end Go.Proofs.YtbkfhndmeljlcaaGreatDoor
namespace Go.Proofs.YtbkfhndmeljlcaaGreatDoor
open Go.RowKit
section
variable {W : World} {gm gt B n : Nat} {m : NSt} {vo : Value}
set_option maxHeartbeats 1000000 in
set_option maxRecDepth 100000 in
theorem inner_none (h : Mt W gm gt B n m vo []) : Calls Tryz.prog 151 #[.pointer (some ⟨gm, 0, none⟩)] W fun e w' =>
    e = .returned (.tuple #[.agg #[.bool false, .int .i64 0, .int .i64 0, .slice none 0 0], .bool false]) ∧ Chg [] W w' := by
  obtain ⟨A, c, rfl, _, _, _⟩ := rown_slice h.own
  have hr := h.rec_
  simp only [List.length_nil] at hr
  clear h
  go_enter Tryz.func151, Tryz.ntmps151
  go_upto_region 1 with fail
  have hal : Chg [] W (W.alloc (.cells #[.bool false, .int .i64 0, .int .i64 0, .slice none 0 0] 182)) := (Chg.refl [] W).alloc _
  have c2 := (hr.keep hal).cell 2
  have hN : Whole (W.alloc (.cells #[.bool false, .int .i64 0, .int .i64 0, .slice none 0 0] 182)) W.heap.size 182 [.bool false, .int .i64 0, .int .i64 0, .slice none 0 0] := Whole.new W 182 [.bool false, .int .i64 0, .int .i64 0, .slice none 0 0]
  obtain ⟨g9, hg9⟩ : ∃ g, g = W.heap.size := ⟨_, rfl⟩
  rw [← hg9] at hN ⊢
  generalize W.alloc (.cells #[.bool false, .int .i64 0, .int .i64 0, .slice none 0 0] 182) = w1 at hal c2 hN ⊢
  have f0 := hN.frozen 0
  have f1 := hN.frozen 1
  have f2 := hN.frozen 2
  have f3 := hN.frozen 3
  have k0 := hN.cell 0
  have k1 := hN.cell 1
  have k2 := hN.cell 2
  have k3 := hN.cell 3
  have HC := Lib.hid (show Chg [] W (w1) from hal)
  have HN := Lib.hid hN
  have HG := Lib.hid hg9
  clear hal hN hg9 hr
  go_wp2_with fail
  have hz := (((HN.out.set_ 0 (.bool false)).set_ 1 (.int .i64 0)).set_ 2 (.int .i64 0)).set_ 3 (.slice none 0 0)
  simp only [List.set_cons_zero, List.set_cons_succ] at hz
  have HCz := Lib.hid (((((HC.out.setCell (p := ⟨g9, 0, none⟩) (fun h => absurd h (by have := HG.out; simp only; omega)) (.bool false)).setCell (p := ⟨g9, 1, none⟩) (fun h => absurd h (by have := HG.out; simp only; omega)) (.int .i64 0)).setCell (p := ⟨g9, 2, none⟩) (fun h => absurd h (by have := HG.out; simp only; omega)) (.int .i64 0)).setCell (p := ⟨g9, 3, none⟩) (fun h => absurd h (by have := HG.out; simp only; omega)) (.slice none 0 0)))
  generalize (((w1.setCell ⟨g9, 0, none⟩ (.bool false)).setCell ⟨g9, 1, none⟩ (.int .i64 0)).setCell ⟨g9, 2, none⟩ (.int .i64 0)).setCell ⟨g9, 3, none⟩ (.slice none 0 0) = w9 at hz HCz ⊢
  clear k0 k1 k2 k3 f0 f1 f2 f3 c2
  have k0 := hz.cell 0
  have k1 := hz.cell 1
  have k2 := hz.cell 2
  have k3 := hz.cell 3
  exact bodyPost_ret (v := .tuple #[.agg #[.bool false, .int .i64 0, .int .i64 0, .slice none 0 0], .bool false]) (by simp [results, Tryz.results151, go_sem, k0, k1, k2, k3]) rfl ⟨rfl, HCz.out⟩
set_option maxHeartbeats 2000000 in
set_option maxRecDepth 100000 in
theorem inner_some {ys : List PV} {x : PV} (h : Mt W gm gt B n m vo (ys ++ [x])) : Calls Tryz.prog 151 #[.pointer (some ⟨gm, 0, none⟩)] W fun e w' =>
    e = .returned (.tuple #[.agg #[.bool x.p.loop, .int .i64 (x.p.at_ : Int), .int .i64 (x.p.waits : Int), x.v], .bool true]) ∧ Chg [] W w' := by
  obtain ⟨px, vx⟩ := x
  obtain ⟨Av, cv, e, _⟩ := own_slice (h.left ⟨px, vx⟩ (by simp))
  simp only at e
  subst e
  have hl : (ys ++ [(⟨px, .slice Av px.left.length cv⟩ : PV)]).length = ys.length + 1 := by simp
  obtain ⟨A, c, rfl, hc1, hc2, _⟩ := rown_slice h.own
  have hr := h.rec_
  rw [hl] at hr hc1
  have hf := h.few
  rw [hl] at hf
  have hal : Chg [] W (W.alloc (.cells #[.bool false, .int .i64 0, .int .i64 0, .slice none 0 0] 182)) := (Chg.refl [] W).alloc _
  have hg : ∀ j u, (pvC ⟨px, .slice Av px.left.length cv⟩)[j]? = some u → j < 4 → (pvCs (ys ++ [⟨px, .slice Av px.left.length cv⟩]))[ys.length * 4 + j]? = some u := fun j u hu hj => (pvCs_get (ys ++ [⟨px, .slice Av px.left.length cv⟩]) ys.length ⟨px, .slice Av px.left.length cv⟩ j (by simp) hj).trans hu
  obtain ⟨g, rfl, j0⟩ := rown_cell (rown_keep h.own hal) rfl (hg 0 _ rfl (by omega))
  obtain ⟨g', e, j1⟩ := rown_cell (rown_keep h.own hal) rfl (hg 1 _ rfl (by omega))
  injection e with e; injection e with e; subst e
  obtain ⟨g', e, j2⟩ := rown_cell (rown_keep h.own hal) rfl (hg 2 _ rfl (by omega))
  injection e with e; injection e with e; subst e
  obtain ⟨g', e, j3⟩ := rown_cell (rown_keep h.own hal) rfl (hg 3 _ rfl (by omega))
  injection e with e; injection e with e; subst e
  generalize ys.length = q at *
  clear hg hl h
  rw [Nat.add_zero] at j0
  have hsub : IntKind.i64.wrap (((q + 1 : Nat) : Int) - 1) = (q : Int) := by rw [IntWalk.i64_in _ (by omega)]; omega
  have hne : (((q + 1 : Nat) : Int) == 0) = false := by simp; omega
  have hq0 : (0 : Int) ≤ (q : Int) := by omega
  have hq1 : (q : Int) < ((q + 1 : Nat) : Int) := by omega
  go_enter Tryz.func151, Tryz.ntmps151
  go_upto_region 1 with fail
  have c2 := (hr.keep hal).cell 2
  have hN : Whole (W.alloc (.cells #[.bool false, .int .i64 0, .int .i64 0, .slice none 0 0] 182)) W.heap.size 182 [.bool false, .int .i64 0, .int .i64 0, .slice none 0 0] := Whole.new W 182 [.bool false, .int .i64 0, .int .i64 0, .slice none 0 0]
  obtain ⟨g9, hg9⟩ : ∃ g, g = W.heap.size := ⟨_, rfl⟩
  rw [← hg9] at hN ⊢
  generalize W.alloc (.cells #[.bool false, .int .i64 0, .int .i64 0, .slice none 0 0] 182) = w1 at hal c2 hN j0 j1 j2 j3 ⊢
  have f0 := hN.frozen 0
  have f1 := hN.frozen 1
  have f2 := hN.frozen 2
  have f3 := hN.frozen 3
  have k0 := hN.cell 0
  have k1 := hN.cell 1
  have k2 := hN.cell 2
  have k3 := hN.cell 3
  have HC := Lib.hid (show Chg [] W (w1) from hal)
  have HN := Lib.hid hN
  have HG := Lib.hid hg9
  clear hal hN hg9 hr
  go_wp2_with fail
  go_region
  have hz := (((HN.out.set_ 0 (.bool px.loop)).set_ 1 (.int .i64 (px.at_ : Int))).set_ 2 (.int .i64 (px.waits : Int))).set_ 3 (.slice Av px.left.length cv)
  simp only [List.set_cons_zero, List.set_cons_succ] at hz
  have HCz := Lib.hid (((((HC.out.setCell (p := ⟨g9, 0, none⟩) (fun h => absurd h (by have := HG.out; simp only; omega)) (.bool px.loop)).setCell (p := ⟨g9, 1, none⟩) (fun h => absurd h (by have := HG.out; simp only; omega)) (.int .i64 (px.at_ : Int))).setCell (p := ⟨g9, 2, none⟩) (fun h => absurd h (by have := HG.out; simp only; omega)) (.int .i64 (px.waits : Int))).setCell (p := ⟨g9, 3, none⟩) (fun h => absurd h (by have := HG.out; simp only; omega)) (.slice Av px.left.length cv)))
  have hz2 := hz.drew
  have HCz2 := Lib.hid HCz.out.drew
  generalize ((((w1.setCell ⟨g9, 0, none⟩ (.bool px.loop)).setCell ⟨g9, 1, none⟩ (.int .i64 (px.at_ : Int))).setCell ⟨g9, 2, none⟩ (.int .i64 (px.waits : Int))).setCell ⟨g9, 3, none⟩ (.slice Av px.left.length cv)).drew = w9 at hz2 HCz2 ⊢
  clear k0 k1 k2 k3 f0 f1 f2 f3 c2 j0 j1 j2 j3 hz HCz
  have k0 := hz2.cell 0
  have k1 := hz2.cell 1
  have k2 := hz2.cell 2
  have k3 := hz2.cell 3
  go_wp2_with fail
  exact bodyPost_ret (v := .tuple #[.agg #[.bool px.loop, .int .i64 (px.at_ : Int), .int .i64 (px.waits : Int), .slice Av px.left.length cv], .bool true]) (by simp [results, Tryz.results151, go_sem, k0, k1, k2, k3]) rfl ⟨rfl, HCz2.out⟩
end
end Go.Proofs.YtbkfhndmeljlcaaGreatDoor
