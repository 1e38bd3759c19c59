/-
  EC: NestMem, NestIn, EndOk, ValueE.
-/
import Derived.Test.YtfhgnoajfipjdaaZEC4
import Derived.Test.YtfhgnoajfipjdaaZEC5
import Derived.Test.YtfhgnoajfipjdaaZEC8
import Derived.Deep.DeepCutAuto
import Derived.RegionTactic
import Derived.ChangeAlike
namespace Go.Proofs.Ytfhgnoajfipjdaa
open Go.RowKit
/-- What lies below B stays, but for the blocks of T. -/
structure Lo (B : Nat) (T : List Nat) (a b : World) : Prop where
  os : b.os = a.os
  tape : b.tape = a.tape
  output : b.output = a.output
  size : a.heap.size ≤ b.heap.size
  block : ∀ k, k < B → k < a.heap.size → k ∉ T → b.heap[k]? = a.heap[k]?
theorem Lo.of_chg {B : Nat} {T T' : List Nat} {a b : World} (h : Chg T' a b) (hT : ∀ i ∈ T', B ≤ i ∨ i ∈ T) : Lo B T a b :=
  ⟨h.os, h.tape, h.output, h.size, fun k hB hk hn => h.block k hk fun hm => by rcases hT k hm with h | h; omega; exact hn h⟩
theorem Lo.refl (B : Nat) (T : List Nat) (a : World) : Lo B T a a := Lo.of_chg (Chg.refl [] a) fun i hi => by cases hi
theorem Lo.trans {B : Nat} {T : List Nat} {a b c : World} (h : Lo B T a b) (k : Lo B T b c) : Lo B T a c :=
  ⟨k.os.trans h.os, k.tape.trans h.tape, k.output.trans h.output, Nat.le_trans h.size k.size, fun i hB hi hn => (k.block i hB (Nat.lt_of_lt_of_le hi h.size) hn).trans (h.block i hB hi hn)⟩
theorem Lo.chg {B : Nat} {T : List Nat} {w a b : World} (h0 : Chg [] w a) (h : Lo B T a b) (hB : w.heap.size ≤ B) (hT : ∀ i ∈ T, w.heap.size ≤ i) : Chg [] w b :=
  ⟨h.os.trans h0.os, h.tape.trans h0.tape, h.output.trans h0.output, Nat.le_trans h0.size h.size, fun k hk _ => (h.block k (by omega) (Nat.lt_of_lt_of_le hk h0.size) fun hm => by have := hT k hm; omega).trans (h0.block k hk (by simp))⟩
theorem Lo.of_grown {B B2 e k n : Nat} {T : List Nat} {v : Value} {xs : List Value} {a b : World} (ho : a.ownsRow B2 e k v n xs) (hB : B ≤ B2) (hg : a.grownBy b v.ownBlock) : Lo B T a b :=
  ⟨hg.os, hg.tape, hg.output, hg.size, fun i hi hk _ => hg.block i hk fun hc => by have := (ho.lt i hc.symm).1; omega⟩
/-- Numbers, as cells. -/
def nts (l : List Nat) : List Value := l.map fun k : Nat => Value.int .i64 (k : Int)
theorem nts_len (l : List Nat) : (nts l).length = l.length := by simp [nts]
theorem nts_app (l m : List Nat) : nts (l ++ m) = nts l ++ nts m := by simp [nts]
theorem nms_set (l : List Int) (i : Nat) (x : Int) : (nms l).set i (.int .i64 x) = nms (l.set i x) := by simp [nms]
/-- A part, and the row of its left ones. -/
structure PV where
  p : NPart
  v : Value
def pvC (x : PV) : List Value := [.bool x.p.loop, .int .i64 (x.p.at_ : Int), .int .i64 (x.p.waits : Int), x.v]
def pvCs : List PV → List Value
  | [] => []
  | x :: l => pvC x ++ pvCs l
theorem pvCs_len : ∀ l, (pvCs l).length = l.length * 4
  | [] => rfl
  | x :: l => by rw [pvCs, List.length_append, pvCs_len l]; simp [pvC]; omega
theorem pvCs_app : ∀ l m, pvCs (l ++ m) = pvCs l ++ pvCs m
  | [], _ => rfl
  | x :: l, m => by rw [List.cons_append, pvCs, pvCs, pvCs_app l m, List.append_assoc]
theorem pvCs_one (x : PV) : pvCs [x] = pvC x := by simp [pvCs]
theorem pvCs_get : ∀ (l : List PV) (k : Nat) (x : PV) (j : Nat), l[k]? = some x → j < 4 → (pvCs l)[k * 4 + j]? = (pvC x)[j]?
  | [], k, x, j, h, hj => by simp at h
  | y :: l, 0, x, j, h, hj => by
    simp at h; subst h
    rw [pvCs, List.getElem?_append_left (by simp [pvC]; omega)]
    congr 1; omega
  | y :: l, k + 1, x, j, h, hj => by
    simp at h
    rw [pvCs, List.getElem?_append_right (by simp [pvC]; omega)]
    rw [← pvCs_get l k x j h hj]
    congr 1; simp [pvC]; omega
/-- What a match has in memory: the outer parts first. -/
structure Mt (W : World) (gm gt B n : Nat) (m : NSt) (vo : Value) (xs : List PV) : Prop where
  rec_ : Whole W gm 229 [.slice (some ⟨gt, 0, none⟩) n n, .int .i64 (m.deep : Int), vo]
  to_ : Whole W gt 3 (nms m.tO)
  len : m.tO.length = n
  op : m.op = (xs.map (·.p)).reverse
  own : W.ownsRow B 248 4 vo xs.length (pvCs xs)
  left : ∀ x ∈ xs, W.ownsRow B 3 1 x.v x.p.left.length (nts x.p.left)
  apart : xs.Pairwise fun x y => x.v.ownBlock = none ∨ x.v.ownBlock ≠ y.v.ownBlock
  lo : gm < B ∧ gt < B ∧ gm ≠ gt
  few : xs.length ≤ 16
  deep : m.deep ≤ 16
  wf : ∀ x ∈ xs, x.p.at_ < n ∧ x.p.waits < n ∧ x.p.left.length ≤ n ∧ ∀ j ∈ x.p.left, j < n
  big : n ≤ 100000
  room : B ≤ W.heap.size
theorem size_set (W : World) (p : Addr) (u : Value) : (W.setCell p u).heap.size = W.heap.size := by simp [World.setCell]
section
variable {W W' : World} {gm gt B n : Nat} {m : NSt} {vo : Value} {xs : List PV}
theorem Mt.keep (h : Mt W gm gt B n m vo xs) (hc : Chg [] W W') : Mt W' gm gt B n m vo xs :=
  { h with rec_ := h.rec_.keep hc, to_ := h.to_.keep hc, own := rown_keep h.own hc, left := fun x hx => own_keep (h.left x hx) hc, room := Nat.le_trans h.room hc.size }
theorem rown_set {e k q g c j : Nat} {u : Value} {cs : List Value} (h : W.ownsRow B e k (.slice (some ⟨g, 0, none⟩) q c) q cs) : (W.setCell ⟨g, j, none⟩ u).ownsRow B e k (.slice (some ⟨g, 0, none⟩) q c) q (cs.set j u) := by
  refine ⟨by rw [List.length_set]; exact h.1, ?_⟩
  rcases h.2 with ⟨h', _⟩ | ⟨g', cap, cur, h', hb, hg, hn, hc, hs, ht⟩
  · cases h'
  · injection h' with h1 _ h3
    injection h1 with h1
    injection h1 with h1
    subst h1
    subst h3
    refine .inr ⟨g, c, cur.setIfInBounds j u, rfl, hb, ?_, hn, hc, by simpa using hs, ?_⟩
    · have := heap_setCell_same W g j cur e u hg
      simpa using this
    · rw [Array.toList_setIfInBounds, List.take_set, ht]
theorem rown_frozen {e k q g c j : Nat} {cs : List Value} (h : W.ownsRow B e k (.slice (some ⟨g, 0, none⟩) q c) q cs) : W.frozen? ⟨g, j, none⟩ = false := by
  rcases h.2 with ⟨h', _⟩ | ⟨g', cap, cur, h', hb, hg, hn, hc, hs, ht⟩
  · cases h'
  · injection h' with h1 _ h3
    injection h1 with h1
    injection h1 with h1
    subst h1
    exact frozen_of_row W g j cur e hg
theorem rown_far {e k q : Nat} {v u : Value} {cs : List Value} {p : Addr} (h : W.ownsRow B e k v q cs) (hp : v.ownBlock ≠ some p.block) : (W.setCell p u).ownsRow B e k v q cs := by
  refine ⟨h.1, h.2.imp id ?_⟩
  rintro ⟨g, cap, cur, rfl, hb, hg, r⟩
  exact ⟨g, cap, cur, rfl, hb, (Below.heap_setCell W p u g (fun hc => hp (by rw [← hc]; rfl))).trans hg, r⟩
theorem own_ne {B2 e k q e2 k2 q2 : Nat} {v v2 : Value} {cs cs2 : List Value} (h : W.ownsRow B e k v q cs) (h2 : W.ownsRow B2 e2 k2 v2 q2 cs2) (hne : e ≠ e2) {g : Nat} (hg : v.ownBlock = some g) : v2.ownBlock ≠ some g := by
  intro hg2
  rcases h.2 with ⟨rfl, _⟩ | ⟨a, cap, cur, rfl, _, ha, _⟩
  · cases hg
  rcases h2.2 with ⟨rfl, _⟩ | ⟨b, cap2, cur2, rfl, _, hb, _⟩
  · cases hg2
  injection hg with hg
  injection hg2 with hg2
  simp only at hg hg2
  rw [hg] at ha
  rw [hg2] at hb
  rw [ha] at hb
  injection hb with hb
  injection hb with _ hb _
  exact hne hb
theorem rown_take {e k q q' : Nat} {A : Option Addr} {c : Nat} {cs : List Value} (h : W.ownsRow B e k (.slice A q c) q cs) (hq : q' ≤ q) (h0 : A ≠ none) : W.ownsRow B e k (.slice A q' c) q' (cs.take (q' * k)) := by
  have hl := h.1
  refine ⟨by rw [List.length_take, hl]; exact Nat.min_eq_left (Nat.mul_le_mul_right _ hq), ?_⟩
  rcases h.2 with ⟨h', _⟩ | ⟨g', cap, cur, h', hb, hg, hn, hc, hs, ht⟩
  · injection h' with h1; exact absurd h1 h0
  · injection h' with h1 _ h3
    subst h1
    subst h3
    exact .inr ⟨g', c, cur, rfl, hb, hg, by omega, hc, hs, by rw [← ht, List.take_take, Nat.min_eq_left (Nat.mul_le_mul_right _ hq)]⟩
/-- A place of 'to' is written. -/
theorem Mt.poke (h : Mt W gm gt B n m vo xs) (j : Nat) (x : Int) : Mt (W.setCell ⟨gt, j, none⟩ (.int .i64 x)) gm gt B n ⟨m.tO.set j x, m.deep, m.op⟩ vo xs := by
  have hown : ∀ {e k q : Nat} {v : Value} {cs : List Value}, W.ownsRow B e k v q cs → v.ownBlock ≠ some gt := fun ho hc => by
    have := (ho.lt gt hc).1; have := h.lo; omega
  refine { h with rec_ := h.rec_.far (by simpa using h.lo.2.2) _, to_ := ?_, len := by rw [List.length_set]; exact h.len, own := rown_far h.own (hown h.own), left := fun y hy => rown_far (h.left y hy) (hown (h.left y hy)), room := by rw [size_set]; exact h.room }
  have := h.to_.set_ j (.int .i64 x)
  rwa [nms_set] at this
/-- The innermost part waits elsewhere. -/
theorem Mt.waits {ys : List PV} {x : PV} {g c q : Nat} (h : Mt W gm gt B n m vo (ys ++ [x])) (hv : vo = .slice (some ⟨g, 0, none⟩) q c) (i : Nat) (hi : i < n) :
    Mt (W.setCell ⟨g, ys.length * 4 + 2, none⟩ (.int .i64 (i : Int))) gm gt B n ⟨m.tO, m.deep, ⟨x.p.loop, x.p.at_, i, x.p.left⟩ :: (ys.map (·.p)).reverse⟩ vo (ys ++ [⟨⟨x.p.loop, x.p.at_, i, x.p.left⟩, x.v⟩]) := by
  subst hv
  have hq : q = (ys ++ [x]).length := by
    rcases h.own.2 with ⟨e, _⟩ | ⟨_, _, _, e, _⟩
    · cases e
    · injection e
  subst hq
  have hB := (h.own.lt g rfl).1
  have hlo := h.lo
  refine ⟨h.rec_.far (by simp only; omega) _, h.to_.far (by simp only; omega) _, h.len, by simp, ?_, fun y hy => ?_, ?_, h.lo, by have := h.few; simpa using this, h.deep, fun y hy => ?_, h.big, by rw [size_set]; exact h.room⟩
  · have ho := rown_set (j := ys.length * 4 + 2) (u := .int .i64 (i : Int)) h.own
    have e1 : (ys ++ [(⟨⟨x.p.loop, x.p.at_, i, x.p.left⟩, x.v⟩ : PV)]).length = (ys ++ [x]).length := by simp
    have e2 : (pvCs (ys ++ [x])).set (ys.length * 4 + 2) (.int .i64 (i : Int)) = pvCs (ys ++ [⟨⟨x.p.loop, x.p.at_, i, x.p.left⟩, x.v⟩]) := by
      rw [pvCs_app, pvCs_app, pvCs_one, pvCs_one, List.set_append_right _ _ (by rw [pvCs_len]; omega), pvCs_len]
      rw [show ys.length * 4 + 2 - ys.length * 4 = 2 by omega]
      rfl
    rw [e1, ← e2]
    exact ho
  · rcases List.mem_append.1 hy with hy | hy
    · exact rown_far (h.left y (List.mem_append_left _ hy)) (own_ne h.own (h.left y (List.mem_append_left _ hy)) (by decide) rfl)
    · simp only [List.mem_cons, List.not_mem_nil, or_false] at hy
      subst hy
      have hx := h.left x (by simp)
      exact rown_far hx (own_ne h.own hx (by decide) rfl)
  · have := h.apart
    rw [List.pairwise_append] at this ⊢
    refine ⟨this.1, List.pairwise_singleton _ _, fun y hy z hz => ?_⟩
    simp only [List.mem_cons, List.not_mem_nil, or_false] at hz
    subst hz
    exact this.2.2 y hy x (by simp)
  · rcases List.mem_append.1 hy with hy | hy
    · exact h.wf y (List.mem_append_left _ hy)
    · simp only [List.mem_cons, List.not_mem_nil, or_false] at hy
      subst hy
      have := h.wf x (by simp)
      exact ⟨this.1, hi, this.2.2⟩
/-- The innermost part is taken away. -/
theorem Mt.drop {ys : List PV} {x : PV} {A : Option Addr} {c q : Nat} (h : Mt W gm gt B n m vo (ys ++ [x])) (hv : vo = .slice A q c) :
    Mt (W.setCell ⟨gm, 2, none⟩ (.slice A ys.length c)) gm gt B n ⟨m.tO, m.deep, (ys.map (·.p)).reverse⟩ (.slice A ys.length c) ys := by
  subst hv
  have hq : q = (ys ++ [x]).length := by
    rcases h.own.2 with ⟨e, e2⟩ | ⟨_, _, _, e, _⟩
    · injection e with _ e _; rw [e2, e]
    · injection e
  subst hq
  have hA : A ≠ none := by
    rintro rfl
    rcases h.own.2 with ⟨e, _⟩ | ⟨_, _, _, e, _⟩
    · injection e with _ e _; simp at e
    · injection e with e _; cases e
  have hown : ∀ {e k q : Nat} {v : Value} {cs : List Value}, W.ownsRow B e k v q cs → v.ownBlock ≠ some gm := fun ho hc => by
    have := (ho.lt gm hc).1; have := h.lo; omega
  have ht := rown_take (q' := ys.length) h.own (by simp) hA
  have e2 : (pvCs (ys ++ [x])).take (ys.length * 4) = pvCs ys := by rw [pvCs_app, ← pvCs_len, List.take_left]
  rw [e2] at ht
  refine ⟨?_, h.to_.far (by simpa using Ne.symm h.lo.2.2) _, h.len, rfl, rown_far ht (hown ht), fun y hy => ?_, ?_, h.lo, by have := h.few; simp at this; omega, h.deep, fun y hy => h.wf y (List.mem_append_left _ hy), h.big, by rw [size_set]; exact h.room⟩
  · have := h.rec_.set_ 2 (.slice A ys.length c)
    simpa using this
  · have := h.left y (List.mem_append_left _ hy)
    exact rown_far this (hown this)
  · exact (List.pairwise_append.1 h.apart).1
end
end Go.Proofs.Ytfhgnoajfipjdaa
namespace Go.Proofs.Ytfhgnoajfipjdaa
open Go.RowKit
section
variable {W : World} {gm gt B n : Nat} {m : NSt} {vo : Value}
set_option maxHeartbeats 1000000 in
theorem inner_none (h : Mt W gm gt B n m vo []) : Calls Try.prog 189 #[.pointer (some ⟨gm, 0, none⟩)] W fun e w' =>
    e = .returned (.tuple #[.agg #[.bool false, .int .i64 0, .int .i64 0, .slice none 0 0], .bool false]) ∧ Chg [] W w' := by
  obtain ⟨A, c, rfl, _, _, _⟩ := rown_slice h.own
  have hr := h.rec_
  simp only [List.length_nil] at hr
  clear h
  go_enter Try.func189, Try.ntmps189
  go_upto_region 1 with fail
  have hal : Chg [] W (W.alloc (.cells #[.bool false, .int .i64 0, .int .i64 0, .slice none 0 0] 248)) := (Chg.refl [] W).alloc _
  have c2 := (hr.keep hal).cell 2
  have hN : Whole (W.alloc (.cells #[.bool false, .int .i64 0, .int .i64 0, .slice none 0 0] 248)) W.heap.size 248 [.bool false, .int .i64 0, .int .i64 0, .slice none 0 0] := Whole.new W 248 [.bool false, .int .i64 0, .int .i64 0, .slice none 0 0]
  obtain ⟨g9, hg9⟩ : ∃ g, g = W.heap.size := ⟨_, rfl⟩
  rw [← hg9] at hN ⊢
  generalize W.alloc (.cells #[.bool false, .int .i64 0, .int .i64 0, .slice none 0 0] 248) = w1 at hal c2 hN ⊢
  have f0 := hN.frozen 0
  have f1 := hN.frozen 1
  have f2 := hN.frozen 2
  have f3 := hN.frozen 3
  have k0 := hN.cell 0
  have k1 := hN.cell 1
  have k2 := hN.cell 2
  have k3 := hN.cell 3
  have HC := Lib.hid (show Chg [] W (w1) from hal)
  have HN := Lib.hid hN
  have HG := Lib.hid hg9
  clear hal hN hg9 hr
  go_wp2_with fail
  have hz := (((HN.out.set_ 0 (.bool false)).set_ 1 (.int .i64 0)).set_ 2 (.int .i64 0)).set_ 3 (.slice none 0 0)
  simp only [List.set_cons_zero, List.set_cons_succ] at hz
  have HCz := Lib.hid (((((HC.out.setCell (p := ⟨g9, 0, none⟩) (fun h => absurd h (by have := HG.out; simp only; omega)) (.bool false)).setCell (p := ⟨g9, 1, none⟩) (fun h => absurd h (by have := HG.out; simp only; omega)) (.int .i64 0)).setCell (p := ⟨g9, 2, none⟩) (fun h => absurd h (by have := HG.out; simp only; omega)) (.int .i64 0)).setCell (p := ⟨g9, 3, none⟩) (fun h => absurd h (by have := HG.out; simp only; omega)) (.slice none 0 0)))
  generalize (((w1.setCell ⟨g9, 0, none⟩ (.bool false)).setCell ⟨g9, 1, none⟩ (.int .i64 0)).setCell ⟨g9, 2, none⟩ (.int .i64 0)).setCell ⟨g9, 3, none⟩ (.slice none 0 0) = w9 at hz HCz ⊢
  clear k0 k1 k2 k3 f0 f1 f2 f3 c2
  have k0 := hz.cell 0
  have k1 := hz.cell 1
  have k2 := hz.cell 2
  have k3 := hz.cell 3
  exact bodyPost_ret (v := .tuple #[.agg #[.bool false, .int .i64 0, .int .i64 0, .slice none 0 0], .bool false]) (by simp [results, Try.results189, go_sem, k0, k1, k2, k3]) rfl ⟨rfl, HCz.out⟩
set_option maxHeartbeats 2000000 in
theorem inner_some {ys : List PV} {x : PV} (h : Mt W gm gt B n m vo (ys ++ [x])) : Calls Try.prog 189 #[.pointer (some ⟨gm, 0, none⟩)] W fun e w' =>
    e = .returned (.tuple #[.agg #[.bool x.p.loop, .int .i64 (x.p.at_ : Int), .int .i64 (x.p.waits : Int), x.v], .bool true]) ∧ Chg [] W w' := by
  obtain ⟨px, vx⟩ := x
  obtain ⟨Av, cv, e, _⟩ := own_slice (h.left ⟨px, vx⟩ (by simp))
  simp only at e
  subst e
  have hl : (ys ++ [(⟨px, .slice Av px.left.length cv⟩ : PV)]).length = ys.length + 1 := by simp
  obtain ⟨A, c, rfl, hc1, hc2, _⟩ := rown_slice h.own
  have hr := h.rec_
  rw [hl] at hr hc1
  have hf := h.few
  rw [hl] at hf
  have hal : Chg [] W (W.alloc (.cells #[.bool false, .int .i64 0, .int .i64 0, .slice none 0 0] 248)) := (Chg.refl [] W).alloc _
  have hg : ∀ j u, (pvC ⟨px, .slice Av px.left.length cv⟩)[j]? = some u → j < 4 → (pvCs (ys ++ [⟨px, .slice Av px.left.length cv⟩]))[ys.length * 4 + j]? = some u := fun j u hu hj => (pvCs_get (ys ++ [⟨px, .slice Av px.left.length cv⟩]) ys.length ⟨px, .slice Av px.left.length cv⟩ j (by simp) hj).trans hu
  obtain ⟨g, rfl, j0⟩ := rown_cell (rown_keep h.own hal) rfl (hg 0 _ rfl (by omega))
  obtain ⟨g', e, j1⟩ := rown_cell (rown_keep h.own hal) rfl (hg 1 _ rfl (by omega))
  injection e with e; injection e with e; subst e
  obtain ⟨g', e, j2⟩ := rown_cell (rown_keep h.own hal) rfl (hg 2 _ rfl (by omega))
  injection e with e; injection e with e; subst e
  obtain ⟨g', e, j3⟩ := rown_cell (rown_keep h.own hal) rfl (hg 3 _ rfl (by omega))
  injection e with e; injection e with e; subst e
  generalize ys.length = q at *
  clear hg hl h
  rw [Nat.add_zero] at j0
  have hsub : IntKind.i64.wrap (((q + 1 : Nat) : Int) - 1) = (q : Int) := by rw [IntWalk.i64_in _ (by omega)]; omega
  have hne : (((q + 1 : Nat) : Int) == 0) = false := by simp; omega
  have hq0 : (0 : Int) ≤ (q : Int) := by omega
  have hq1 : (q : Int) < ((q + 1 : Nat) : Int) := by omega
  go_enter Try.func189, Try.ntmps189
  go_upto_region 1 with fail
  have c2 := (hr.keep hal).cell 2
  have hN : Whole (W.alloc (.cells #[.bool false, .int .i64 0, .int .i64 0, .slice none 0 0] 248)) W.heap.size 248 [.bool false, .int .i64 0, .int .i64 0, .slice none 0 0] := Whole.new W 248 [.bool false, .int .i64 0, .int .i64 0, .slice none 0 0]
  obtain ⟨g9, hg9⟩ : ∃ g, g = W.heap.size := ⟨_, rfl⟩
  rw [← hg9] at hN ⊢
  generalize W.alloc (.cells #[.bool false, .int .i64 0, .int .i64 0, .slice none 0 0] 248) = w1 at hal c2 hN j0 j1 j2 j3 ⊢
  have f0 := hN.frozen 0
  have f1 := hN.frozen 1
  have f2 := hN.frozen 2
  have f3 := hN.frozen 3
  have k0 := hN.cell 0
  have k1 := hN.cell 1
  have k2 := hN.cell 2
  have k3 := hN.cell 3
  have HC := Lib.hid (show Chg [] W (w1) from hal)
  have HN := Lib.hid hN
  have HG := Lib.hid hg9
  clear hal hN hg9 hr
  go_wp2_with fail
  go_region
  have hz := (((HN.out.set_ 0 (.bool px.loop)).set_ 1 (.int .i64 (px.at_ : Int))).set_ 2 (.int .i64 (px.waits : Int))).set_ 3 (.slice Av px.left.length cv)
  simp only [List.set_cons_zero, List.set_cons_succ] at hz
  have HCz := Lib.hid (((((HC.out.setCell (p := ⟨g9, 0, none⟩) (fun h => absurd h (by have := HG.out; simp only; omega)) (.bool px.loop)).setCell (p := ⟨g9, 1, none⟩) (fun h => absurd h (by have := HG.out; simp only; omega)) (.int .i64 (px.at_ : Int))).setCell (p := ⟨g9, 2, none⟩) (fun h => absurd h (by have := HG.out; simp only; omega)) (.int .i64 (px.waits : Int))).setCell (p := ⟨g9, 3, none⟩) (fun h => absurd h (by have := HG.out; simp only; omega)) (.slice Av px.left.length cv)))
  have hz2 := hz.drew
  have HCz2 := Lib.hid HCz.out.drew
  generalize ((((w1.setCell ⟨g9, 0, none⟩ (.bool px.loop)).setCell ⟨g9, 1, none⟩ (.int .i64 (px.at_ : Int))).setCell ⟨g9, 2, none⟩ (.int .i64 (px.waits : Int))).setCell ⟨g9, 3, none⟩ (.slice Av px.left.length cv)).drew = w9 at hz2 HCz2 ⊢
  clear k0 k1 k2 k3 f0 f1 f2 f3 c2 j0 j1 j2 j3 hz HCz
  have k0 := hz2.cell 0
  have k1 := hz2.cell 1
  have k2 := hz2.cell 2
  have k3 := hz2.cell 3
  go_wp2_with fail
  exact bodyPost_ret (v := .tuple #[.agg #[.bool px.loop, .int .i64 (px.at_ : Int), .int .i64 (px.waits : Int), .slice Av px.left.length cv], .bool true]) (by simp [results, Try.results189, go_sem, k0, k1, k2, k3]) rfl ⟨rfl, HCz2.out⟩
end
end Go.Proofs.Ytfhgnoajfipjdaa
namespace Go.Proofs.Ytfhgnoajfipjdaa
open Go.RowKit
def okRev : List UInt8 → Bool
  | [] => false
  | b :: r => if b = 59 then okRev r else b != 58 && b != 93 && b != 126 && b != 161 && b != 32
def EndOk (s : ByteArray) : Prop := okRev s.data.toList.reverse = true
theorem okRev_add : ∀ (x y : List UInt8), okRev x = true → okRev (x ++ y) = true
  | [], _, h => by cases h
  | b :: r, y, h => by
    rw [List.cons_append, okRev]
    rw [okRev] at h
    by_cases hb : b = 59
    · rw [if_pos hb] at h ⊢; exact okRev_add r y h
    · rw [if_neg hb] at h ⊢; exact h
theorem data_app (a b : ByteArray) : (a ++ b).data.toList = a.data.toList ++ b.data.toList := by rw [ByteArray.data_append, Array.toList_append]
theorem EndOk.app (a : ByteArray) {b : ByteArray} (h : EndOk b) : EndOk (a ++ b) := by
  unfold EndOk at h ⊢
  rw [data_app, List.reverse_append]
  exact okRev_add _ _ h
theorem EndOk.semi {a : ByteArray} (h : EndOk a) : EndOk (a ++ ⟨#[59]⟩) := by
  unfold EndOk at h ⊢
  rw [data_app, List.reverse_append]
  exact h
theorem end_digit (r : Nat) (h : r < 10) : EndOk (Utf8.encode (48 + (r : Int))) := by
  have : r = 0 ∨ r = 1 ∨ r = 2 ∨ r = 3 ∨ r = 4 ∨ r = 5 ∨ r = 6 ∨ r = 7 ∨ r = 8 ∨ r = 9 := by omega
  rcases this with rfl | rfl | rfl | rfl | rfl | rfl | rfl | rfl | rfl | rfl <;> (unfold EndOk; decide +kernel)
theorem end_low (r : Nat) (h : r < 4) : EndOk (Utf8.encode (97 + (r : Int))) := by
  have : r = 0 ∨ r = 1 ∨ r = 2 ∨ r = 3 := by omega
  rcases this with rfl | rfl | rfl | rfl <;> (unfold EndOk; decide +kernel)
theorem end_name (i : Int) (h : i ∈ ([102, 103, 945, 104, 19990] : List Int)) : EndOk (Utf8.encode i) := by
  simp only [List.mem_cons, List.not_mem_nil, or_false] at h
  rcases h with rfl | rfl | rfl | rfl | rfl <;> (unfold EndOk; decide +kernel)
/-- '+' of two texts, with the second's end. -/
theorem addE (a b : ByteArray) (m k : Nat) (ha : a.size ≤ m) (hb : b.size ≤ k) (h : m + k ≤ 1000000) (he : EndOk b) : ∃ y : ByteArray, y.size ≤ m + k ∧ (∀ W, (Op.stringOp .add a b).run Try.prog W = .ok (.string y) W) ∧ Hid (EndOk y) :=
  ⟨a ++ b, by rw [ByteArray.size_append']; omega, fun W => run_string_add_sum W a b (by omega), Lib.hid (he.app a)⟩
theorem addSemi (a : ByteArray) (m : Nat) (ha : a.size ≤ m) (h : m + 1 ≤ 1000000) (he : EndOk a) : ∃ y : ByteArray, y.size ≤ m + 1 ∧ (∀ W, (Op.stringOp .add a ⟨#[59]⟩).run Try.prog W = .ok (.string y) W) ∧ Hid (EndOk y) :=
  ⟨a ++ ⟨#[59]⟩, by rw [ByteArray.size_append']; have : (⟨#[59]⟩ : ByteArray).size = 1 := rfl; omega, fun W => run_string_add_sum W a _ (by have : (⟨#[59]⟩ : ByteArray).size = 1 := rfl; omega), Lib.hid he.semi⟩
def IsTxtE (m : Nat) (v : Value) : Prop := ∃ s : ByteArray, v = .string s ∧ s.size ≤ m ∧ EndOk s
theorem opV_end : ∀ x ∈ opV, IsTxtE 3 x := by intro x h; simp only [opV, List.mem_cons, List.not_mem_nil, or_false] at h; rcases h with rfl | rfl | rfl | rfl | rfl | rfl | rfl | rfl | rfl | rfl | rfl | rfl <;> exact ⟨_, rfl, by decide, by unfold EndOk; decide +kernel⟩
theorem onV_end : ∀ x ∈ onV, IsTxtE 3 x := by intro x h; simp only [onV, List.mem_cons, List.not_mem_nil, or_false] at h; rcases h with rfl | rfl | rfl | rfl | rfl | rfl | rfl <;> exact ⟨_, rfl, by decide, by unfold EndOk; decide +kernel⟩
/-- Some text of at most so many bytes. -/
def TxtPostE (m : Nat) (w : World) (e : Ending) (w' : World) : Prop := ∃ s : ByteArray, e = .returned (.string s) ∧ s.size ≤ m ∧ Chg [] w w' ∧ Hid (EndOk s)
set_option maxHeartbeats 1000000 in
theorem digitsE_any : ∀ (k n : Nat), n < 10 ^ (k + 1) → k ≤ 10 → ∀ w : World, Calls Try.prog 91 #[.int .i64 (n : Int)] w (TxtPostE (4 * (k + 1)) w)
  | k, n, hn, hk, w => by
    have hp : 10 ^ (k + 1) ≤ 10 ^ 11 := Nat.pow_le_pow_right (by omega) (by omega)
    have hn2 : n < 100000000000 := Nat.lt_of_lt_of_le hn hp
    clear hp
    by_cases h10 : 10 ≤ n
    · match k, hn, hk with
      | 0, hn, hk => omega
      | k + 1, hn, hk =>
        have IH := Lib.hid (fun W => digitsE_any k (n / 10) (by rw [Nat.pow_succ] at hn; omega) (by omega) W)
        have hq : (n : Int).tdiv 10 = ((n / 10 : Nat) : Int) := rfl
        have hr : (n : Int).tmod 10 = ((n % 10 : Nat) : Int) := rfl
        generalize hgr : n % 10 = r at hr
        have hr9 : r < 10 := by omega
        have hq9 : n / 10 < 100000000000 := by omega
        generalize n / 10 = q at *
        clear hn hgr
        go_enter Try.func91, Try.ntmps91
        go_wp2_with fail
        refine (IH.out _).mono ?_
        rintro e w1 ⟨s, rfl, hs, hc, _⟩
        obtain ⟨y, hy⟩ : ∃ y, s ++ Utf8.encode (48 + (r : Int)) = y := ⟨_, rfl⟩
        have HE := Lib.hid (show EndOk y from by rw [← hy]; exact (end_digit r (by omega)).app s)
        have hys : y.size ≤ 4 * (k + 1 + 1) := by rw [← hy, ByteArray.size_append']; have := encode_le4 (48 + (r : Int)); omega
        have hadd : (Op.stringOp .add s (Utf8.encode (48 + (r : Int)))).run Try.prog w1 = .ok (.string y) w1 := by
          rw [← hy]; exact run_string_add_sum _ _ _ (by have := encode_le4 (48 + (r : Int)); omega)
        clear hy
        go_wp2_with fail
        go_ret
        exact ⟨y, rfl, hys, hc, HE⟩
    · go_enter Try.func91, Try.ntmps91
      go_wp2_with fail
      go_ret
      exact ⟨_, rfl, by have := encode_le4 (48 + (n : Int)); omega, Chg.refl _ _, Lib.hid (end_digit n (by omega))⟩
end Go.Proofs.Ytfhgnoajfipjdaa
namespace Go.Proofs.Ytfhgnoajfipjdaa.E
open Go.RowKit
/-- Some text of at most m bytes, and the tape further on. -/
def TapPost (m p : Nat) (A : Option Addr) (n c : Nat) (l : List Int) (w : World) (e : Ending) (w' : World) : Prop :=
  ∃ s : ByteArray, e = .returned (.string s) ∧ s.size ≤ m ∧ (∃ j, Tp w' p A n c l j) ∧ Chg [p] w w' ∧ Hid (EndOk s)
theorem TapPost.more {m m' p : Nat} {A : Option Addr} {n c : Nat} {l : List Int} {w : World} {e : Ending} {w' : World} (h : TapPost m p A n c l w e w') (hm : m ≤ m') : TapPost m' p A n c l w e w' := by
  obtain ⟨s, h1, h2, h3⟩ := h
  exact ⟨s, h1, Nat.le_trans h2 hm, h3⟩
section
variable {p n c : Nat} {A : Option Addr} {l : List Int} {FA : Option Addr} {fn fc : Nat} {fl : List FnV}
/-- What value answers at depth deep. -/
def ValOk (p : Nat) (A : Option Addr) (n c : Nat) (l : List Int) (FA : Option Addr) (fn fc : Nat) (fl : List FnV) (d : Nat) : Prop :=
  ∀ (deep : Int) (W : World) (j : Nat), deep ≤ d → -10 ≤ deep → Tp W p A n c l j → Fns W p FA fn fc fl → Calls Try.prog 48 #[.pointer (some ⟨p, 0, none⟩), .int .i64 deep, .slice FA fn fc] W (TapPost (vb d) p A n c l W)
set_option maxHeartbeats 4000000 in
set_option maxRecDepth 100000 in
theorem value_step (HN : Hid (∀ f ∈ fl, EndOk (Utf8.encode f.name))) (d : Nat) (hd : d ≤ 4) (IH : ∀ d', d' < d → ValOk p A n c l FA fn fc fl d') : ValOk p A n c l FA fn fc fl d := by
  intro deep w j hdd hd0 hT hF
  obtain ⟨hb1, hb2⟩ := vb_le d hd
  have HB2 := Lib.hid hb2
  have HB1 := Lib.hid hb1
  clear hb1 hb2
  have HF := Lib.hid hF
  have hmax := hF.max
  clear hF
  go_enter Try.func48, Try.ntmps48
  go_wp2_with fail
  refine (next_any hT 14 (by omega) (by omega)).mono ?_
  rintro e w1 ⟨r, a1, hr, rfl, hT1, hc1⟩
  have HC1 := Lib.hid hc1
  have HF1 := Lib.hid (HF.out.keep hc1)
  have HT1 := Lib.hid hT1
  have hp1 := hT1.lt
  clear hc1 hT1 hT
  by_cases h0 : deep ≤ 0
  · have h17 : decide (deep ≤ 0) = true := by simpa using h0
    clear IH
    · go_upto_region 3 with fail
      have hG := Whole.new w1 3 numV
      have hal : Chg [] w1 (w1.alloc (.cells numV.toArray 3)) := (Chg.refl [] w1).alloc _
      have HT2 := Lib.hid (HT1.out.keep hal)
      have HC2 := Lib.hid (HC1.out.trans (hal.sub (T' := [p]) (by simp)))
      have hgp : w1.heap.size ≠ p := by omega
      clear hal
      go_wp2_with fail
      refine (next_any HT2.out 10 (by omega) (by omega)).mono ?_
      rintro e w3 ⟨r3, a3, hr3, rfl, hT3, hc3⟩
      have hG3 := hG.chg hc3 (by simpa using hgp)
      obtain ⟨u, hu, x, rfl, hx⟩ := row_get numV_all r3 (by exact hr3)
      have c3 := (hG3.cell r3).trans hu
      have HT3 := Lib.hid hT3
      have HC3 := Lib.hid (HC2.out.trans hc3)
      clear hG hG3 hc3 hT3 hu
      go_wp2_with fail
      refine (digitsE_any 3 x (by omega) (by omega) w3).mono ?_
      rintro e w4 ⟨s, rfl, hs, hc4, hqs⟩
      have HT4 := Lib.hid (HT3.out.keep hc4)
      have HC4 := Lib.hid (HC3.out.trans (hc4.sub (T' := [p]) (by simp)))
      clear hc4 c3
      obtain ⟨y, hy, hadd, HQ⟩ := addE ⟨#[32]⟩ s 1 16 (by decide) hs (by omega) hqs.out
      clear hqs
      have hadd4 := hadd w4
      clear hadd
      go_wp2_with fail
      go_ret
      exact ⟨y, rfl, by have := HB2.out; omega, ⟨_, HT4.out⟩, HC4.out, HQ⟩
  · have h17 : decide (deep ≤ 0) = false := by simpa using h0
    by_cases h3 : r < 3
    · have h19 : decide ((r : Int) < 3) = true := by simp; omega
      clear IH
      go_upto_region 3 with fail
      have hG := Whole.new w1 3 numV
      have hal : Chg [] w1 (w1.alloc (.cells numV.toArray 3)) := (Chg.refl [] w1).alloc _
      have HT2 := Lib.hid (HT1.out.keep hal)
      have HC2 := Lib.hid (HC1.out.trans (hal.sub (T' := [p]) (by simp)))
      have hgp : w1.heap.size ≠ p := by omega
      clear hal
      go_wp2_with fail
      refine (next_any HT2.out 10 (by omega) (by omega)).mono ?_
      rintro e w3 ⟨r3, a3, hr3, rfl, hT3, hc3⟩
      have hG3 := hG.chg hc3 (by simpa using hgp)
      obtain ⟨u, hu, x, rfl, hx⟩ := row_get numV_all r3 (by exact hr3)
      have c3 := (hG3.cell r3).trans hu
      have HT3 := Lib.hid hT3
      have HC3 := Lib.hid (HC2.out.trans hc3)
      clear hG hG3 hc3 hT3 hu
      go_wp2_with fail
      refine (digitsE_any 3 x (by omega) (by omega) w3).mono ?_
      rintro e w4 ⟨s, rfl, hs, hc4, hqs⟩
      have HT4 := Lib.hid (HT3.out.keep hc4)
      have HC4 := Lib.hid (HC3.out.trans (hc4.sub (T' := [p]) (by simp)))
      clear hc4 c3
      obtain ⟨y, hy, hadd, HQ⟩ := addE ⟨#[32]⟩ s 1 16 (by decide) hs (by omega) hqs.out
      clear hqs
      have hadd4 := hadd w4
      clear hadd
      go_wp2_with fail
      go_ret
      exact ⟨y, rfl, by have := HB2.out; omega, ⟨_, HT4.out⟩, HC4.out, HQ⟩
    · have h19 : decide ((r : Int) < 3) = false := by simp; omega
      obtain ⟨d, rfl⟩ : ∃ x, d = x + 1 := ⟨d - 1, by omega⟩
      have HV := Lib.hid (IH d (by omega))
      have HB3 := Lib.hid (show vb (d + 1) = 3 * vb d + 20 from rfl)
      have HW := Lib.hid (fun d' (h : d' < d + 1) => IH d' h)
      clear IH
      by_cases h6 : r < 6
      · have q30 : decide ((r : Int) < 6) = true := by simp; omega
        go_wp2_with fail
        refine (next_any HT1.out 4 (by omega) (by omega)).mono ?_
        rintro e w2 ⟨x, j2, hx, rfl, hT2, hc2⟩
        have HT2 := Lib.hid hT2
        have HF2 := Lib.hid (HF1.out.keep hc2)
        have HC2 := Lib.hid (HC1.out.trans hc2)
        have hp2 := hT2.lt
        clear hT2 hc2
        go_wp2_with fail
        go_ret
        exact ⟨_, rfl, by have := HB2.out; have := encode_le4 (97 + (x : Int)); omega, ⟨_, HT2.out⟩, HC2.out, Lib.hid (end_low x hx)⟩
      · have q30 : decide ((r : Int) < 6) = false := by simp; omega
        by_cases h9 : r < 9
        · have q38 : decide ((r : Int) < 9) = true := by simp; omega
          go_upto_region 7 with fail
          have hG := Whole.new w1 9 opV
          have hal : Chg [] w1 (w1.alloc (.cells opV.toArray 9)) := (Chg.refl [] w1).alloc _
          have HTa := Lib.hid (HT1.out.keep hal)
          have HCa := Lib.hid (HC1.out.trans (hal.sub (T' := [p]) (by simp)))
          have HFa := Lib.hid (HF1.out.keep (hal.sub (T' := [p]) (by simp)))
          have hgp : w1.heap.size ≠ p := by omega
          clear hal
          go_wp2_with fail
          refine (next_any HTa.out 12 (by omega) (by omega)).mono ?_
          rintro e w2 ⟨r3, j2, hr3, rfl, hT2, hc2⟩
          have hG3 := hG.chg hc2 (by simpa using hgp)
          obtain ⟨u, hu, s, rfl, hs, hse⟩ := row_get opV_end r3 (by exact hr3)
          have c3 := (hG3.cell r3).trans hu
          have HSE := Lib.hid hse
          clear hse
          have HT2 := Lib.hid hT2
          have HC2 := Lib.hid (HCa.out.trans hc2)
          have HF2 := Lib.hid (HFa.out.keep hc2)
          have hp2 := hT2.lt
          clear hG hG3 hc2 hT2 hu HTa HCa HFa
          go_wp2_with fail
          clear c3
          refine (HV.out (deep - 1) w2 _ (by omega) (by omega) HT2.out HF2.out).mono ?_
          rintro e w3 ⟨s1, rfl, hs1, ⟨j3, hT3⟩, hc3, hq1⟩
          have HT3 := Lib.hid hT3
          have HF3 := Lib.hid (HF2.out.keep hc3)
          have HC3 := Lib.hid (HC2.out.trans hc3)
          have hp3 := hT3.lt
          clear hT3 hc3
          go_wp2_with fail
          refine (HV.out (deep - 1) w3 _ (by omega) (by omega) HT3.out HF3.out).mono ?_
          rintro e w4 ⟨s2, rfl, hs2, ⟨j4, hT4⟩, hc4, hq2⟩
          have HT4 := Lib.hid hT4
          have HF4 := Lib.hid (HF3.out.keep hc4)
          have HC4 := Lib.hid (HC3.out.trans hc4)
          have hp4 := hT4.lt
          clear hT4 hc4
          obtain ⟨y1, hy1, haddy1⟩ := addS s1 s2 (vb d) (vb d) hs1 hs2 (by have := HB1.out; have := HB3.out; omega)
          have haddy1 := haddy1 w4
          obtain ⟨y2, hy2, haddy2, HQ⟩ := addE y1 s (vb d + vb d) 3 hy1 hs (by have := HB1.out; have := HB3.out; omega) HSE.out
          have haddy2 := haddy2 w4
          go_wp2_with fail
          go_ret
          exact ⟨y2, rfl, by have := HB2.out; have := HB3.out; omega, ⟨_, HT4.out⟩, HC4.out, HQ⟩
        · have q38 : decide ((r : Int) < 9) = false := by simp; omega
          by_cases h9e : r = 9
          · have q59 : ((r : Int) == 9) = true := by simp; omega
            go_wp2_with fail
            refine (HV.out (deep - 1) w1 _ (by omega) (by omega) HT1.out HF1.out).mono ?_
            rintro e w2 ⟨s1, rfl, hs1, ⟨j2, hT2⟩, hc2, hq1⟩
            have HT2 := Lib.hid hT2
            have HF2 := Lib.hid (HF1.out.keep hc2)
            have HC2 := Lib.hid (HC1.out.trans hc2)
            have hp2 := hT2.lt
            clear hT2 hc2
            have hG := Whole.new w2 9 onV
            have hal : Chg [] w2 (w2.alloc (.cells onV.toArray 9)) := (Chg.refl [] w2).alloc _
            have HTa := Lib.hid (HT2.out.keep hal)
            have HCa := Lib.hid (HC2.out.trans (hal.sub (T' := [p]) (by simp)))
            have HFa := Lib.hid (HF2.out.keep (hal.sub (T' := [p]) (by simp)))
            have hgp : w2.heap.size ≠ p := by omega
            clear hal
            go_wp2_with fail
            refine (next_any HTa.out 7 (by omega) (by omega)).mono ?_
            rintro e w3 ⟨r3, j3, hr3, rfl, hT3, hc3⟩
            have hG3 := hG.chg hc3 (by simpa using hgp)
            obtain ⟨u, hu, s, rfl, hs, hse⟩ := row_get onV_end r3 (by exact hr3)
            have c3 := (hG3.cell r3).trans hu
            have HSE := Lib.hid hse
            clear hse
            have HT3 := Lib.hid hT3
            have HC3 := Lib.hid (HCa.out.trans hc3)
            have HF3 := Lib.hid (HFa.out.keep hc3)
            have hp3 := hT3.lt
            clear hG hG3 hc3 hT3 hu HTa HCa HFa
            obtain ⟨y1, hy1, haddy1, HQ⟩ := addE s1 s (vb d) 3 hs1 hs (by have := HB1.out; have := HB3.out; omega) HSE.out
            have haddy1 := haddy1 w3
            go_wp2_with fail
            go_ret
            exact ⟨y1, rfl, by have := HB2.out; have := HB3.out; omega, ⟨_, HT3.out⟩, HC3.out, HQ⟩
          · have q59 : ((r : Int) == 9) = false := by simp; omega
            by_cases h10 : r = 10
            · have q73 : ((r : Int) == 10) = true := by simp; omega
              go_wp2_with fail
              refine (HV.out (deep - 1) w1 _ (by omega) (by omega) HT1.out HF1.out).mono ?_
              rintro e w2 ⟨s1, rfl, hs1, ⟨j2, hT2⟩, hc2, hq1⟩
              have HT2 := Lib.hid hT2
              have HF2 := Lib.hid (HF1.out.keep hc2)
              have HC2 := Lib.hid (HC1.out.trans hc2)
              have hp2 := hT2.lt
              clear hT2 hc2
              obtain ⟨y1, hy1, haddy1⟩ := addS s1 ⟨#[63]⟩ (vb d) 1 hs1 (by decide) (by have := HB1.out; have := HB3.out; omega)
              have haddy1 := haddy1 w2
              go_wp2_with fail
              refine (HV.out (deep - 1) w2 _ (by omega) (by omega) HT2.out HF2.out).mono ?_
              rintro e w3 ⟨s2, rfl, hs2, ⟨j3, hT3⟩, hc3, hq2⟩
              have HT3 := Lib.hid hT3
              have HF3 := Lib.hid (HF2.out.keep hc3)
              have HC3 := Lib.hid (HC2.out.trans hc3)
              have hp3 := hT3.lt
              clear hT3 hc3
              obtain ⟨y2, hy2, haddy2⟩ := addS y1 s2 (vb d + 1) (vb d) hy1 hs2 (by have := HB1.out; have := HB3.out; omega)
              have haddy2 := haddy2 w3
              obtain ⟨y3, hy3, haddy3⟩ := addS y2 ⟨#[58]⟩ (vb d + 1 + vb d) 1 hy2 (by decide) (by have := HB1.out; have := HB3.out; omega)
              have haddy3 := haddy3 w3
              go_wp2_with fail
              refine (HV.out (deep - 1) w3 _ (by omega) (by omega) HT3.out HF3.out).mono ?_
              rintro e w4 ⟨s3, rfl, hs3, ⟨j4, hT4⟩, hc4, hq3⟩
              have HT4 := Lib.hid hT4
              have HF4 := Lib.hid (HF3.out.keep hc4)
              have HC4 := Lib.hid (HC3.out.trans hc4)
              have hp4 := hT4.lt
              clear hT4 hc4
              obtain ⟨y4, hy4, haddy4, HQ4⟩ := addE y3 s3 (vb d + 1 + vb d + 1) (vb d) hy3 hs3 (by have := HB1.out; have := HB3.out; omega) hq3.out
              have haddy4 := haddy4 w4
              obtain ⟨y5, hy5, haddy5, HQ⟩ := addSemi y4 (vb d + 1 + vb d + 1 + vb d) hy4 (by have := HB1.out; have := HB3.out; omega) HQ4.out
              have haddy5 := haddy5 w4
              go_wp2_with fail
              go_ret
              exact ⟨y5, rfl, by have := HB2.out; have := HB3.out; omega, ⟨_, HT4.out⟩, HC4.out, HQ⟩
            · have q73 : ((r : Int) == 10) = false := by simp; omega
              by_cases h11 : r = 11
              · have q96 : ((r : Int) == 11) = true := by simp; omega
                go_wp2_with fail
                go_ret
                exact ⟨_, rfl, by have := HB2.out; show 1 ≤ _; omega, ⟨_, HT1.out⟩, HC1.out, Lib.hid (by unfold EndOk; decide +kernel)⟩
              · have q96 : ((r : Int) == 11) = false := by simp; omega
                by_cases h12 : r = 12
                · have q99 : ((r : Int) == 12) = true := by simp; omega
                  by_cases hfn : 0 < fn
                  · have q103 : decide ((0 : Int) < (fn : Int)) = true := by simp; omega
                    have q103b : decide (0 < fn) = true := by simp; omega
                    have hmaxI : (fn : Int) ≤ 1000 := by omega
                    go_upto_region 16 with fail
                    go_wp2_with fail
                    refine (next_any HT1.out fn hfn (by omega)).mono ?_
                    rintro e w2 ⟨r3, j2, hr3, rfl, hT2, hc2⟩
                    have HT2 := Lib.hid hT2
                    have HF2 := Lib.hid (HF1.out.keep hc2)
                    have HC2 := Lib.hid (HC1.out.trans hc2)
                    have hp2 := hT2.lt
                    clear hT2 hc2
                    obtain ⟨t, htk⟩ : ∃ t, fl[r3]? = some t := ⟨fl[r3]'(by rw [HF2.out.len]; exact hr3), by simp⟩
                    obtain ⟨fb, fo, rfl, hfb, hfbl, c0, c1, c2⟩ := HF2.out.cell htk
                    obtain ⟨ha0, ha2⟩ := HF2.out.args t (List.mem_of_getElem? htk)
                    have hr3I : (r3 : Int) < (fn : Int) := by omega
                    have HNE := Lib.hid (HN.out t (List.mem_of_getElem? htk))
                    clear htk
                    go_upto_region 17 with fail
                    obtain ⟨q, hq⟩ : ∃ q : Nat, t.args = (q : Int) := ⟨t.args.toNat, by omega⟩
                    have hq2 : q ≤ 2 := by omega
                    rw [hq] at c1 ⊢
                    obtain ⟨cx, hcx⟩ : ∃ cx : List Value, cx = [.int .i32 t.name, .int .i64 (q : Int), .string t.code] := ⟨_, rfl⟩
                    have hG := Whole.new w2 51 [.int .i32 t.name, .int .i64 (q : Int), .string t.code]
                    have hal : Chg [] w2 (w2.alloc (.cells #[.int .i32 t.name, .int .i64 (q : Int), .string t.code] 51)) := (Chg.refl [] w2).alloc _
                    have HG3 := Lib.hid hG
                    have HT3 := Lib.hid (HT2.out.keep hal)
                    have HC3 := Lib.hid (HC2.out.trans (hal.sub (T' := [p]) (by simp)))
                    have HF3 := Lib.hid (HF2.out.keep (hal.sub (T' := [p]) (by simp)))
                    have hgp : w2.heap.size ≠ p := by omega
                    obtain ⟨g, hg⟩ : ∃ g, g = w2.heap.size := ⟨_, rfl⟩
                    rw [← hg] at HG3 hgp ⊢
                    have HG3' := Lib.hid (show Whole (w2.alloc (.cells #[.int .i32 t.name, .int .i64 (q : Int), .string t.code] 51)) g 51 [.int .i32 t.name, .int .i64 (q : Int), .string t.code] from HG3.out)
                    generalize w2.alloc (.cells #[.int .i32 t.name, .int .i64 (q : Int), .string t.code] 51) = w3 at HT3 HC3 HF3 HG3' ⊢
                    clear hcx hal hG hg HG3 c0 c1 c2 hq ha0 ha2
                    go_wp2_with fail
                    go_loopw [10, 11] (fun v i wr => ∃ k : Nat, i = .int .i64 (k : Int) ∧ k ≤ q ∧ (∃ s : ByteArray, v = .string s ∧ s.size ≤ k * vb d) ∧ Hid (∃ j, Tp wr p A n c l j) ∧ Hid (Chg [p] w3 wr)) (fun _ i _ => q - (intOf i).toNat)
                    case atStart => exact ⟨0, rfl, by omega, ⟨⟨#[]⟩, rfl, Nat.zero_le _⟩, Lib.hid ⟨_, HT3.out⟩, Lib.hid (Chg.refl _ _)⟩
                    case round =>
                      obtain ⟨k, rfl, hk, ⟨s, rfl, hs⟩, HTr, HCr⟩ := hrel
                      have hGr := HG3'.out.chg HCr.out (by simpa using hgp)
                      have e0 : wr.cell? ⟨g, 0, none⟩ = some (.int .i32 t.name) := (hGr.cell 0).trans rfl
                      have e1 : wr.cell? ⟨g, 1, none⟩ = some (.int .i64 (q : Int)) := (hGr.cell 1).trans rfl
                      have HFr := Lib.hid (HF3.out.keep HCr.out)
                      clear hGr
                      by_cases hkq : k < q
                      · have hkI : (k : Int) < (q : Int) := by omega
                        have HKV := Lib.hid (show k * vb d + vb d = (k + 1) * vb d from (Nat.succ_mul k (vb d)).symm)
                        have HK2 := Lib.hid (show k * vb d ≤ 2 * vb d from Nat.mul_le_mul_right _ (by omega))
                        go_wp2_with fail
                        obtain ⟨jr, hjr⟩ := HTr.out
                        refine (HV.out (deep - 2) wr _ (by omega) (by omega) hjr HFr.out).mono ?_
                        rintro e w5 ⟨s1, rfl, hs1, ⟨j5, hT5⟩, hc5, hq1⟩
                        have HT5 := Lib.hid hT5
                        have HC5 := Lib.hid (HCr.out.trans hc5)
                        clear hT5 hc5 hjr hq1
                        obtain ⟨y, hy, hadd⟩ := addS s s1 (k * vb d) (vb d) hs hs1 (by have := HB1.out; have := HB3.out; have := HK2.out; omega)
                        have hadd5 := hadd w5
                        clear hadd
                        go_wp2_with fail
                        go_roundw
                        case rel => exact ⟨k + 1, by go_num, by omega, ⟨y, rfl, by have := HKV.out; omega⟩, Lib.hid ⟨_, HT5.out⟩, HC5⟩
                        case measure => simp [intOf]; omega
                      · have hkI : (q : Int) ≤ (k : Int) := by omega
                        have HK2 := Lib.hid (show k * vb d ≤ 2 * vb d from Nat.mul_le_mul_right _ (by omega))
                        obtain ⟨y1, hy1, hadd1⟩ := addS s ⟨#[206, 187]⟩ (k * vb d) 2 hs (by decide) (by have := HB1.out; have := HB3.out; have := HK2.out; omega)
                        have he1 := encode_le4 t.name
                        obtain ⟨y2, hy2, hadd2, HQ⟩ := addE y1 (Utf8.encode t.name) (k * vb d + 2) 4 hy1 he1 (by have := HB1.out; have := HB3.out; have := HK2.out; omega) HNE.out
                        have hadd1r := hadd1 wr
                        have hadd2r := hadd2 wr
                        clear hadd1 hadd2
                        have HCz := Lib.hid (HC3.out.trans HCr.out)
                        go_wp2_with fail
                        go_ret
                        exact ⟨y2, rfl, by have := HB2.out; have := HB3.out; have := HK2.out; omega, HTr.out, HCz.out, HQ⟩
                  · have q103 : decide ((0 : Int) < (fn : Int)) = false := by simp; omega
                    have q103b : decide (0 < fn) = false := by simp; omega
                    go_upto_region 23 with fail
                    go_wp2_with fail
                    refine (HV.out (deep - 1) w1 _ (by omega) (by omega) HT1.out HF1.out).mono ?_
                    rintro e w2 ⟨s1, rfl, hs1, ⟨j2, hT2⟩, hc2, hq1⟩
                    have HT2 := Lib.hid hT2
                    have HF2 := Lib.hid (HF1.out.keep hc2)
                    have HC2 := Lib.hid (HC1.out.trans hc2)
                    have hp2 := hT2.lt
                    clear hT2 hc2
                    go_wp2_with fail
                    refine (next_any HT2.out 4 (by omega) (by omega)).mono ?_
                    rintro e w3 ⟨x1, j3, hx1, rfl, hT3, hc3⟩
                    have HT3 := Lib.hid hT3
                    have HF3 := Lib.hid (HF2.out.keep hc3)
                    have HC3 := Lib.hid (HC2.out.trans hc3)
                    have hp3 := hT3.lt
                    clear hT3 hc3
                    have he1 := encode_le4 (65 + (x1 : Int))
                    obtain ⟨y1, hy1, haddy1⟩ := addS s1 (Utf8.encode (65 + (x1 : Int))) (vb d) 4 hs1 he1 (by have := HB1.out; have := HB3.out; omega)
                    have haddy1 := haddy1 w3
                    go_wp2_with fail
                    refine (next_any HT3.out 4 (by omega) (by omega)).mono ?_
                    rintro e w4 ⟨x2, j4, hx2, rfl, hT4, hc4⟩
                    have HT4 := Lib.hid hT4
                    have HF4 := Lib.hid (HF3.out.keep hc4)
                    have HC4 := Lib.hid (HC3.out.trans hc4)
                    have hp4 := hT4.lt
                    clear hT4 hc4
                    have he2 := encode_le4 (97 + (x2 : Int))
                    obtain ⟨y2, hy2, haddy2, HQ⟩ := addE y1 (Utf8.encode (97 + (x2 : Int))) (vb d + 4) 4 hy1 he2 (by have := HB1.out; have := HB3.out; omega) (end_low x2 hx2)
                    have haddy2 := haddy2 w4
                    go_wp2_with fail
                    go_ret
                    exact ⟨y2, rfl, by have := HB2.out; have := HB3.out; omega, ⟨_, HT4.out⟩, HC4.out, HQ⟩
                · have q99 : ((r : Int) == 12) = false := by simp; omega
                  go_upto_region 23 with fail
                  go_wp2_with fail
                  refine (HV.out (deep - 1) w1 _ (by omega) (by omega) HT1.out HF1.out).mono ?_
                  rintro e w2 ⟨s1, rfl, hs1, ⟨j2, hT2⟩, hc2, hq1⟩
                  have HT2 := Lib.hid hT2
                  have HF2 := Lib.hid (HF1.out.keep hc2)
                  have HC2 := Lib.hid (HC1.out.trans hc2)
                  have hp2 := hT2.lt
                  clear hT2 hc2
                  go_wp2_with fail
                  refine (next_any HT2.out 4 (by omega) (by omega)).mono ?_
                  rintro e w3 ⟨x1, j3, hx1, rfl, hT3, hc3⟩
                  have HT3 := Lib.hid hT3
                  have HF3 := Lib.hid (HF2.out.keep hc3)
                  have HC3 := Lib.hid (HC2.out.trans hc3)
                  have hp3 := hT3.lt
                  clear hT3 hc3
                  have he1 := encode_le4 (65 + (x1 : Int))
                  obtain ⟨y1, hy1, haddy1⟩ := addS s1 (Utf8.encode (65 + (x1 : Int))) (vb d) 4 hs1 he1 (by have := HB1.out; have := HB3.out; omega)
                  have haddy1 := haddy1 w3
                  go_wp2_with fail
                  refine (next_any HT3.out 4 (by omega) (by omega)).mono ?_
                  rintro e w4 ⟨x2, j4, hx2, rfl, hT4, hc4⟩
                  have HT4 := Lib.hid hT4
                  have HF4 := Lib.hid (HF3.out.keep hc4)
                  have HC4 := Lib.hid (HC3.out.trans hc4)
                  have hp4 := hT4.lt
                  clear hT4 hc4
                  have he2 := encode_le4 (97 + (x2 : Int))
                  obtain ⟨y2, hy2, haddy2, HQ⟩ := addE y1 (Utf8.encode (97 + (x2 : Int))) (vb d + 4) 4 hy1 he2 (by have := HB1.out; have := HB3.out; omega) (end_low x2 hx2)
                  have haddy2 := haddy2 w4
                  go_wp2_with fail
                  go_ret
                  exact ⟨y2, rfl, by have := HB2.out; have := HB3.out; omega, ⟨_, HT4.out⟩, HC4.out, HQ⟩
theorem value_any (HN : Hid (∀ f ∈ fl, EndOk (Utf8.encode f.name))) : ∀ d : Nat, d ≤ 4 → ValOk p A n c l FA fn fc fl d := by
  intro d
  induction d using Nat.strongRecOn with
  | _ d ih => exact fun hd => value_step HN d hd fun d' h => ih d' h (by omega)
end
end Go.Proofs.Ytfhgnoajfipjdaa.E
