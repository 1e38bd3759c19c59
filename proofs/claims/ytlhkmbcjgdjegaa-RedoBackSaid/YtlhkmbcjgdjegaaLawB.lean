/-
  Drawn regions in which rows of the call's own are appended to.
-/
import Derived.Test.YtlhkmbcjgdjegaaLaw
namespace Go.Proofs.Ytlhkmbcjgdjegaa
open Go.RowKit

/-- What lies below B stays. -/
structure Low (B : Nat) (w w' : World) : Prop where
  os : w'.os = w.os
  tape : w'.tape = w.tape
  output : w'.output = w.output
  size : w.heap.size ≤ w'.heap.size
  block : ∀ k, k < B → k < w.heap.size → w'.heap[k]? = w.heap[k]?
theorem Low.of_chg {B : Nat} {w w' : World} (h : Chg [] w w') : Low B w w' := ⟨h.os, h.tape, h.output, h.size, fun k _ hk => h.block k hk (by simp)⟩
theorem Low.trans {B : Nat} {a b c : World} (h : Low B a b) (k : Low B b c) : Low B a c :=
  ⟨k.os.trans h.os, k.tape.trans h.tape, k.output.trans h.output, Nat.le_trans h.size k.size, fun i hB hi => (k.block i hB (Nat.lt_of_lt_of_le hi h.size)).trans (h.block i hB hi)⟩
theorem Low.chg {B : Nat} {a b : World} (h : Low B a b) (hB : a.heap.size ≤ B) : Chg [] a b := ⟨h.os, h.tape, h.output, h.size, fun k hk _ => h.block k (Nat.lt_of_lt_of_le hk hB) hk⟩
theorem Low.of_own {B n : Nat} {e : TypeId} {v : Value} {xs : List Value} {w w' : World} (ho : w.ownsRow B e 1 v n xs) (hg : w.grownBy w' v.ownBlock) : Low B w w' := by
  refine ⟨hg.os, hg.tape, hg.output, hg.size, fun k hk hl => hg.block k hl fun hc => ?_⟩
  rcases ho.2 with ⟨rfl, _⟩ | ⟨g, cap, cur, rfl, hb, _⟩
  · cases hc
  · injection hc with hc; simp only at hc; omega

/-- Appends write into rows from B on. -/
def lowT (B : Nat) (hard soft : List Nat) : Turns := ⟨Chg [], Low B, hard, soft⟩
theorem lowT_ok (B : Nat) (hard soft : List Nat) : (lowT B hard soft).Ok := ⟨Chg.refl [], fun _ _ h => Low.of_chg h, fun _ _ _ h k => h.trans k⟩
theorem low_by {B : Nat} {hard soft : List Nat} (k : Nat) {W W' : World} (h : Chg [] W W') : (lowT B hard soft).by_ k W W' := by
  unfold Turns.by_
  split
  · exact Low.of_chg h
  · exact h
theorem low_hard {B : Nat} {hard soft : List Nat} {k : Nat} (hk : hard.contains k = true) {W W' : World} (h : Low B W W') : (lowT B hard soft).by_ k W W' := by
  unfold Turns.by_
  rw [if_pos (show (lowT B hard soft).hard.contains k = true from hk)]
  exact h

/-- '[]T{}'. -/
def emptyF (B : Nat) (e : TypeId) : Fact := fun v W => ∃ g, v = .slice (some ⟨g, 0, none⟩) 0 0 ∧ B ≤ g ∧ Whole W g e []
theorem keeps_empty (B : Nat) (e : TypeId) : Keeps (Chg []) (emptyF B e) := fun _ _ _ ⟨g, h1, h2, h3⟩ hc => ⟨g, h1, h2, h3.keep hc⟩

section
variable {P : Program} (w : World)
theorem run_append_empty (base : Nat) (t ty e : TypeId) (i : TypeInfo) (z : Value) (bytes : Nat) (ht : P.underlying t = some (.slice e)) (hi : P.info? e = some i) (hz : i.zero = some z) (hs : i.size = 1) (hby : i.bytes = bytes) (hz1 : z.cells.size = 1)
    (g : Nat) (hg : Whole w g e []) (hbg : base ≤ g) (hbw : base ≤ w.heap.size) (A : Option Addr) (m c : Nat) (news : List Value) (hl : news.length = m) (hsrc : Src w A news) (hb : m * bytes ≤ 140737488355328) (h63 : m ≤ maxLen) :
    ∃ v' w', (Builtin.append_ #[t, t] ty #[.slice (some ⟨g, 0, none⟩) 0 0, .slice A m c]).run P w = .ok v' w' ∧ w'.ownsRow base e 1 v' m news ∧ Chg [] w w' := by
  have ho : w.ownsRow base e 1 (.slice (some ⟨g, 0, none⟩) 0 0) 0 [] := own_of_whole (n := 0) (c := 0) hg hbg rfl (by omega) (by unfold maxLen; omega)
  rcases Nat.eq_zero_or_pos m with h0 | h0
  · subst h0
    obtain rfl : news = [] := List.eq_nil_of_length_eq_zero hl
    refine ⟨_, w, ?_, ho, Chg.refl _ _⟩
    rcases A with _ | ad
    · simp [Builtin.append_, run_underlying ht, sizeOf, typeInfo, hi, Builtin.lenOf, Builtin.firstCells, storeCells]
    · have hf := run_firstCells_some (P := P) w i.size 0 ad 0 c [] (by simp) (fun j u hj => by simp at hj)
      simp [Builtin.append_, run_underlying ht, sizeOf, typeInfo, hi, Builtin.lenOf, hf, storeCells]
  · obtain ⟨ad, rfl, _, hx⟩ := hsrc (by omega)
    subst hby
    have h63' : m ≤ 9223372036854775807 := by simpa [maxLen] using h63
    have h := run_append_grow (P := P) w t ty e i z ht hi hz ⟨g, 0, none⟩ 0 0 [] (by simp) (by simp) ad m c news (by rw [hl, hs]; omega) hx (by omega) (by omega) (growslice_fits (by omega) (by simpa using hb))
    have hge := grownCap_ge w m 0 e
    have hle := grownCap_le_maxLen w m 0 e h63
    simp only [Nat.zero_add] at h
    refine ⟨_, _, h, ?_, ((Chg.refl [] w).drew).alloc _⟩
    have hw : Whole (w.drew.alloc (.cells (news ++ (Builtin.zeroCells z.cells (grownCap w m 0 e - m)).toList).toArray e)) w.heap.size e (news ++ (Builtin.zeroCells z.cells (grownCap w m 0 e - m)).toList) := Whole.new w.drew e _
    have hown := own_of_whole (B := base) (n := m) (c := grownCap w m 0 e) hw hbw (by simp only [List.length_append, Array.length_toList, size_zeroCells, hz1, hl]; omega) hge hle
    rw [List.take_left' hl] at hown
    have e1 : (#[] ++ news.toArray ++ Builtin.zeroCells z.cells (grownCap w m 0 e - m)) = (news ++ (Builtin.zeroCells z.cells (grownCap w m 0 e - m)).toList).toArray := by
      apply Array.ext'; simp
    rw [show ([] : List Value).toArray = #[] from rfl, e1]
    exact hown
end

section
variable {P : Program} {T : Turns} {w0 : World} {a0 : Act} {ops : List Oper} {Q : Exit → Act → World → Prop} {F : Said} {k : Nat} {rest : List Oper}
  {d : Option Tmp} {ty : TypeId} {pos : String} {af : Array Edge} {g : Option (Nat × Bool)} {B : Nat} {hard soft : List Nat}

/-- '[]T{}' and '[]T{x, ..}' make a block. -/
theorem flow_build0 {t e : TypeId} (hB : B ≤ w0.heap.size) (hrun : ∀ ev W, EvOk ev → (execOp ev ⟨d, .buildSlice t 0 #[], ty, pos, af, g⟩).run P W = .ok (.value (.slice (some ⟨W.heap.size, 0, none⟩) 0 0)) (W.alloc (.cells #[] e)))
    (hsoft : (lowT B hard soft).soft.contains k = true)
    (hg : guardIs ops F true ⟨d, .buildSlice t 0 #[], ty, pos, af, g⟩) (h : Flow P (lowT B hard soft) w0 a0 ops Q ((d, emptyF B e) :: F) (k + 1) rest) : Flow P (lowT B hard soft) w0 a0 ops Q F k (⟨d, .buildSlice t 0 #[], ty, pos, af, g⟩ :: rest) := by
  refine flow_op _ (keeps_empty B e) (.inl hsoft) hg (fun ev W he hW _ => ?_) h
  rw [hrun ev W he]
  have hs : w0.heap.size ≤ W.heap.size := Low.size (B := B) hW
  exact ⟨low_by k ((Chg.refl _ _).alloc _), _, rfl, Nat.le_trans hB hs, Whole.new W e []⟩
theorem flow_build1 {t e : TypeId} {x : Operand} {v : Value} (hB : B ≤ w0.heap.size) (hx : Det a0 F x v)
    (hrun : ∀ ev W, EvOk ev → ev x = v → (execOp ev ⟨d, .buildSlice t 1 #[(0, x)], ty, pos, af, g⟩).run P W = .ok (.value (.slice (some ⟨W.heap.size, 0, none⟩) 1 1)) (W.alloc (.cells #[v] e)))
    (hsoft : (lowT B hard soft).soft.contains k = true)
    (hg : guardIs ops F true ⟨d, .buildSlice t 1 #[(0, x)], ty, pos, af, g⟩) (h : Flow P (lowT B hard soft) w0 a0 ops Q ((d, ownF B e [v]) :: F) (k + 1) rest) : Flow P (lowT B hard soft) w0 a0 ops Q F k (⟨d, .buildSlice t 1 #[(0, x)], ty, pos, af, g⟩ :: rest) := by
  refine flow_op _ (keeps_own B e [v]) (.inl hsoft) hg (fun ev W he hW hf => ?_) h
  have e1 := hx.at (show factOf a0 F x (ev x) W from hf.1)
  rw [hrun ev W he e1]
  have hs : w0.heap.size ≤ W.heap.size := Low.size (B := B) hW
  have hw : Whole (W.alloc (.cells #[v] e)) W.heap.size e [v] := Whole.new W e [v]
  exact ⟨low_by k ((Chg.refl _ _).alloc _), own_of_whole (n := 1) (c := 1) hw (Nat.le_trans hB hs) rfl (by omega) (by unfold maxLen; omega)⟩
/-- append onto '[]T{}': new memory. -/
theorem flow_append_empty {s x : Operand} {st : Tmp} {t e : TypeId} {i : TypeInfo} {z : Value} {bytes : Nat} {A : Option Addr} {m c : Nat} {news : List Value} (hB : B ≤ w0.heap.size) (hst : s = .tmp st) (hs : look F st = some (emptyF B e)) (hx : Det a0 F x (.slice A m c))
    (ht : P.underlying t = some (.slice e)) (hi : P.info? e = some i) (hz : i.zero = some z) (hsz : i.size = 1) (hby : i.bytes = bytes) (hz1 : z.cells.size = 1) (hl : news.length = m) (hsrc : ∀ W, Low B w0 W → Src W A news) (hb : m * bytes ≤ 140737488355328) (h63 : m ≤ maxLen)
    (hsoft : (lowT B hard soft).soft.contains k = true)
    (hg : guardIs ops F true ⟨d, .call { callee := .builtin .append, args := #[s, x], argTypes := #[t, t] }, ty, pos, af, g⟩) (h : Flow P (lowT B hard soft) w0 a0 ops Q ((d, ownF B e news) :: F) (k + 1) rest) :
    Flow P (lowT B hard soft) w0 a0 ops Q F k (⟨d, .call { callee := .builtin .append, args := #[s, x], argTypes := #[t, t] }, ty, pos, af, g⟩ :: rest) := by
  subst hst
  refine flow_op _ (keeps_own B e news) (.inl hsoft) hg (fun ev W he hW hf => ?_) h
  have hf1 : factOf a0 F (.tmp st) (ev (.tmp st)) W := hf.1
  simp only [factOf, hs] at hf1
  obtain ⟨b, e1, hbb, hw⟩ := hf1
  have e2 := hx.at (show factOf a0 F x (ev x) W from hf.2.1)
  have hsW : w0.heap.size ≤ W.heap.size := Low.size (B := B) hW
  obtain ⟨v', w', hrun, ho, hc⟩ := run_append_empty (P := P) W B t ty e i z bytes ht hi hz hsz hby hz1 b hw hbb (Nat.le_trans hB hsW) A m c news hl (hsrc W hW) hb h63
  have hr : (execOp ev ⟨d, .call { callee := .builtin .append, args := #[.tmp st, x], argTypes := #[t, t] }, ty, pos, af, g⟩).run P W = .ok (.value v') w' := by
    unfold execOp
    simp only [resolve, invoke, builtin, Sem.run_bind, Sem.run_pure, Result.andThen_ok, List.map_toArray, List.map_cons, List.map_nil, e1, e2, hrun]
  rw [hr]
  exact ⟨low_by k hc, by rw [ownF, hl]; exact ho⟩
/-- append onto a row of the call's own: it may be written in place. -/
theorem flow_append_own {s x : Operand} {st xt : Tmp} {t e : TypeId} {i : TypeInfo} {z : Value} {bytes : Nat} {xs news : List Value} (hB : B ≤ w0.heap.size) (hst : s = .tmp st) (hs : look F st = some (ownF B e xs)) (hxt : x = .tmp xt) (hx : look F xt = some (ownF B e news))
    (ht : P.underlying t = some (.slice e)) (hi : P.info? e = some i) (hz : i.zero = some z) (hsz : i.size = 1) (hby : i.bytes = bytes) (hz1 : z.cells.size = 1) (h1 : ∀ u ∈ news, u.oneCell' = true) (hb : (xs.length + news.length) * bytes ≤ 140737488355328) (h63 : xs.length + news.length ≤ maxLen)
    (hsoft : (lowT B hard soft).soft.contains k = true) (hhard : hard.contains k = true)
    (hg : guardIs ops F true ⟨d, .call { callee := .builtin .append, args := #[s, x], argTypes := #[t, t] }, ty, pos, af, g⟩) (h : Flow P (lowT B hard soft) w0 a0 ops Q ((d, ownF B e (xs ++ news)) :: F) (k + 1) rest) :
    Flow P (lowT B hard soft) w0 a0 ops Q F k (⟨d, .call { callee := .builtin .append, args := #[s, x], argTypes := #[t, t] }, ty, pos, af, g⟩ :: rest) := by
  subst hst
  subst hxt
  refine flow_op _ (keeps_own B e _) (.inl hsoft) hg (fun ev W he hW hf => ?_) h
  have hf1 : factOf a0 F (.tmp st) (ev (.tmp st)) W := hf.1
  simp only [factOf, hs] at hf1
  have hf2 : factOf a0 F (.tmp xt) (ev (.tmp xt)) W := hf.2.1
  simp only [factOf, hx] at hf2
  obtain ⟨A2, c2, e2, hl2, _, hs2, _⟩ := own_slice hf2
  have hsW : w0.heap.size ≤ W.heap.size := Low.size (B := B) hW
  obtain ⟨v', w', hrun, ho, hgr, _⟩ := exec_append_src (P := P) (ev := ev) (d := d) (ty := ty) (pos := pos) (af := af) (g := g) (s := .tmp st) (x := .tmp xt) B e i z bytes ht hi hz hsz hby hz1 rfl hf1 e2 rfl hs2 h1 h63 hb (Nat.le_trans hB hsW)
  rw [hrun]
  exact ⟨low_hard hhard (Low.of_own hf1 hgr), by rw [ownF, List.length_append]; exact ho⟩
/-- append onto a row of the call's own of a slice that is known. -/
theorem flow_append_det {s x : Operand} {st : Tmp} {t e : TypeId} {i : TypeInfo} {z : Value} {bytes : Nat} {xs news : List Value} {A : Option Addr} {m c : Nat} (hB : B ≤ w0.heap.size) (hst : s = .tmp st) (hs : look F st = some (ownF B e xs)) (hx : Det a0 F x (.slice A m c))
    (ht : P.underlying t = some (.slice e)) (hi : P.info? e = some i) (hz : i.zero = some z) (hsz : i.size = 1) (hby : i.bytes = bytes) (hz1 : z.cells.size = 1) (hl : news.length = m) (hsrc : ∀ W, Low B w0 W → Src W A news) (h1 : ∀ u ∈ news, u.oneCell' = true) (hb : (xs.length + m) * bytes ≤ 140737488355328) (h63 : xs.length + m ≤ maxLen)
    (hsoft : (lowT B hard soft).soft.contains k = true) (hhard : hard.contains k = true)
    (hg : guardIs ops F true ⟨d, .call { callee := .builtin .append, args := #[s, x], argTypes := #[t, t] }, ty, pos, af, g⟩) (h : Flow P (lowT B hard soft) w0 a0 ops Q ((d, ownF B e (xs ++ news)) :: F) (k + 1) rest) :
    Flow P (lowT B hard soft) w0 a0 ops Q F k (⟨d, .call { callee := .builtin .append, args := #[s, x], argTypes := #[t, t] }, ty, pos, af, g⟩ :: rest) := by
  subst hst
  refine flow_op _ (keeps_own B e _) (.inl hsoft) hg (fun ev W he hW hf => ?_) h
  have hf1 : factOf a0 F (.tmp st) (ev (.tmp st)) W := hf.1
  simp only [factOf, hs] at hf1
  have e2 := hx.at (show factOf a0 F x (ev x) W from hf.2.1)
  have hsW : w0.heap.size ≤ W.heap.size := Low.size (B := B) hW
  obtain ⟨v', w', hrun, ho, hgr, _⟩ := exec_append_src (P := P) (ev := ev) (d := d) (ty := ty) (pos := pos) (af := af) (g := g) (s := .tmp st) (x := x) B e i z bytes ht hi hz hsz hby hz1 rfl hf1 e2 hl (hsrc W hW) h1 h63 hb (Nat.le_trans hB hsW)
  rw [hrun]
  exact ⟨low_hard hhard (Low.of_own hf1 hgr), by rw [ownF, List.length_append, hl]; exact ho⟩
end
end Go.Proofs.Ytlhkmbcjgdjegaa
