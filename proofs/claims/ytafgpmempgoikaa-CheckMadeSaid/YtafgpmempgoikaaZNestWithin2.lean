/-
  NestWithin, part 2: LawB, Share, Rown, Fresh, Sum, Put, BsMore, Delta, MadeCh, NestMem, Into, Tape, Runes, Digits, Get, DeltaGet, DeltaBytes, KeepCh, TapeFlow, Txt, FnRow, TokSigns, Tok, Tokens.
-/
import Derived.Test.YtafgpmempgoikaaZNestWithin1
import Derived.Test.YtafgpmempgoikaaChecked
import Derived.Deep.QuietTactic
import Derived.BigQuiet
import Derived.IntWalk
import Derived.Deep.DeepCutAuto
import Derived.RegionTactic
import Derived.ChangeAlike
import Derived.Laws.RangeAny
import Derived.Lib.OthersKept
import Derived.Laws.Cover4
import Derived.Laws.BitsAllLaws
import Derived.Deep.RegionLaw
namespace Go.Proofs.Ytafgpmempgoikaa
open Go.RowKit

/-- What lies below B stays. -/
structure Low (B : Nat) (w w' : World) : Prop where
  os : w'.os = w.os
  tape : w'.tape = w.tape
  output : w'.output = w.output
  size : w.heap.size ≤ w'.heap.size
  block : ∀ k, k < B → k < w.heap.size → w'.heap[k]? = w.heap[k]?
theorem Low.of_chg {B : Nat} {w w' : World} (h : Chg [] w w') : Low B w w' := ⟨h.os, h.tape, h.output, h.size, fun k _ hk => h.block k hk (by simp)⟩
theorem Low.trans {B : Nat} {a b c : World} (h : Low B a b) (k : Low B b c) : Low B a c :=
  ⟨k.os.trans h.os, k.tape.trans h.tape, k.output.trans h.output, Nat.le_trans h.size k.size, fun i hB hi => (k.block i hB (Nat.lt_of_lt_of_le hi h.size)).trans (h.block i hB hi)⟩
theorem Low.chg {B : Nat} {a b : World} (h : Low B a b) (hB : a.heap.size ≤ B) : Chg [] a b := ⟨h.os, h.tape, h.output, h.size, fun k hk _ => h.block k (Nat.lt_of_lt_of_le hk hB) hk⟩
theorem Low.of_own {B n : Nat} {e : TypeId} {v : Value} {xs : List Value} {w w' : World} (ho : w.ownsRow B e 1 v n xs) (hg : w.grownBy w' v.ownBlock) : Low B w w' := by
  refine ⟨hg.os, hg.tape, hg.output, hg.size, fun k hk hl => hg.block k hl fun hc => ?_⟩
  rcases ho.2 with ⟨rfl, _⟩ | ⟨g, cap, cur, rfl, hb, _⟩
  · cases hc
  · injection hc with hc; simp only at hc; omega

/-- Appends write into rows from B on. -/
def lowT (B : Nat) (hard soft : List Nat) : Turns := ⟨Chg [], Low B, hard, soft⟩
theorem lowT_ok (B : Nat) (hard soft : List Nat) : (lowT B hard soft).Ok := ⟨Chg.refl [], fun _ _ h => Low.of_chg h, fun _ _ _ h k => h.trans k⟩
theorem low_by {B : Nat} {hard soft : List Nat} (k : Nat) {W W' : World} (h : Chg [] W W') : (lowT B hard soft).by_ k W W' := by
  unfold Turns.by_
  split
  · exact Low.of_chg h
  · exact h
theorem low_hard {B : Nat} {hard soft : List Nat} {k : Nat} (hk : hard.contains k = true) {W W' : World} (h : Low B W W') : (lowT B hard soft).by_ k W W' := by
  unfold Turns.by_
  rw [if_pos (show (lowT B hard soft).hard.contains k = true from hk)]
  exact h

/-- '[]T{}'. -/
def emptyF (B : Nat) (e : TypeId) : Fact := fun v W => ∃ g, v = .slice (some ⟨g, 0, none⟩) 0 0 ∧ B ≤ g ∧ Whole W g e []
theorem keeps_empty (B : Nat) (e : TypeId) : Keeps (Chg []) (emptyF B e) := fun _ _ _ ⟨g, h1, h2, h3⟩ hc => ⟨g, h1, h2, h3.keep hc⟩

section
variable {P : Program} (w : World)
theorem run_append_empty (base : Nat) (t ty e : TypeId) (i : TypeInfo) (z : Value) (bytes : Nat) (ht : P.underlying t = some (.slice e)) (hi : P.info? e = some i) (hz : i.zero = some z) (hs : i.size = 1) (hby : i.bytes = bytes) (hz1 : z.cells.size = 1)
    (g : Nat) (hg : Whole w g e []) (hbg : base ≤ g) (hbw : base ≤ w.heap.size) (A : Option Addr) (m c : Nat) (news : List Value) (hl : news.length = m) (hsrc : Src w A news) (hb : m * bytes ≤ 140737488355328) (h63 : m ≤ maxLen) :
    ∃ v' w', (Builtin.append_ #[t, t] ty #[.slice (some ⟨g, 0, none⟩) 0 0, .slice A m c]).run P w = .ok v' w' ∧ w'.ownsRow base e 1 v' m news ∧ Chg [] w w' := by
  have ho : w.ownsRow base e 1 (.slice (some ⟨g, 0, none⟩) 0 0) 0 [] := own_of_whole (n := 0) (c := 0) hg hbg rfl (by omega) (by unfold maxLen; omega)
  rcases Nat.eq_zero_or_pos m with h0 | h0
  · subst h0
    obtain rfl : news = [] := List.eq_nil_of_length_eq_zero hl
    refine ⟨_, w, ?_, ho, Chg.refl _ _⟩
    rcases A with _ | ad
    · simp [Builtin.append_, run_underlying ht, sizeOf, typeInfo, hi, Builtin.lenOf, Builtin.firstCells, storeCells]
    · have hf := run_firstCells_some (P := P) w i.size 0 ad 0 c [] (by simp) (fun j u hj => by simp at hj)
      simp [Builtin.append_, run_underlying ht, sizeOf, typeInfo, hi, Builtin.lenOf, hf, storeCells]
  · obtain ⟨ad, rfl, _, hx⟩ := hsrc (by omega)
    subst hby
    have h63' : m ≤ 9223372036854775807 := by simpa [maxLen] using h63
    have h := run_append_grow (P := P) w t ty e i z ht hi hz ⟨g, 0, none⟩ 0 0 [] (by simp) (by simp) ad m c news (by rw [hl, hs]; omega) hx (by omega) (by omega) (growslice_fits (by omega) (by simpa using hb))
    have hge := grownCap_ge w m 0 e
    have hle := grownCap_le_maxLen w m 0 e h63
    simp only [Nat.zero_add] at h
    refine ⟨_, _, h, ?_, ((Chg.refl [] w).drew).alloc _⟩
    have hw : Whole (w.drew.alloc (.cells (news ++ (Builtin.zeroCells z.cells (grownCap w m 0 e - m)).toList).toArray e)) w.heap.size e (news ++ (Builtin.zeroCells z.cells (grownCap w m 0 e - m)).toList) := Whole.new w.drew e _
    have hown := own_of_whole (B := base) (n := m) (c := grownCap w m 0 e) hw hbw (by simp only [List.length_append, Array.length_toList, size_zeroCells, hz1, hl]; omega) hge hle
    rw [List.take_left' hl] at hown
    have e1 : (#[] ++ news.toArray ++ Builtin.zeroCells z.cells (grownCap w m 0 e - m)) = (news ++ (Builtin.zeroCells z.cells (grownCap w m 0 e - m)).toList).toArray := by
      apply Array.ext'; simp
    rw [show ([] : List Value).toArray = #[] from rfl, e1]
    exact hown
end

section
variable {P : Program} {T : Turns} {w0 : World} {a0 : Act} {ops : List Oper} {Q : Exit → Act → World → Prop} {F : Said} {k : Nat} {rest : List Oper}
  {d : Option Tmp} {ty : TypeId} {pos : String} {af : Array Edge} {g : Option (Nat × Bool)} {B : Nat} {hard soft : List Nat}

/-- '[]T{}' and '[]T{x, ..}' make a block. -/
theorem flow_build0 {t e : TypeId} (hB : B ≤ w0.heap.size) (hrun : ∀ ev W, EvOk ev → (execOp ev ⟨d, .buildSlice t 0 #[], ty, pos, af, g⟩).run P W = .ok (.value (.slice (some ⟨W.heap.size, 0, none⟩) 0 0)) (W.alloc (.cells #[] e)))
    (hsoft : (lowT B hard soft).soft.contains k = true)
    (hg : guardIs ops F true ⟨d, .buildSlice t 0 #[], ty, pos, af, g⟩) (h : Flow P (lowT B hard soft) w0 a0 ops Q ((d, emptyF B e) :: F) (k + 1) rest) : Flow P (lowT B hard soft) w0 a0 ops Q F k (⟨d, .buildSlice t 0 #[], ty, pos, af, g⟩ :: rest) := by
  refine flow_op _ (keeps_empty B e) (.inl hsoft) hg (fun ev W he hW _ => ?_) h
  rw [hrun ev W he]
  have hs : w0.heap.size ≤ W.heap.size := Low.size (B := B) hW
  exact ⟨low_by k ((Chg.refl _ _).alloc _), _, rfl, Nat.le_trans hB hs, Whole.new W e []⟩
theorem flow_build1 {t e : TypeId} {x : Operand} {v : Value} (hB : B ≤ w0.heap.size) (hx : Det a0 F x v)
    (hrun : ∀ ev W, EvOk ev → ev x = v → (execOp ev ⟨d, .buildSlice t 1 #[(0, x)], ty, pos, af, g⟩).run P W = .ok (.value (.slice (some ⟨W.heap.size, 0, none⟩) 1 1)) (W.alloc (.cells #[v] e)))
    (hsoft : (lowT B hard soft).soft.contains k = true)
    (hg : guardIs ops F true ⟨d, .buildSlice t 1 #[(0, x)], ty, pos, af, g⟩) (h : Flow P (lowT B hard soft) w0 a0 ops Q ((d, ownF B e [v]) :: F) (k + 1) rest) : Flow P (lowT B hard soft) w0 a0 ops Q F k (⟨d, .buildSlice t 1 #[(0, x)], ty, pos, af, g⟩ :: rest) := by
  refine flow_op _ (keeps_own B e [v]) (.inl hsoft) hg (fun ev W he hW hf => ?_) h
  have e1 := hx.at (show factOf a0 F x (ev x) W from hf.1)
  rw [hrun ev W he e1]
  have hs : w0.heap.size ≤ W.heap.size := Low.size (B := B) hW
  have hw : Whole (W.alloc (.cells #[v] e)) W.heap.size e [v] := Whole.new W e [v]
  exact ⟨low_by k ((Chg.refl _ _).alloc _), own_of_whole (n := 1) (c := 1) hw (Nat.le_trans hB hs) rfl (by omega) (by unfold maxLen; omega)⟩
/-- append onto '[]T{}': new memory. -/
theorem flow_append_empty {s x : Operand} {st : Tmp} {t e : TypeId} {i : TypeInfo} {z : Value} {bytes : Nat} {A : Option Addr} {m c : Nat} {news : List Value} (hB : B ≤ w0.heap.size) (hst : s = .tmp st) (hs : look F st = some (emptyF B e)) (hx : Det a0 F x (.slice A m c))
    (ht : P.underlying t = some (.slice e)) (hi : P.info? e = some i) (hz : i.zero = some z) (hsz : i.size = 1) (hby : i.bytes = bytes) (hz1 : z.cells.size = 1) (hl : news.length = m) (hsrc : ∀ W, Low B w0 W → Src W A news) (hb : m * bytes ≤ 140737488355328) (h63 : m ≤ maxLen)
    (hsoft : (lowT B hard soft).soft.contains k = true)
    (hg : guardIs ops F true ⟨d, .call { callee := .builtin .append, args := #[s, x], argTypes := #[t, t] }, ty, pos, af, g⟩) (h : Flow P (lowT B hard soft) w0 a0 ops Q ((d, ownF B e news) :: F) (k + 1) rest) :
    Flow P (lowT B hard soft) w0 a0 ops Q F k (⟨d, .call { callee := .builtin .append, args := #[s, x], argTypes := #[t, t] }, ty, pos, af, g⟩ :: rest) := by
  subst hst
  refine flow_op _ (keeps_own B e news) (.inl hsoft) hg (fun ev W he hW hf => ?_) h
  have hf1 : factOf a0 F (.tmp st) (ev (.tmp st)) W := hf.1
  simp only [factOf, hs] at hf1
  obtain ⟨b, e1, hbb, hw⟩ := hf1
  have e2 := hx.at (show factOf a0 F x (ev x) W from hf.2.1)
  have hsW : w0.heap.size ≤ W.heap.size := Low.size (B := B) hW
  obtain ⟨v', w', hrun, ho, hc⟩ := run_append_empty (P := P) W B t ty e i z bytes ht hi hz hsz hby hz1 b hw hbb (Nat.le_trans hB hsW) A m c news hl (hsrc W hW) hb h63
  have hr : (execOp ev ⟨d, .call { callee := .builtin .append, args := #[.tmp st, x], argTypes := #[t, t] }, ty, pos, af, g⟩).run P W = .ok (.value v') w' := by
    unfold execOp
    simp only [resolve, invoke, builtin, Sem.run_bind, Sem.run_pure, Result.andThen_ok, List.map_toArray, List.map_cons, List.map_nil, e1, e2, hrun]
  rw [hr]
  exact ⟨low_by k hc, by rw [ownF, hl]; exact ho⟩
/-- append onto a row of the call's own: it may be written in place. -/
theorem flow_append_own {s x : Operand} {st xt : Tmp} {t e : TypeId} {i : TypeInfo} {z : Value} {bytes : Nat} {xs news : List Value} (hB : B ≤ w0.heap.size) (hst : s = .tmp st) (hs : look F st = some (ownF B e xs)) (hxt : x = .tmp xt) (hx : look F xt = some (ownF B e news))
    (ht : P.underlying t = some (.slice e)) (hi : P.info? e = some i) (hz : i.zero = some z) (hsz : i.size = 1) (hby : i.bytes = bytes) (hz1 : z.cells.size = 1) (h1 : ∀ u ∈ news, u.oneCell' = true) (hb : (xs.length + news.length) * bytes ≤ 140737488355328) (h63 : xs.length + news.length ≤ maxLen)
    (hsoft : (lowT B hard soft).soft.contains k = true) (hhard : hard.contains k = true)
    (hg : guardIs ops F true ⟨d, .call { callee := .builtin .append, args := #[s, x], argTypes := #[t, t] }, ty, pos, af, g⟩) (h : Flow P (lowT B hard soft) w0 a0 ops Q ((d, ownF B e (xs ++ news)) :: F) (k + 1) rest) :
    Flow P (lowT B hard soft) w0 a0 ops Q F k (⟨d, .call { callee := .builtin .append, args := #[s, x], argTypes := #[t, t] }, ty, pos, af, g⟩ :: rest) := by
  subst hst
  subst hxt
  refine flow_op _ (keeps_own B e _) (.inl hsoft) hg (fun ev W he hW hf => ?_) h
  have hf1 : factOf a0 F (.tmp st) (ev (.tmp st)) W := hf.1
  simp only [factOf, hs] at hf1
  have hf2 : factOf a0 F (.tmp xt) (ev (.tmp xt)) W := hf.2.1
  simp only [factOf, hx] at hf2
  obtain ⟨A2, c2, e2, hl2, _, hs2, _⟩ := own_slice hf2
  have hsW : w0.heap.size ≤ W.heap.size := Low.size (B := B) hW
  obtain ⟨v', w', hrun, ho, hgr, _⟩ := exec_append_src (P := P) (ev := ev) (d := d) (ty := ty) (pos := pos) (af := af) (g := g) (s := .tmp st) (x := .tmp xt) B e i z bytes ht hi hz hsz hby hz1 rfl hf1 e2 rfl hs2 h1 h63 hb (Nat.le_trans hB hsW)
  rw [hrun]
  exact ⟨low_hard hhard (Low.of_own hf1 hgr), by rw [ownF, List.length_append]; exact ho⟩
/-- append onto a row of the call's own of a slice that is known. -/
theorem flow_append_det {s x : Operand} {st : Tmp} {t e : TypeId} {i : TypeInfo} {z : Value} {bytes : Nat} {xs news : List Value} {A : Option Addr} {m c : Nat} (hB : B ≤ w0.heap.size) (hst : s = .tmp st) (hs : look F st = some (ownF B e xs)) (hx : Det a0 F x (.slice A m c))
    (ht : P.underlying t = some (.slice e)) (hi : P.info? e = some i) (hz : i.zero = some z) (hsz : i.size = 1) (hby : i.bytes = bytes) (hz1 : z.cells.size = 1) (hl : news.length = m) (hsrc : ∀ W, Low B w0 W → Src W A news) (h1 : ∀ u ∈ news, u.oneCell' = true) (hb : (xs.length + m) * bytes ≤ 140737488355328) (h63 : xs.length + m ≤ maxLen)
    (hsoft : (lowT B hard soft).soft.contains k = true) (hhard : hard.contains k = true)
    (hg : guardIs ops F true ⟨d, .call { callee := .builtin .append, args := #[s, x], argTypes := #[t, t] }, ty, pos, af, g⟩) (h : Flow P (lowT B hard soft) w0 a0 ops Q ((d, ownF B e (xs ++ news)) :: F) (k + 1) rest) :
    Flow P (lowT B hard soft) w0 a0 ops Q F k (⟨d, .call { callee := .builtin .append, args := #[s, x], argTypes := #[t, t] }, ty, pos, af, g⟩ :: rest) := by
  subst hst
  refine flow_op _ (keeps_own B e _) (.inl hsoft) hg (fun ev W he hW hf => ?_) h
  have hf1 : factOf a0 F (.tmp st) (ev (.tmp st)) W := hf.1
  simp only [factOf, hs] at hf1
  have e2 := hx.at (show factOf a0 F x (ev x) W from hf.2.1)
  have hsW : w0.heap.size ≤ W.heap.size := Low.size (B := B) hW
  obtain ⟨v', w', hrun, ho, hgr, _⟩ := exec_append_src (P := P) (ev := ev) (d := d) (ty := ty) (pos := pos) (af := af) (g := g) (s := .tmp st) (x := x) B e i z bytes ht hi hz hsz hby hz1 rfl hf1 e2 hl (hsrc W hW) h1 h63 hb (Nat.le_trans hB hsW)
  rw [hrun]
  exact ⟨low_hard hhard (Low.of_own hf1 hgr), by rw [ownF, List.length_append, hl]; exact ho⟩
end
end Go.Proofs.Ytafgpmempgoikaa
namespace Go.Proofs.Ytafgpmempgoikaa
open Go.RowKit
/-- A truth, and only new memory. -/
def BoolPost (b : Bool) (w : World) (e : Ending) (w' : World) : Prop := e = .returned (.bool b) ∧ Chg [] w w'
theorem ret_bool {a b : Bool} (h : a = b) : Ending.returned (.bool a) = .returned (.bool b) := by rw [h]
theorem ret_int' {k : IntKind} {a b : Int} (h : a = b) : Ending.returned (.int k a) = .returned (.int k b) := by rw [h]
/-- A root by value. -/
def rootV (L P E : Int) : Value := .agg #[.int .i64 L, .int .i64 P, .int .u32 E]
def needI (n : Int) : Int := if n < 0 ∨ 64 < n then 0 else 18 + n * 66
theorem whole_grown {w w' : World} {B2 e2 k2 m : Nat} {v2 : Value} {ys : List Value} {g t : Nat} {cs : List Value} (h : Whole w g t cs) (h2 : w.ownsRow B2 e2 k2 v2 m ys) (hne : t ≠ e2) (hg : w.grownBy w' v2.ownBlock) : Whole w' g t cs := by
  unfold Whole at h ⊢
  rw [hg.block g ?_ ?_]
  · exact h
  · rcases Nat.lt_or_ge g w.heap.size with hlt | hge
    · exact hlt
    · rw [Array.getElem?_eq_none hge] at h; cases h
  · intro hc
    rcases h2.2 with ⟨rfl, _⟩ | ⟨g2, cap2, cur2, rfl, hb2, hh2, _⟩
    · simp [Value.ownBlock] at hc
    · simp [Value.ownBlock] at hc
      subst hc
      rw [h] at hh2
      simp at hh2
      exact hne hh2.2
/-- append as a step of a region that draws, for elements of any size. -/
theorem step_append_n {P : Program} {w : World} {ops : Array Oper} {o : Oper} {a : Act} {K : Act → World → Prop} {Q : Exit → Act → World → Prop} {E : Prop} (hgd : o.guard = none) (s x : Operand) (t : TypeId)
    (ho : o.op = .call { callee := .builtin .append, args := #[s, x], argTypes := #[t, t] })
    (base : Nat) (e : TypeId) (i : TypeInfo) (z : Value) (size bytes : Nat) (ht : P.underlying t = some (.slice e)) (hi : P.info? e = some i) (hz : i.zero = some z)
    (hsize : i.size = size) (hby : i.bytes = bytes) (hzs : z.cells.size = size) (hsz : 0 < size)
    (v : Value) (n : Nat) (xs : List Value) (hse : a.eval s = v) (hown : w.ownsRow base e size v n xs)
    (ad : Addr) (m c : Nat) (news : List Value) (hxe : a.eval x = .slice (some ad) m c) (hl : news.length = m * size) (hnews : ∀ j u, news[j]? = some u → w.cell? (ad.add j) = some u) (h1 : ∀ u ∈ news, u.oneCell' = true)
    (h63 : n + m ≤ maxLen) (hbytes : (n + m) * bytes ≤ 140737488355328) (hbase : base ≤ w.heap.size)
    (h : ∀ v' w', w'.ownsRow base e size v' (n + m) (xs ++ news) → w.grownBy w' v.ownBlock → K (a.put o.dst v') w') :
    if Region.wanted o (yielded ops a.tmps) = true then Oper.wp P o a w K Q else E := by
  have hw : Region.wanted o (yielded ops a.tmps) = true := by simp [Region.wanted, hgd]
  rw [if_pos hw]
  obtain ⟨v', w', hrun, h2, h3, _, _⟩ := run_append_own_at (P := P) w base t o.type e i z size bytes ht hi hz hsize hby hzs hsz v n xs hown ad m c news hl hnews h1 h63 hbytes hbase
  unfold Oper.wp execOp
  simp only [ho, resolve, invoke, builtin, Sem.run_bind, Sem.run_pure, Result.andThen_ok, List.map_toArray, List.map_cons, List.map_nil, hse, hxe, hrun]
  exact h v' w' h2 h3
theorem cells_u8 : (Value.int .u8 0).cells.size = 1 := rfl
theorem nms_len (l : List Int) : (nms l).length = l.length := by simp [nms]
theorem nms_app (l m : List Int) : nms (l ++ m) = nms l ++ nms m := by simp [nms]
theorem nms_get (l : List Int) (i : Nat) (h : i < l.length) : (nms l)[i]? = some (.int .i64 l[i]) := by simp [nms, h]
theorem cell_keep {w w' : World} {p : Addr} {v : Value} (h : w.cell? p = some v) (hc : Chg [] w w') : w'.cell? p = some v := by
  have hs : Src w (some p) [v] := fun _ => ⟨p, rfl, by
    rcases Nat.lt_or_ge p.block w.heap.size with hlt | hge
    · exact hlt
    · simp [World.cell?, Array.getElem?_eq_none hge] at h, fun j u hj => by
    cases j with
    | zero =>
      simp at hj
      subst hj
      have e : p.add 0 = p := by simp [Addr.add]
      rw [e]; exact h
    | succ j => simp at hj⟩
  obtain ⟨ad, e, _, hx⟩ := hs.keep hc (by simp)
  injection e with e
  subst e
  have := hx 0 v rfl
  have e : p.add 0 = p := by simp [Addr.add]
  rwa [e] at this
theorem wdrew {w W : World} (h : Chg [] w.drew W) : Chg [] w W := (Chg.refl [] w).drew.new h
theorem not2 {a b x : Nat} (h1 : a ≠ x) (h2 : b ≠ x) : x ∉ [a, b] := by simp; exact ⟨fun e => h1 e.symm, fun e => h2 e.symm⟩
theorem not2' {a b x : Nat} (h1 : x ≠ a) (h2 : x ≠ b) : x ∉ [a, b] := by simp; exact ⟨h1, h2⟩
theorem not3 {a b c x : Nat} (h1 : x ≠ a) (h2 : x ≠ b) (h3 : x ≠ c) : x ∉ [a, b, c] := by simp; exact ⟨h1, h2, h3⟩
end Go.Proofs.Ytafgpmempgoikaa
namespace Go.Proofs.Ytafgpmempgoikaa
open Go.RowKit
section
variable {w w' : World} {B B2 n m k k2 : Nat} {e e2 : TypeId} {v v2 : Value} {xs ys : List Value}
theorem rown_keep (h : w.ownsRow B e k v n xs) (hc : Chg [] w w') : w'.ownsRow B e k v n xs := by
  refine ⟨h.1, h.2.imp id ?_⟩
  rintro ⟨g, cap, cur, rfl, hb, hg, r⟩
  refine ⟨g, cap, cur, rfl, hb, ?_, r⟩
  rw [hc.block g ?_ (by simp)]
  · exact hg
  · rcases Nat.lt_or_ge g w.heap.size with hlt | hge
    · exact hlt
    · rw [Array.getElem?_eq_none hge] at hg; cases hg
theorem rown_slice (h : w.ownsRow B e k v n xs) : ∃ A c, v = .slice A n c ∧ n ≤ c ∧ c ≤ 9223372036854775807 ∧ (∀ ad, A = some ad → ad.spot = none ∧ B ≤ ad.block ∧ ad.off = 0 ∧ ad.block < w.heap.size) := by
  rcases h.2 with ⟨rfl, rfl⟩ | ⟨g, cap, cur, rfl, hb, hg, hn, hc, hs, ht⟩
  · exact ⟨none, 0, rfl, Nat.le_refl _, by omega, fun ad h => by cases h⟩
  · have hgl : g < w.heap.size := by
      rcases Nat.lt_or_ge g w.heap.size with hlt | hge
      · exact hlt
      · rw [Array.getElem?_eq_none hge] at hg; cases hg
    exact ⟨some ⟨g, 0, none⟩, cap, rfl, hn, by unfold maxLen at hc; omega, fun ad h => by injection h with h; subst h; exact ⟨rfl, hb, rfl, hgl⟩⟩
theorem rown_cell (h : w.ownsRow B e k v n xs) {A : Option Addr} {c : Nat} (hv : v = .slice A n c) {j : Nat} {u : Value} (hj : xs[j]? = some u) : ∃ g, A = some ⟨g, 0, none⟩ ∧ w.cell? ⟨g, j, none⟩ = some u := by
  rcases h.2 with ⟨rfl, rfl⟩ | ⟨g, cap, cur, rfl, hb, hg, hn, hc, hs, ht⟩
  · have := (List.getElem?_eq_some_iff.1 hj).1
    have h1 := h.1
    simp at h1
    subst h1
    simp at hj
  · injection hv with h1
    refine ⟨g, h1.symm, ?_⟩
    have := h.cells (g := g) rfl j u hj
    rwa [add_plain, Nat.zero_add] at this
theorem rown_grown (h : w.ownsRow B e k v n xs) (h2 : w.ownsRow B2 e2 k2 v2 m ys) (hne : e ≠ e2) (hg : w.grownBy w' v2.ownBlock) : w'.ownsRow B e k v n xs := by
  refine ⟨h.1, h.2.imp id ?_⟩
  rintro ⟨g, cap, cur, rfl, hb, hh, r⟩
  refine ⟨g, cap, cur, rfl, hb, ?_, r⟩
  rw [hg.block g ?_ ?_]
  · exact hh
  · rcases Nat.lt_or_ge g w.heap.size with hlt | hge
    · exact hlt
    · rw [Array.getElem?_eq_none hge] at hh; cases hh
  · intro hc
    rcases h2.2 with ⟨rfl, _⟩ | ⟨g2, cap2, cur2, rfl, hb2, hh2, _⟩
    · simp [Value.ownBlock] at hc
    · simp [Value.ownBlock] at hc
      subst hc
      rw [hh] at hh2
      simp at hh2
      exact hne hh2.2
end
end Go.Proofs.Ytafgpmempgoikaa
namespace Go.Proofs.Ytafgpmempgoikaa
open Go.RowKit

theorem info_u8 : (Try.prog.info? 5).map (fun i => (i.zero, i.size, i.bytes)) = some (some (.int .u8 0), 1, 1) := by kernel_rfl
theorem info_bool : (Try.prog.info? 4).map (fun i => (i.zero, i.size, i.bytes)) = some (some (.bool false), 1, 1) := by kernel_rfl
theorem info_int : (Try.prog.info? 3).map (fun i => (i.zero, i.size, i.bytes)) = some (some (.int .i64 0), 1, 8) := by kernel_rfl
theorem size_u8 : (Try.prog.info? 5).map (·.size) = some 1 := by kernel_rfl

/-- What sector makes of n bytes: 64, zeros behind them. -/
def pad (l : List UInt8) : List UInt8 := l.take 64 ++ zeros (64 - l.length)
theorem pad_len (l : List UInt8) : (pad l).length = 64 := by simp [pad, zeros]; omega


end Go.Proofs.Ytafgpmempgoikaa
namespace Go.Proofs.Ytafgpmempgoikaa
open Go.RowKit

theorem ret_int {k : IntKind} {a b : Int} (h : a = b) : Ending.returned (.int k a) = .returned (.int k b) := by rw [h]
/-- One byte more; all of them. -/
def stp (h : Int) (b : UInt8) : Int := bits .xor .u32 h ((b.toNat : Int) % 4294967296) * 16777619 % 4294967296
theorem ret_stp (h : Int) (b : UInt8) : Ending.returned (.int .u32 (bits .xor .u32 h ((b.toNat : Int) % 4294967296) * 16777619 % 4294967296)) = .returned (.int .u32 (stp h b)) := by unfold stp; rfl
def sumL (h : Int) (l : List UInt8) : Int := l.foldl stp h
theorem sumL_snoc (h : Int) (l : List UInt8) (b : UInt8) : sumL h (l ++ [b]) = stp (sumL h l) b := by simp [sumL]
theorem sumL_app (h : Int) (l m : List UInt8) : sumL h (l ++ m) = sumL (sumL h l) m := by simp [sumL]
theorem take_next {α : Type} (l : List α) (k : Nat) (h : k < l.length) : l.take (k + 1) = l.take k ++ [l[k]] := List.take_succ_eq_append_getElem h
theorem sumL_next (h : Int) (l : List UInt8) (k : Nat) (hk : k < l.length) : sumL h (l.take (k + 1)) = stp (sumL h (l.take k)) l[k] := by rw [take_next l k hk, sumL_snoc]

section
variable {w : World}
variable {A : Option Addr} {n c : Nat} {l : List UInt8}
end
end Go.Proofs.Ytafgpmempgoikaa
namespace Go.Proofs.Ytafgpmempgoikaa
open Go.RowKit
theorem info_byte : (Try.prog.info? 5).map (fun i => (i.zero, i.size, i.bytes)) = some (some (.int .u8 0), 1, 1) := by kernel_rfl
/-- A number's four bytes. -/
def be4 (k : Nat) : List UInt8 := [UInt8.ofNat (k / 16777216), UInt8.ofNat (k / 65536), UInt8.ofNat (k / 256), UInt8.ofNat k]
theorem be4_len (k : Nat) : (be4 k).length = 4 := rfl
theorem bts_be4 (k : Nat) (hk : k < 4294967296) : bts (be4 k) = [.int .u8 ((k : Int) / 16777216), .int .u8 ((k : Int) / 65536 % 256), .int .u8 ((k : Int) / 256 % 256), .int .u8 ((k : Int) % 256)] := by
  have h : ∀ x : Nat, (((UInt8.ofNat x).toNat : Nat) : Int) = ((x % 256 : Nat) : Int) := fun x => by rw [UInt8.toNat_ofNat']
  have h2 : ((k / 16777216 % 256 : Nat) : Int) = (k : Int) / 16777216 := by omega
  simp only [bts, be4, List.map_cons, List.map_nil, B8, h, h2, Int.natCast_emod, Int.natCast_ediv, Int.cast_ofNat_Int]

/-- What a call that makes bytes answers. -/
def BytesPost (w : World) (l : List UInt8) (e : Ending) (w' : World) : Prop := ∃ v, e = .returned v ∧ w'.ownsRow w.heap.size 5 1 v l.length (bts l) ∧ Chg [] w w'

section
variable {w : World} {A : Option Addr} {n c : Nat} {l : List UInt8}
end
end Go.Proofs.Ytafgpmempgoikaa
namespace Go.Proofs.Ytafgpmempgoikaa
open Go.RowKit
section
variable {w : World} {A : Option Addr} {n c : Nat} {l : List UInt8}
theorem Bs.take (h : Bs w A n c l) {m : Nat} (hm : m ≤ n) : Bs w A m c (l.take m) :=
  ⟨by rw [List.length_take, h.len]; omega, src_pre m h.src, Nat.le_trans hm h.cap, h.max, fun h0 => h.spot (by omega)⟩
where
  src_pre (m : Nat) {w : World} {A : Option Addr} {l : List UInt8} (hs : Src w A (bts l)) : Src w A (bts (l.take m)) := fun hp => by
    obtain ⟨ad, e, hb, hx⟩ := hs (by simp [bts] at hp ⊢; omega)
    refine ⟨ad, e, hb, fun j v hj => hx j v ?_⟩
    unfold bts at hj ⊢
    rw [List.map_take, List.getElem?_take] at hj
    split at hj
    · exact hj
    · cases hj

end
theorem bts_app (l m : List UInt8) : bts (l ++ m) = bts l ++ bts m := by simp [bts]
theorem add0 (A : Option Addr) : Option.map (fun x : Addr => x.add 0) A = A := by cases A <;> simp [Addr.add]
/-- An own row that is not empty: its block, whole. -/
theorem own_whole {w : World} {B n : Nat} {e : TypeId} {v : Value} {xs : List Value} (h : w.ownsRow B e 1 v n xs) (hn : 0 < n) :
    ∃ g r, v = .slice (some ⟨g, 0, none⟩) n (n + r.length) ∧ B ≤ g ∧ Whole w g e (xs ++ r) ∧ n + r.length ≤ maxLen := by
  rcases h.2 with ⟨_, h0⟩ | ⟨g, cap, cur, rfl, hb, hg, hc, hm, hs, ht⟩
  · omega
  · have hl : cur.toList.length = cap := by rw [Array.length_toList]; omega
    have h1 : n * 1 = n := Nat.mul_one n
    rw [h1] at ht
    have e1 : cap = n + (cur.toList.drop n).length := by rw [List.length_drop, hl]; omega
    refine ⟨g, cur.toList.drop n, by rw [← e1], hb, ?_, by omega⟩
    unfold Whole
    rw [← ht, List.take_append_drop]
    exact hg

end Go.Proofs.Ytafgpmempgoikaa
namespace Go.Proofs.Ytafgpmempgoikaa
open Go.RowKit
/-- A change as it lies in memory: two cells, one of them a slice. -/
structure ChV where
  page : Int
  bA : Option Addr
  bn : Nat
  bc : Nat
  B : List UInt8
def chC (a : ChV) : List Value := [.int .i64 a.page, .slice a.bA a.bn a.bc]
structure ChOk (w : World) (a : ChV) : Prop where
  p0 : -9223372036854775808 ≤ a.page
  p1 : a.page ≤ 9223372036854775807
  bs : Bs w a.bA a.bn a.bc a.B
/-- The slice at A reads as the changes l. -/
structure Chs (w : World) (A : Option Addr) (l : List ChV) : Prop where
  cells : 0 < l.length → ∃ g o, A = some ⟨g, o, none⟩ ∧ g < w.heap.size ∧ ∀ k a, l[k]? = some a → w.cell? ⟨g, o + k * 2, none⟩ = some (.int .i64 a.page) ∧ w.cell? ⟨g, o + k * 2 + 1, none⟩ = some (.slice a.bA a.bn a.bc)
  ok : ∀ a ∈ l, ChOk w a
/-- A change that Bytes can write. -/
def Small (a : ChV) : Prop := 0 ≤ a.page ∧ a.page < 65536 ∧ a.bn = 64
theorem ChOk.keep {w w' : World} {a : ChV} (h : ChOk w a) (hc : Chg [] w w') : ChOk w' a := { h with bs := h.bs.keep hc }
theorem Chs.nil (w : World) (A : Option Addr) : Chs w A [] := ⟨fun h => absurd h (by simp), fun a ha => by simp at ha⟩
theorem Chs.keep {w w' : World} {A : Option Addr} {l : List ChV} (h : Chs w A l) (hc : Chg [] w w') : Chs w' A l := by
  refine ⟨fun h0 => ?_, fun a ha => (h.ok a ha).keep hc⟩
  obtain ⟨g, o, e, hg, hx⟩ := h.cells h0
  refine ⟨g, o, e, Nat.lt_of_lt_of_le hg hc.size, fun k a ha => ?_⟩
  obtain ⟨h1, h2⟩ := hx k a ha
  have hk : ∀ j, w'.cell? ⟨g, j, none⟩ = w.cell? ⟨g, j, none⟩ := fun j => World.cell?_of_block (w := w) (hc.block g hg (by simp))
  exact ⟨(hk _).trans h1, (hk _).trans h2⟩
/-- append as a step of a region that draws. -/
theorem step_append_src {P : Program} {w : World} {ops : Array Oper} {o : Oper} {a : Act} {K : Act → World → Prop} {Q : Exit → Act → World → Prop} {E : Prop} (hgd : o.guard = none) (s x : Operand) (t : TypeId)
    (ho : o.op = .call { callee := .builtin .append, args := #[s, x], argTypes := #[t, t] })
    (base : Nat) (e : TypeId) (i : TypeInfo) (z : Value) (bytes : Nat) (ht : P.underlying t = some (.slice e)) (hi : P.info? e = some i) (hz : i.zero = some z)
    (hsize : i.size = 1) (hby : i.bytes = bytes) (hzs : z.cells.size = 1)
    (v : Value) (n : Nat) (xs : List Value) (hse : a.eval s = v) (hown : w.ownsRow base e 1 v n xs)
    (A : Option Addr) (m c : Nat) (news : List Value) (hxe : a.eval x = .slice A m c) (hl : news.length = m) (hs : Src w A news) (h1 : ∀ u ∈ news, u.oneCell' = true)
    (h63 : n + m ≤ maxLen) (hbytes : (n + m) * bytes ≤ 140737488355328) (hbase : base ≤ w.heap.size)
    (h : ∀ v' w', w'.ownsRow base e 1 v' (n + m) (xs ++ news) → w.grownBy w' v.ownBlock → K (a.put o.dst v') w') :
    if Region.wanted o (yielded ops a.tmps) = true then Oper.wp P o a w K Q else E := by
  have hw : Region.wanted o (yielded ops a.tmps) = true := by simp [Region.wanted, hgd]
  rw [if_pos hw]
  obtain ⟨v', w', hrun, h2, h3, _⟩ := run_append_src (P := P) w base t o.type e i z bytes ht hi hz hsize hby hzs v n xs hown A m c news hl hs h1 h63 hbytes hbase
  unfold Oper.wp execOp
  simp only [ho, resolve, invoke, builtin, Sem.run_bind, Sem.run_pure, Result.andThen_ok, List.map_toArray, List.map_cons, List.map_nil, hse, hxe, hrun]
  exact h v' w' h2 h3
/-- Two bytes, the higher one first. -/
def be2 (k : Nat) : List UInt8 := [UInt8.ofNat (k / 256), UInt8.ofNat k]
theorem bts_be2 (k : Nat) (hk : k < 65536) : bts (be2 k) = [.int .u8 ((k : Int) / 256), .int .u8 ((k : Int) % 256)] := by
  unfold be2 bts
  simp only [List.map_cons, List.map_nil, B8, UInt8.toNat_ofNat']
  have h1 : k / 256 % 2 ^ 8 = k / 256 := Nat.mod_eq_of_lt (by omega)
  rw [h1]
  congr 2
/-- What of Right is asked of the pages, one behind the other. -/
def rightS (last pages : Int) : List ChV → Bool
  | [] => true
  | a :: l => !(decide (a.page ≤ last) || decide (pages ≤ a.page) || decide (a.bn ≠ 64)) && rightS a.page pages l
def rightB (pages : Int) (l : List ChV) : Bool := decide (pages ≤ 64) && rightS (-1) pages l
section
variable {w : World} {A : Option Addr} {n c : Nat}
end
end Go.Proofs.Ytafgpmempgoikaa
namespace Go.Proofs.Ytafgpmempgoikaa
open Go.RowKit
/-- The cells of changes. -/
def chCs : List ChV → List Value
  | [] => []
  | a :: l => chC a ++ chCs l
theorem chCs_len : ∀ l, (chCs l).length = l.length * 2
  | [] => rfl
  | a :: l => by rw [chCs, List.length_append, chCs_len l]; simp [chC]; omega
theorem chCs_app : ∀ l m, chCs (l ++ m) = chCs l ++ chCs m
  | [], _ => rfl
  | a :: l, m => by rw [List.cons_append, chCs, chCs, chCs_app l m, List.append_assoc]
theorem chCs_one (a : ChV) : chCs [a] = chC a := by simp [chCs]
theorem chCs_get : ∀ (l : List ChV) (k : Nat) (a : ChV) (j : Nat), l[k]? = some a → j < 2 → (chCs l)[k * 2 + j]? = (chC a)[j]?
  | [], k, a, j, h, hj => by simp at h
  | b :: l, 0, a, j, h, hj => by
    simp at h; subst h
    rw [chCs, List.getElem?_append_left (by simp [chC]; omega)]
    congr 1; omega
  | b :: l, k + 1, a, j, h, hj => by
    simp at h
    rw [chCs, List.getElem?_append_right (by simp [chC]; omega)]
    rw [← chCs_get l k a j h hj]
    congr 1; simp [chC]; omega
/-- A change whose bytes lie in a block of their own, from B0 on. -/
structure MadeCh (w : World) (B0 : Nat) (a : ChV) : Prop where
  b : ∃ g, a.bA = some ⟨g, 0, none⟩ ∧ B0 ≤ g ∧ Whole w g 5 (bts a.B)
  bl : a.B.length = 64
  bn : a.bn = 64
  bc : a.bc = 64
  p : 0 ≤ a.page ∧ a.page < 65536
theorem MadeCh.ok {w : World} {B0 : Nat} {a : ChV} (h : MadeCh w B0 a) : ChOk w a := by
  obtain ⟨g, hg, _, hW⟩ := h.b
  refine ⟨by have := h.p; omega, by have := h.p; omega, ?_⟩
  rw [hg, h.bn, h.bc]
  have := Bs.of_all hW (by rw [h.bl]; omega)
  rwa [h.bl] at this
theorem MadeCh.small {w : World} {B0 : Nat} {a : ChV} (h : MadeCh w B0 a) : Small a := ⟨h.p.1, h.p.2, h.bn⟩
theorem MadeCh.chg {w w' : World} {B0 : Nat} {a : ChV} {T : List Nat} (h : MadeCh w B0 a) (hc : Chg T w w') (hT : ∀ i ∈ T, i < B0 ∨ w.heap.size ≤ i) : MadeCh w' B0 a := by
  obtain ⟨g, hg, hB, hW⟩ := h.b
  exact { h with b := ⟨g, hg, hB, hW.chg hc fun hm => by have := hT g hm; have := hW.lt; omega⟩ }
theorem rown_chg {w w' : World} {B n k : Nat} {e : TypeId} {v : Value} {xs : List Value} {T : List Nat} (h : w.ownsRow B e k v n xs) (hc : Chg T w w') (hT : ∀ i ∈ T, i < B ∨ w.heap.size ≤ i) : w'.ownsRow B e k v n xs := by
  refine ⟨h.1, h.2.imp id ?_⟩
  rintro ⟨g, cap, cur, rfl, hb, hg, r⟩
  refine ⟨g, cap, cur, rfl, hb, ?_, r⟩
  have hgl : g < w.heap.size := by
    rcases Nat.lt_or_ge g w.heap.size with hlt | hge
    · exact hlt
    · rw [Array.getElem?_eq_none hge] at hg; cases hg
  rw [hc.block g hgl (fun hm => by have := hT g hm; omega)]
  exact hg
/-- An own row of changes, as a list of changes is taken. -/
theorem chs_own {w : World} {B B0 n : Nat} {e : TypeId} {v : Value} {l : List ChV} (h : w.ownsRow B e 2 v n (chCs l)) (hok : ∀ a ∈ l, MadeCh w B0 a) :
    ∃ A c, v = .slice A n c ∧ l.length = n ∧ Chs w A l ∧ n ≤ 9223372036854775807 ∧ n ≤ c ∧ (∀ ad, A = some ad → ad.spot = none) := by
  have hl : l.length = n := by have := h.1; rw [chCs_len] at this; omega
  rcases h.2 with ⟨rfl, rfl⟩ | ⟨g, cap, cur, rfl, hb, hg, hn, hc, hs, ht⟩
  · exact ⟨none, 0, rfl, hl, ⟨fun h => absurd h (by omega), fun a ha => (hok a ha).ok⟩, by omega, Nat.le_refl _, fun ad e => by cases e⟩
  · have hgl : g < w.heap.size := by
      rcases Nat.lt_or_ge g w.heap.size with hlt | hge
      · exact hlt
      · rw [Array.getElem?_eq_none hge] at hg; cases hg
    refine ⟨_, cap, rfl, hl, ⟨fun _ => ⟨g, 0, rfl, hgl, fun k a ha => ?_⟩, fun a ha => (hok a ha).ok⟩, by unfold maxLen at hc; omega, hn, fun ad e => by injection e with e; subst e; rfl⟩
    have hx : ∀ j u, (chCs l)[j]? = some u → w.cell? ((⟨g, 0, none⟩ : Addr).add j) = some u := h.cells rfl
    have q : ∀ j, j < 2 → ∀ u, (chC a)[j]? = some u → w.cell? ⟨g, k * 2 + j, none⟩ = some u := fun j hj u hu => by
      have := hx (k * 2 + j) u ((chCs_get l k a j ha hj).trans hu)
      rwa [add_plain, Nat.zero_add] at this
    simp only [Nat.zero_add]
    exact ⟨q 0 (by omega) _ rfl, q 1 (by omega) _ rfl⟩
theorem cells_page (w : World) (xs : List Value) (t : Nat) : ∀ (j : Nat) (u : Value), xs[j]? = some u → (w.alloc (.cells xs.toArray t)).cell? ((⟨w.heap.size, 0, none⟩ : Addr).add j) = some u := fun j u hj => by
  rw [add_plain, Nat.zero_add, (Whole.new w t xs).cell]; exact hj
/-- A change whose bytes begin a block of their own, from B0 on. -/
structure RMade (w : World) (B0 : Nat) (a : ChV) : Prop where
  b : ∃ g r, a.bA = some ⟨g, 0, none⟩ ∧ B0 ≤ g ∧ Whole w g 5 (bts a.B ++ r) ∧ a.bc = 64 + r.length ∧ 64 + r.length ≤ 9223372036854775807
  bl : a.B.length = 64
  bn : a.bn = 64
  p : 0 ≤ a.page ∧ a.page < 65536
theorem RMade.ok {w : World} {B0 : Nat} {a : ChV} (h : RMade w B0 a) : ChOk w a := by
  obtain ⟨g, r, hg, _, hW, hc, hm⟩ := h.b
  refine ⟨by have := h.p; omega, by have := h.p; omega, ?_⟩
  rw [hg, h.bn, hc]
  exact Bs.of_whole hW h.bl (by rw [List.take_left' (by rw [bts_len, h.bl])]) (by omega) hm
theorem RMade.chg {w w' : World} {B0 : Nat} {a : ChV} {T : List Nat} (h : RMade w B0 a) (hc : Chg T w w') (hT : ∀ i ∈ T, i < B0 ∨ w.heap.size ≤ i) : RMade w' B0 a := by
  obtain ⟨g, r, hg, hB, hW, hr⟩ := h.b
  exact { h with b := ⟨g, r, hg, hB, hW.chg hc (fun hm => by have := hT g hm; have := hW.lt; omega), hr⟩ }
theorem chs_own' {w : World} {B n : Nat} {e : TypeId} {v : Value} {l : List ChV} (h : w.ownsRow B e 2 v n (chCs l)) (hok : ∀ a ∈ l, ChOk w a) :
    ∃ A c, v = .slice A n c ∧ l.length = n ∧ Chs w A l ∧ n ≤ 9223372036854775807 ∧ n ≤ c ∧ (∀ ad, A = some ad → ad.spot = none) := by
  have hl : l.length = n := by have := h.1; rw [chCs_len] at this; omega
  rcases h.2 with ⟨rfl, rfl⟩ | ⟨g, cap, cur, rfl, hb, hg, hn, hc, hs, ht⟩
  · exact ⟨none, 0, rfl, hl, ⟨fun h => absurd h (by omega), hok⟩, by omega, Nat.le_refl _, fun ad e => by cases e⟩
  · have hgl : g < w.heap.size := by
      rcases Nat.lt_or_ge g w.heap.size with hlt | hge
      · exact hlt
      · rw [Array.getElem?_eq_none hge] at hg; cases hg
    refine ⟨_, cap, rfl, hl, ⟨fun _ => ⟨g, 0, rfl, hgl, fun k a ha => ?_⟩, hok⟩, by unfold maxLen at hc; omega, hn, fun ad e => by injection e with e; subst e; rfl⟩
    have hx : ∀ j u, (chCs l)[j]? = some u → w.cell? ((⟨g, 0, none⟩ : Addr).add j) = some u := h.cells rfl
    have q : ∀ j, j < 2 → ∀ u, (chC a)[j]? = some u → w.cell? ⟨g, k * 2 + j, none⟩ = some u := fun j hj u hu => by
      have := hx (k * 2 + j) u ((chCs_get l k a j ha hj).trans hu)
      rwa [add_plain, Nat.zero_add] at this
    simp only [Nat.zero_add]
    exact ⟨q 0 (by omega) _ rfl, q 1 (by omega) _ rfl⟩
theorem MadeCh.rmade {w : World} {B0 : Nat} {a : ChV} (h : MadeCh w B0 a) : RMade w B0 a := by
  obtain ⟨g, hg, hB, hW⟩ := h.b
  exact ⟨⟨g, [], hg, hB, by rw [List.append_nil]; exact hW, by rw [h.bc]; rfl, by simp⟩, h.bl, h.bn, h.p⟩
end Go.Proofs.Ytafgpmempgoikaa
namespace Go.Proofs.Ytafgpmempgoikaa
open Go.RowKit
/-- What lies below B stays, but for the blocks of T. -/
structure Lo (B : Nat) (T : List Nat) (a b : World) : Prop where
  os : b.os = a.os
  tape : b.tape = a.tape
  output : b.output = a.output
  size : a.heap.size ≤ b.heap.size
  block : ∀ k, k < B → k < a.heap.size → k ∉ T → b.heap[k]? = a.heap[k]?
theorem Lo.of_chg {B : Nat} {T T' : List Nat} {a b : World} (h : Chg T' a b) (hT : ∀ i ∈ T', B ≤ i ∨ i ∈ T) : Lo B T a b :=
  ⟨h.os, h.tape, h.output, h.size, fun k hB hk hn => h.block k hk fun hm => by rcases hT k hm with h | h; omega; exact hn h⟩
theorem Lo.refl (B : Nat) (T : List Nat) (a : World) : Lo B T a a := Lo.of_chg (Chg.refl [] a) fun i hi => by cases hi
theorem Lo.trans {B : Nat} {T : List Nat} {a b c : World} (h : Lo B T a b) (k : Lo B T b c) : Lo B T a c :=
  ⟨k.os.trans h.os, k.tape.trans h.tape, k.output.trans h.output, Nat.le_trans h.size k.size, fun i hB hi hn => (k.block i hB (Nat.lt_of_lt_of_le hi h.size) hn).trans (h.block i hB hi hn)⟩
theorem Lo.chg {B : Nat} {T : List Nat} {w a b : World} (h0 : Chg [] w a) (h : Lo B T a b) (hB : w.heap.size ≤ B) (hT : ∀ i ∈ T, w.heap.size ≤ i) : Chg [] w b :=
  ⟨h.os.trans h0.os, h.tape.trans h0.tape, h.output.trans h0.output, Nat.le_trans h0.size h.size, fun k hk _ => (h.block k (by omega) (Nat.lt_of_lt_of_le hk h0.size) fun hm => by have := hT k hm; omega).trans (h0.block k hk (by simp))⟩
theorem Lo.of_grown {B B2 e k n : Nat} {T : List Nat} {v : Value} {xs : List Value} {a b : World} (ho : a.ownsRow B2 e k v n xs) (hB : B ≤ B2) (hg : a.grownBy b v.ownBlock) : Lo B T a b :=
  ⟨hg.os, hg.tape, hg.output, hg.size, fun i hi hk _ => hg.block i hk fun hc => by have := (ho.lt i hc.symm).1; omega⟩
/-- Numbers, as cells. -/
def nts (l : List Nat) : List Value := l.map fun k : Nat => Value.int .i64 (k : Int)
theorem nts_len (l : List Nat) : (nts l).length = l.length := by simp [nts]
theorem nts_app (l m : List Nat) : nts (l ++ m) = nts l ++ nts m := by simp [nts]
theorem nms_set (l : List Int) (i : Nat) (x : Int) : (nms l).set i (.int .i64 x) = nms (l.set i x) := by simp [nms]
/-- A part, and the row of its left ones. -/
structure PV where
  p : NPart
  v : Value
def pvC (x : PV) : List Value := [.bool x.p.loop, .int .i64 (x.p.at_ : Int), .int .i64 (x.p.waits : Int), x.v]
def pvCs : List PV → List Value
  | [] => []
  | x :: l => pvC x ++ pvCs l
theorem pvCs_len : ∀ l, (pvCs l).length = l.length * 4
  | [] => rfl
  | x :: l => by rw [pvCs, List.length_append, pvCs_len l]; simp [pvC]; omega
theorem pvCs_app : ∀ l m, pvCs (l ++ m) = pvCs l ++ pvCs m
  | [], _ => rfl
  | x :: l, m => by rw [List.cons_append, pvCs, pvCs, pvCs_app l m, List.append_assoc]
theorem pvCs_one (x : PV) : pvCs [x] = pvC x := by simp [pvCs]
theorem pvCs_get : ∀ (l : List PV) (k : Nat) (x : PV) (j : Nat), l[k]? = some x → j < 4 → (pvCs l)[k * 4 + j]? = (pvC x)[j]?
  | [], k, x, j, h, hj => by simp at h
  | y :: l, 0, x, j, h, hj => by
    simp at h; subst h
    rw [pvCs, List.getElem?_append_left (by simp [pvC]; omega)]
    congr 1; omega
  | y :: l, k + 1, x, j, h, hj => by
    simp at h
    rw [pvCs, List.getElem?_append_right (by simp [pvC]; omega)]
    rw [← pvCs_get l k x j h hj]
    congr 1; simp [pvC]; omega
/-- What a match has in memory: the outer parts first. -/
structure Mt (W : World) (gm gt B n : Nat) (m : NSt) (vo : Value) (xs : List PV) : Prop where
  rec_ : Whole W gm 90 [.slice (some ⟨gt, 0, none⟩) n n, .int .i64 (m.deep : Int), vo]
  to_ : Whole W gt 3 (nms m.to)
  len : m.to.length = n
  op : m.op = (xs.map (·.p)).reverse
  own : W.ownsRow B 101 4 vo xs.length (pvCs xs)
  left : ∀ x ∈ xs, W.ownsRow B 3 1 x.v x.p.left.length (nts x.p.left)
  apart : xs.Pairwise fun x y => x.v.ownBlock = none ∨ x.v.ownBlock ≠ y.v.ownBlock
  lo : gm < B ∧ gt < B ∧ gm ≠ gt
  few : xs.length ≤ 16
  deep : m.deep ≤ 16
  wf : ∀ x ∈ xs, x.p.at_ < n ∧ x.p.waits < n ∧ x.p.left.length ≤ n ∧ ∀ j ∈ x.p.left, j < n
  big : n ≤ 100000
  room : B ≤ W.heap.size
theorem size_set (W : World) (p : Addr) (u : Value) : (W.setCell p u).heap.size = W.heap.size := by simp [World.setCell]
section
variable {W W' : World} {gm gt B n : Nat} {m : NSt} {vo : Value} {xs : List PV}
theorem Mt.keep (h : Mt W gm gt B n m vo xs) (hc : Chg [] W W') : Mt W' gm gt B n m vo xs :=
  { h with rec_ := h.rec_.keep hc, to_ := h.to_.keep hc, own := rown_keep h.own hc, left := fun x hx => own_keep (h.left x hx) hc, room := Nat.le_trans h.room hc.size }
theorem rown_set {e k q g c j : Nat} {u : Value} {cs : List Value} (h : W.ownsRow B e k (.slice (some ⟨g, 0, none⟩) q c) q cs) : (W.setCell ⟨g, j, none⟩ u).ownsRow B e k (.slice (some ⟨g, 0, none⟩) q c) q (cs.set j u) := by
  refine ⟨by rw [List.length_set]; exact h.1, ?_⟩
  rcases h.2 with ⟨h', _⟩ | ⟨g', cap, cur, h', hb, hg, hn, hc, hs, ht⟩
  · cases h'
  · injection h' with h1 _ h3
    injection h1 with h1
    injection h1 with h1
    subst h1
    subst h3
    refine .inr ⟨g, c, cur.setIfInBounds j u, rfl, hb, ?_, hn, hc, by simpa using hs, ?_⟩
    · have := heap_setCell_same W g j cur e u hg
      simpa using this
    · rw [Array.toList_setIfInBounds, List.take_set, ht]
theorem rown_frozen {e k q g c j : Nat} {cs : List Value} (h : W.ownsRow B e k (.slice (some ⟨g, 0, none⟩) q c) q cs) : W.frozen? ⟨g, j, none⟩ = false := by
  rcases h.2 with ⟨h', _⟩ | ⟨g', cap, cur, h', hb, hg, hn, hc, hs, ht⟩
  · cases h'
  · injection h' with h1 _ h3
    injection h1 with h1
    injection h1 with h1
    subst h1
    exact frozen_of_row W g j cur e hg
theorem rown_far {e k q : Nat} {v u : Value} {cs : List Value} {p : Addr} (h : W.ownsRow B e k v q cs) (hp : v.ownBlock ≠ some p.block) : (W.setCell p u).ownsRow B e k v q cs := by
  refine ⟨h.1, h.2.imp id ?_⟩
  rintro ⟨g, cap, cur, rfl, hb, hg, r⟩
  exact ⟨g, cap, cur, rfl, hb, (Below.heap_setCell W p u g (fun hc => hp (by rw [← hc]; rfl))).trans hg, r⟩
theorem own_ne {B2 e k q e2 k2 q2 : Nat} {v v2 : Value} {cs cs2 : List Value} (h : W.ownsRow B e k v q cs) (h2 : W.ownsRow B2 e2 k2 v2 q2 cs2) (hne : e ≠ e2) {g : Nat} (hg : v.ownBlock = some g) : v2.ownBlock ≠ some g := by
  intro hg2
  rcases h.2 with ⟨rfl, _⟩ | ⟨a, cap, cur, rfl, _, ha, _⟩
  · cases hg
  rcases h2.2 with ⟨rfl, _⟩ | ⟨b, cap2, cur2, rfl, _, hb, _⟩
  · cases hg2
  injection hg with hg
  injection hg2 with hg2
  simp only at hg hg2
  rw [hg] at ha
  rw [hg2] at hb
  rw [ha] at hb
  injection hb with hb
  injection hb with _ hb _
  exact hne hb
theorem rown_take {e k q q' : Nat} {A : Option Addr} {c : Nat} {cs : List Value} (h : W.ownsRow B e k (.slice A q c) q cs) (hq : q' ≤ q) (h0 : A ≠ none) : W.ownsRow B e k (.slice A q' c) q' (cs.take (q' * k)) := by
  have hl := h.1
  refine ⟨by rw [List.length_take, hl]; exact Nat.min_eq_left (Nat.mul_le_mul_right _ hq), ?_⟩
  rcases h.2 with ⟨h', _⟩ | ⟨g', cap, cur, h', hb, hg, hn, hc, hs, ht⟩
  · injection h' with h1; exact absurd h1 h0
  · injection h' with h1 _ h3
    subst h1
    subst h3
    exact .inr ⟨g', c, cur, rfl, hb, hg, by omega, hc, hs, by rw [← ht, List.take_take, Nat.min_eq_left (Nat.mul_le_mul_right _ hq)]⟩
/-- A place of 'to' is written. -/
theorem Mt.poke (h : Mt W gm gt B n m vo xs) (j : Nat) (x : Int) : Mt (W.setCell ⟨gt, j, none⟩ (.int .i64 x)) gm gt B n ⟨m.to.set j x, m.deep, m.op⟩ vo xs := by
  have hown : ∀ {e k q : Nat} {v : Value} {cs : List Value}, W.ownsRow B e k v q cs → v.ownBlock ≠ some gt := fun ho hc => by
    have := (ho.lt gt hc).1; have := h.lo; omega
  refine { h with rec_ := h.rec_.far (by simpa using h.lo.2.2) _, to_ := ?_, len := by rw [List.length_set]; exact h.len, own := rown_far h.own (hown h.own), left := fun y hy => rown_far (h.left y hy) (hown (h.left y hy)), room := by rw [size_set]; exact h.room }
  have := h.to_.set_ j (.int .i64 x)
  rwa [nms_set] at this
/-- The innermost part waits elsewhere. -/
theorem Mt.waits {ys : List PV} {x : PV} {g c q : Nat} (h : Mt W gm gt B n m vo (ys ++ [x])) (hv : vo = .slice (some ⟨g, 0, none⟩) q c) (i : Nat) (hi : i < n) :
    Mt (W.setCell ⟨g, ys.length * 4 + 2, none⟩ (.int .i64 (i : Int))) gm gt B n ⟨m.to, m.deep, ⟨x.p.loop, x.p.at_, i, x.p.left⟩ :: (ys.map (·.p)).reverse⟩ vo (ys ++ [⟨⟨x.p.loop, x.p.at_, i, x.p.left⟩, x.v⟩]) := by
  subst hv
  have hq : q = (ys ++ [x]).length := by
    rcases h.own.2 with ⟨e, _⟩ | ⟨_, _, _, e, _⟩
    · cases e
    · injection e
  subst hq
  have hB := (h.own.lt g rfl).1
  have hlo := h.lo
  refine ⟨h.rec_.far (by simp only; omega) _, h.to_.far (by simp only; omega) _, h.len, by simp, ?_, fun y hy => ?_, ?_, h.lo, by have := h.few; simpa using this, h.deep, fun y hy => ?_, h.big, by rw [size_set]; exact h.room⟩
  · have ho := rown_set (j := ys.length * 4 + 2) (u := .int .i64 (i : Int)) h.own
    have e1 : (ys ++ [(⟨⟨x.p.loop, x.p.at_, i, x.p.left⟩, x.v⟩ : PV)]).length = (ys ++ [x]).length := by simp
    have e2 : (pvCs (ys ++ [x])).set (ys.length * 4 + 2) (.int .i64 (i : Int)) = pvCs (ys ++ [⟨⟨x.p.loop, x.p.at_, i, x.p.left⟩, x.v⟩]) := by
      rw [pvCs_app, pvCs_app, pvCs_one, pvCs_one, List.set_append_right _ _ (by rw [pvCs_len]; omega), pvCs_len]
      rw [show ys.length * 4 + 2 - ys.length * 4 = 2 by omega]
      rfl
    rw [e1, ← e2]
    exact ho
  · rcases List.mem_append.1 hy with hy | hy
    · exact rown_far (h.left y (List.mem_append_left _ hy)) (own_ne h.own (h.left y (List.mem_append_left _ hy)) (by decide) rfl)
    · simp only [List.mem_cons, List.not_mem_nil, or_false] at hy
      subst hy
      have hx := h.left x (by simp)
      exact rown_far hx (own_ne h.own hx (by decide) rfl)
  · have := h.apart
    rw [List.pairwise_append] at this ⊢
    refine ⟨this.1, List.pairwise_singleton _ _, fun y hy z hz => ?_⟩
    simp only [List.mem_cons, List.not_mem_nil, or_false] at hz
    subst hz
    exact this.2.2 y hy x (by simp)
  · rcases List.mem_append.1 hy with hy | hy
    · exact h.wf y (List.mem_append_left _ hy)
    · simp only [List.mem_cons, List.not_mem_nil, or_false] at hy
      subst hy
      have := h.wf x (by simp)
      exact ⟨this.1, hi, this.2.2⟩
/-- The innermost part is taken away. -/
theorem Mt.drop {ys : List PV} {x : PV} {A : Option Addr} {c q : Nat} (h : Mt W gm gt B n m vo (ys ++ [x])) (hv : vo = .slice A q c) :
    Mt (W.setCell ⟨gm, 2, none⟩ (.slice A ys.length c)) gm gt B n ⟨m.to, m.deep, (ys.map (·.p)).reverse⟩ (.slice A ys.length c) ys := by
  subst hv
  have hq : q = (ys ++ [x]).length := by
    rcases h.own.2 with ⟨e, e2⟩ | ⟨_, _, _, e, _⟩
    · injection e with _ e _; rw [e2, e]
    · injection e
  subst hq
  have hA : A ≠ none := by
    rintro rfl
    rcases h.own.2 with ⟨e, _⟩ | ⟨_, _, _, e, _⟩
    · injection e with _ e _; simp at e
    · injection e with e _; cases e
  have hown : ∀ {e k q : Nat} {v : Value} {cs : List Value}, W.ownsRow B e k v q cs → v.ownBlock ≠ some gm := fun ho hc => by
    have := (ho.lt gm hc).1; have := h.lo; omega
  have ht := rown_take (q' := ys.length) h.own (by simp) hA
  have e2 : (pvCs (ys ++ [x])).take (ys.length * 4) = pvCs ys := by rw [pvCs_app, ← pvCs_len, List.take_left]
  rw [e2] at ht
  refine ⟨?_, h.to_.far (by simpa using Ne.symm h.lo.2.2) _, h.len, rfl, rown_far ht (hown ht), fun y hy => ?_, ?_, h.lo, by have := h.few; simp at this; omega, h.deep, fun y hy => h.wf y (List.mem_append_left _ hy), h.big, by rw [size_set]; exact h.room⟩
  · have := h.rec_.set_ 2 (.slice A ys.length c)
    simpa using this
  · have := h.left y (List.mem_append_left _ hy)
    exact rown_far this (hown this)
  · exact (List.pairwise_append.1 h.apart).1
end
end Go.Proofs.Ytafgpmempgoikaa
namespace Go.Proofs.Ytafgpmempgoikaa
open Go.RowKit
/-- r is a number of lo .. hi, and n itself where n is one. -/
def Into (n lo hi r : Int) : Prop := lo ≤ r ∧ r ≤ hi ∧ (lo ≤ n → n ≤ hi → r = n)
/-- What Within has done. -/
def WithinPost (n lo hi : Int) (w : World) (e : Ending) (w' : World) : Prop := ∃ r : Int, Into n lo hi r ∧ e = .returned (.int .i64 r) ∧ w = w'
/-- The number itself, or brought into lo .. hi. -/
def withinI (n lo hi : Int) : Int := if lo ≤ n ∧ n ≤ hi then n else if n.tmod (hi - lo + 1) < 0 then lo + (n.tmod (hi - lo + 1) + hi - lo + 1) else lo + n.tmod (hi - lo + 1)
theorem into_within (n lo hi : Int) (h1 : lo ≤ hi) : Into n lo hi (withinI n lo hi) := by
  have b1 := Int.tmod_lt_of_pos n (show 0 < hi - lo + 1 by omega)
  have b2 := Int.lt_tmod_of_pos n (show 0 < hi - lo + 1 by omega)
  unfold withinI
  split
  · rename_i h; exact ⟨h.1, h.2, fun _ _ => rfl⟩
  · rename_i h
    split
    · exact ⟨by omega, by omega, fun ha hb => absurd ⟨ha, hb⟩ h⟩
    · exact ⟨by omega, by omega, fun ha hb => absurd ⟨ha, hb⟩ h⟩
theorem ret_within {a b : Int} (h : a = b) : Ending.returned (.int .i64 a) = .returned (.int .i64 b) := by rw [h]
section
variable {w : World}
set_option maxHeartbeats 1000000 in
theorem within_is (n lo hi : Int) (h0 : -1000000 ≤ lo) (h1 : lo ≤ hi) (h2 : hi ≤ 1000000) (hn0 : -9223372036854775808 ≤ n) (hn1 : n ≤ 9223372036854775807) :
    Calls Try.prog 37 #[.int .i64 n, .int .i64 lo, .int .i64 hi] w fun e w' => e = .returned (.int .i64 (withinI n lo hi)) ∧ w = w' := by
  have b1 := Int.tmod_lt_of_pos n (show 0 < hi - lo + 1 by omega)
  have b2 := Int.lt_tmod_of_pos n (show 0 < hi - lo + 1 by omega)
  have hne : ((hi - lo + 1) == 0) = false := by simp; omega
  by_cases ha : lo ≤ n
  · by_cases hb : n ≤ hi
    · have HI := Lib.hid (show withinI n lo hi = n by unfold withinI; rw [if_pos ⟨ha, hb⟩])
      go_enter Try.func37, Try.ntmps37
      go_wp2_with fail
      go_ret
      exact ⟨ret_within HI.out.symm, rfl⟩
    · by_cases hm : n.tmod (hi - lo + 1) < 0
      · have HI := Lib.hid (show withinI n lo hi = lo + (n.tmod (hi - lo + 1) + hi - lo + 1) by unfold withinI; rw [if_neg (fun h => hb h.2), if_pos hm])
        go_enter Try.func37, Try.ntmps37
        go_wp2_with fail
        go_ret
        exact ⟨ret_within HI.out.symm, rfl⟩
      · have HI := Lib.hid (show withinI n lo hi = lo + n.tmod (hi - lo + 1) by unfold withinI; rw [if_neg (fun h => hb h.2), if_neg hm])
        go_enter Try.func37, Try.ntmps37
        go_wp2_with fail
        go_ret
        exact ⟨ret_within HI.out.symm, rfl⟩
  · have hd : decide (lo ≤ n) = false := by simp; omega
    by_cases hm : n.tmod (hi - lo + 1) < 0
    · have HI := Lib.hid (show withinI n lo hi = lo + (n.tmod (hi - lo + 1) + hi - lo + 1) by unfold withinI; rw [if_neg (fun h => ha h.1), if_pos hm])
      go_enter Try.func37, Try.ntmps37
      go_wp2_with fail
      go_ret
      exact ⟨ret_within HI.out.symm, rfl⟩
    · have HI := Lib.hid (show withinI n lo hi = lo + n.tmod (hi - lo + 1) by unfold withinI; rw [if_neg (fun h => ha h.1), if_neg hm])
      go_enter Try.func37, Try.ntmps37
      go_wp2_with fail
      go_ret
      exact ⟨ret_within HI.out.symm, rfl⟩
/-- A number of lo .. hi. -/
theorem within_any (n lo hi : Int) (h0 : -1000000 ≤ lo) (h1 : lo ≤ hi) (h2 : hi ≤ 1000000) (hn0 : -9223372036854775808 ≤ n) (hn1 : n ≤ 9223372036854775807) :
    Calls Try.prog 37 #[.int .i64 n, .int .i64 lo, .int .i64 hi] w (WithinPost n lo hi w) :=
  (within_is n lo hi h0 h1 h2 hn0 hn1).mono fun _ _ ⟨h1', h2'⟩ => ⟨_, into_within n lo hi h1, h1', h2'⟩
end
end Go.Proofs.Ytafgpmempgoikaa
namespace Go.Proofs.Ytafgpmempgoikaa
open Go.RowKit
/-- A tape as it lies in memory: its numbers, where it stands. -/
structure Tp (w : World) (p : Nat) (A : Option Addr) (n c : Nat) (l : List Int) (at_ : Nat) : Prop where
  rec_ : Whole w p 60 [.slice A n c, .int .i64 (at_ : Int)]
  len : l.length = n
  src : Src w A (nms l)
  spot : 0 < n → ∀ ad, A = some ad → ad.spot = none ∧ ad.block < p
  rng : ∀ x ∈ l, -9223372036854775808 ≤ x ∧ x ≤ 9223372036854775807
  le : at_ ≤ n
  max : n ≤ 9223372036854775807
theorem nms_at (l : List Int) (i : Nat) (h : i < l.length) : (nms l)[i]? = some (.int .i64 l[i]) := by simp [nms, h]
section
variable {w : World}
set_option maxHeartbeats 1000000 in
theorem within_big (n lo hi : Int) (h0 : -1000000 ≤ lo) (h1 : lo ≤ hi) (h2 : hi ≤ 2000000000) (hn0 : -9223372036854775808 ≤ n) (hn1 : n ≤ 9223372036854775807) :
    Calls Try.prog 37 #[.int .i64 n, .int .i64 lo, .int .i64 hi] w fun e w' => e = .returned (.int .i64 (withinI n lo hi)) ∧ w = w' := by
  have b1 := Int.tmod_lt_of_pos n (show 0 < hi - lo + 1 by omega)
  have b2 := Int.lt_tmod_of_pos n (show 0 < hi - lo + 1 by omega)
  have hne : ((hi - lo + 1) == 0) = false := by simp; omega
  by_cases ha : lo ≤ n
  · by_cases hb : n ≤ hi
    · have HI := Lib.hid (show withinI n lo hi = n by unfold withinI; rw [if_pos ⟨ha, hb⟩])
      go_enter Try.func37, Try.ntmps37
      go_wp2_with fail
      go_ret
      exact ⟨ret_within HI.out.symm, rfl⟩
    · by_cases hm : n.tmod (hi - lo + 1) < 0
      · have HI := Lib.hid (show withinI n lo hi = lo + (n.tmod (hi - lo + 1) + hi - lo + 1) by unfold withinI; rw [if_neg (fun h => hb h.2), if_pos hm])
        go_enter Try.func37, Try.ntmps37
        go_wp2_with fail
        go_ret
        exact ⟨ret_within HI.out.symm, rfl⟩
      · have HI := Lib.hid (show withinI n lo hi = lo + n.tmod (hi - lo + 1) by unfold withinI; rw [if_neg (fun h => hb h.2), if_neg hm])
        go_enter Try.func37, Try.ntmps37
        go_wp2_with fail
        go_ret
        exact ⟨ret_within HI.out.symm, rfl⟩
  · have hd : decide (lo ≤ n) = false := by simp; omega
    by_cases hm : n.tmod (hi - lo + 1) < 0
    · have HI := Lib.hid (show withinI n lo hi = lo + (n.tmod (hi - lo + 1) + hi - lo + 1) by unfold withinI; rw [if_neg (fun h => ha h.1), if_pos hm])
      go_enter Try.func37, Try.ntmps37
      go_wp2_with fail
      go_ret
      exact ⟨ret_within HI.out.symm, rfl⟩
    · have HI := Lib.hid (show withinI n lo hi = lo + n.tmod (hi - lo + 1) by unfold withinI; rw [if_neg (fun h => ha h.1), if_neg hm])
      go_enter Try.func37, Try.ntmps37
      go_wp2_with fail
      go_ret
      exact ⟨ret_within HI.out.symm, rfl⟩
end
section
variable {w w' : World} {p n c at_ : Nat} {A : Option Addr} {l : List Int}
theorem Tp.keep (h : Tp w p A n c l at_) (hc : Chg [] w w') : Tp w' p A n c l at_ := ⟨h.rec_.keep hc, h.len, h.src.keep hc, h.spot, h.rng, h.le, h.max⟩
theorem Tp.other (h : Tp w p A n c l at_) {g j : Nat} (hg : g ≠ p) (hA : ∀ ad, A = some ad → 0 < n → ad.block ≠ g) (u : Value) : Tp (w.setCell ⟨g, j, none⟩ u) p A n c l at_ := by
  refine ⟨h.rec_.far (by simpa using Ne.symm hg) u, h.len, fun hp => ?_, h.spot, h.rng, h.le, h.max⟩
  obtain ⟨ad, e, hb, hy⟩ := h.src hp
  have hn : 0 < n := by have := h.len; simp [nms] at hp; omega
  refine ⟨ad, e, by simpa [World.setCell] using hb, fun i v hi => ?_⟩
  have h1 := hy i v hi
  have e2 : (ad.add i).block = ad.block := by unfold Addr.add; split <;> rfl
  rw [← h1]
  exact World.cell?_of_block (w := w) (Below.heap_setCell w _ u _ (by rw [e2]; exact hA ad e hn))
theorem Tp.grown {B2 m k2 : Nat} {e2 : TypeId} {v2 : Value} {ys : List Value} (h : Tp w p A n c l at_) (h2 : w.ownsRow B2 e2 k2 v2 m ys) (hg : w.grownBy w' v2.ownBlock) (hne : 60 ≠ e2) (hB : p < B2) : Tp w' p A n c l at_ := by
  refine ⟨whole_grown h.rec_ h2 hne hg, h.len, fun hp => ?_, h.spot, h.rng, h.le, h.max⟩
  obtain ⟨ad, e, hb, hy⟩ := h.src hp
  have hn : 0 < n := by have := h.len; simp [nms] at hp; omega
  refine ⟨ad, e, Nat.lt_of_lt_of_le hb hg.size, fun i v hi => ?_⟩
  have h1 := hy i v hi
  have e3 : (ad.add i).block = ad.block := by unfold Addr.add; split <;> rfl
  rw [← h1]
  refine World.cell?_of_block (w := w) (hg.block _ (by rw [e3]; exact hb) (fun hc => ?_))
  rw [e3] at hc
  have := (h2.lt _ hc.symm).1
  have := (h.spot hn ad e).2
  omega
theorem chg_grown2 {T : List Nat} {a w w' : World} {row : Option Nat} (h : Chg T a w) (hg : w.grownBy w' row) (hr : ∀ g, row = some g → a.heap.size ≤ g) : Chg T a w' :=
  h.then_ (T' := row.toList) (Chg.of_grown hg fun g e _ => by simp [e]) fun i hi hlt => by
    have := hr i (by simpa using hi)
    omega
theorem Tp.lt (h : Tp w p A n c l at_) : p < w.heap.size := h.rec_.lt
/-- A number of 0 .. m - 1, and the tape one further. -/
def NextPost (w : World) (p : Nat) (A : Option Addr) (n c : Nat) (l : List Int) (m : Nat) (e : Ending) (w' : World) : Prop :=
  ∃ (r a' : Nat), r < m ∧ e = .returned (.int .i64 (r : Int)) ∧ Tp w' p A n c l a' ∧ Chg [p] w w'
set_option maxHeartbeats 4000000 in
set_option maxRecDepth 100000 in
theorem next_any (h : Tp w p A n c l at_) (m : Nat) (hm : 0 < m) (hm2 : m ≤ 1000000) :
    Calls Try.prog 26 #[.pointer (some ⟨p, 0, none⟩), .int .i64 (m : Int)] w (NextPost w p A n c l m) := by
  have c0 := h.rec_.cell 0
  have c1 := h.rec_.cell 1
  have f1 := h.rec_.frozen 1
  have hle := h.le
  have hmax := h.max
  have H := Lib.hid h
  clear h
  have hmd : ¬ (m : Int) < 1 := by omega
  have hmd1 : decide ((m : Int) < 1) = false := by simp; omega
  by_cases hlt : at_ < n
  · have hd1 : decide (n ≤ at_) = false := by simp; omega
    have hd2 : decide ((n : Int) ≤ (at_ : Int)) = false := by simp; omega
    obtain ⟨ad, rfl, _, hx⟩ := H.out.src (by simp [nms]; have := H.out.len; omega)
    have hx1 := hx at_ _ (nms_at l at_ (by have := H.out.len; omega))
    obtain ⟨b, o, s⟩ := ad
    obtain ⟨hs, hbp⟩ := H.out.spot (by omega) _ rfl
    simp only at hs hbp
    subst hs
    rw [add_plain] at hx1
    have hal : at_ < l.length := by have := H.out.len; omega
    have hrz := H.out.rng l[at_] (List.getElem_mem hal)
    generalize l[at_] = z at hx1 hrz
    obtain ⟨hz0, hz1⟩ := hrz
    clear hx
    go_enter Try.func26, Try.ntmps26
    go_wp2_with fail
    go_quiet (fail)
    go_wp2_with fail
    have hR3 := ((H.out.rec_.keep ((Chg.refl [] w).drewN nq)).set_ 1 (.int .i64 ((at_ : Int) + 1)))
    have hc3 : Chg [p] w ((w.drewN nq).setCell ⟨p, 1, none⟩ (.int .i64 ((at_ : Int) + 1))) := ((Chg.refl [p] w).drewN nq).setCell (by simp) _
    generalize (w.drewN nq).setCell ⟨p, 1, none⟩ (.int .i64 ((at_ : Int) + 1)) = w3 at hR3 hc3 ⊢
    have hs3 : Src w3 (some ⟨b, o, none⟩) (nms l) := fun hp => by
      obtain ⟨ad, e, hb, hy⟩ := H.out.src hp
      injection e with e
      subst e
      refine ⟨_, rfl, Nat.lt_of_lt_of_le hb hc3.size, fun j v hj => ?_⟩
      have := hy j v hj
      rw [add_plain] at this ⊢
      rw [← this]
      exact World.cell?_of_block (w := w) (hc3.block b hb (by simp; omega))
    have hT3 : Tp w3 p (some ⟨b, o, none⟩) n c l (at_ + 1) := ⟨by simpa using hR3, H.out.len, hs3, H.out.spot, H.out.rng, by omega, H.out.max⟩
    have k0 := hT3.rec_.cell 0
    have k1 := hT3.rec_.cell 1
    have k2 : w3.cell? ⟨b, o + at_, none⟩ = some (.int .i64 z) := by
      rw [← hx1]
      exact World.cell?_of_block (w := w) (hc3.block b (block_lt_of_cell hx1) (by simp; omega))
    clear hx1 c0 c1 f1 hR3 hs3
    obtain ⟨q, hq, hq2⟩ : ∃ q : Nat, withinI z 0 1073741824 = (q : Int) ∧ q ≤ 1073741824 := by
      have hin := into_within z 0 1073741824 (by omega)
      exact ⟨(withinI z 0 1073741824).toNat, by have := hin.1; omega, by have h1 := hin.1; have h2 := hin.2.1; omega⟩
    have hw : ∀ W : World, Calls Try.prog 37 #[.int .i64 z, .int .i64 0, .int .i64 1073741824] W fun e w' => e = .returned (.int .i64 (q : Int)) ∧ w' = W := fun W =>
      (within_big z 0 1073741824 (by omega) (by omega) (by omega) hz0 hz1).mono fun _ _ ⟨h1, h2⟩ => ⟨by rw [h1, hq], h2.symm⟩
    have HT := Lib.hid hT3
    have HW := Lib.hid hw
    have HC := Lib.hid hc3
    have hsub : IntKind.i64.wrap (at_ : Int) = (at_ : Int) := IntWalk.i64_in _ (by omega)
    have hatn : (at_ : Int).toNat = at_ := Int.toNat_natCast _
    have hat0 : (0 : Int) ≤ (at_ : Int) := by omega
    have htm : (q : Int).tmod (m : Int) = ((q % m : Nat) : Int) := rfl
    have hlast : q % m < m := Nat.mod_lt _ hm
    have hatI : (at_ : Int) < (n : Int) := by omega
    have hm0 : ((m : Int) == 0) = false := by simp; omega
    clear hT3 hw hc3 hq H
    go_quiet ((go_at_call 37; exact Calls.quiet_of_same (HW.out _)))
    go_wp2_with fail
    go_ret
    exact ⟨q % m, at_ + 1, hlast, rfl, HT.out.keep ((Chg.refl _ _).drewN _), HC.out.drewN _⟩
  · have hd1 : decide (n ≤ at_) = true := by simp; omega
    have hd2 : decide ((n : Int) ≤ (at_ : Int)) = true := by simp; omega
    go_enter Try.func26, Try.ntmps26
    go_wp2_with fail
    go_quiet (fail)
    go_wp2_with fail
    go_ret
    exact ⟨0, at_, hm, rfl, H.out.keep ((Chg.refl _ _).drewN _), (Chg.refl _ _).drewN _⟩
end
end Go.Proofs.Ytafgpmempgoikaa
namespace Go.Proofs.Ytafgpmempgoikaa
open Go.RowKit
/-- The runes from a place on. -/
def runesAt (s : ByteArray) : Nat → Nat → List Nat
  | 0, _ => []
  | f + 1, pos => if pos < s.size then (Utf8.decode s pos).1 :: runesAt s f (pos + (Utf8.decode s pos).2) else []
def runesL (s : ByteArray) : List Nat := runesAt s s.size 0
theorem width_pos (s : ByteArray) (pos : Nat) (h : pos < s.size) : 1 ≤ (Utf8.decode s pos).2 := by
  by_cases ha : (s[pos]'h).toNat < 128
  · rw [decode_ascii s pos h ha]; exact Nat.le_refl _
  · exact (decode_high s pos h (by omega)).2
theorem runesAt_more (s : ByteArray) : ∀ (f g pos : Nat), s.size - pos ≤ f → f ≤ g → runesAt s f pos = runesAt s g pos
  | 0, 0, _, _, _ => rfl
  | 0, g + 1, pos, h, _ => by
    rw [runesAt, runesAt, if_neg (by omega)]
  | f + 1, g + 1, pos, h, hg => by
    rw [runesAt, runesAt]
    by_cases hp : pos < s.size
    · rw [if_pos hp, if_pos hp, runesAt_more s f g _ (by have := width_pos s pos hp; omega) (by omega)]
    · rw [if_neg hp, if_neg hp]
theorem runesAt_len (s : ByteArray) : ∀ (f pos : Nat), (runesAt s f pos).length ≤ f
  | 0, _ => Nat.le_refl _
  | f + 1, pos => by
    rw [runesAt]
    split
    · have := runesAt_len s f (pos + (Utf8.decode s pos).2); simp; omega
    · simp
theorem runesAt_le (s : ByteArray) : ∀ (f pos : Nat), ∀ r ∈ runesAt s f pos, r ≤ 2147483647
  | 0, _, r, h => by cases h
  | f + 1, pos, r, h => by
    rw [runesAt] at h
    split at h
    · rcases List.mem_cons.1 h with rfl | h
      · exact decode_le s pos
      · exact runesAt_le s f _ r h
    · cases h
/-- Runes, as cells. -/
def r32 (l : List Nat) : List Value := l.map fun k : Nat => Value.int .i32 (k : Int)
theorem r32_len (l : List Nat) : (r32 l).length = l.length := by simp [r32]
theorem r32_app (l m : List Nat) : r32 (l ++ m) = r32 l ++ r32 m := by simp [r32]
theorem info_rune : (Try.prog.info? 21).map (fun i => (i.zero, i.size, i.bytes)) = some (some (.int .i32 0), 1, 4) := by kernel_rfl
def RunesPost (s : ByteArray) (w : World) (e : Ending) (w' : World) : Prop := ∃ v, e = .returned v ∧ w'.ownsRow w.heap.size 21 1 v (runesL s).length (r32 (runesL s)) ∧ Chg [] w w'
set_option maxHeartbeats 2000000 in
theorem runes_any (s : ByteArray) (w : World) (hs : s.size ≤ 1000000) : Calls Try.prog 32 #[.string s] w (RunesPost s w) := by
  obtain ⟨i0, hi0, hz0, hz1, hz2⟩ := info_parts info_rune
  go_enter Try.func32, Try.ntmps32
  go_upto_region 3 with fail
  have hI : (w.iter s 0).heap[w.heap.size]? = some (.stringIter s 0) := World.iter_heap w s 0
  have hc0 : Chg [] w (w.iter s 0) := (Chg.refl [] w).alloc _
  obtain ⟨kI, hkI⟩ : ∃ k, k = w.heap.size := ⟨_, rfl⟩
  have hsz : (w.iter s 0).heap.size = kI + 1 := by rw [hkI]; simp [World.iter]
  rw [← hkI] at hI ⊢
  generalize w.iter s 0 = w1 at hI hc0 hsz ⊢
  have HI := Lib.hid hI
  have HC0 := Lib.hid hc0
  have HK := Lib.hid hkI
  have HSZ := Lib.hid hsz
  clear hI hc0 hkI hsz
  go_loopw [3, 5] (fun v _ wr => (∃ out : List Nat, wr.ownsRow (kI + 1) 21 1 v out.length (r32 out) ∧ out.length ≤ 1000000 ∧ ∃ pos f, Hid (wr.heap[kI]? = some (.stringIter s pos)) ∧ s.size - pos ≤ f ∧ out.length + f ≤ s.size ∧ Hid (runesL s = out ++ runesAt s f pos)) ∧ Hid (Chg [kI] w1 wr)) (fun _ _ wr => s.size - wr.iterPos kI)
  case atStart => exact ⟨⟨[], World.ownsRow_nil _ _ _ _, by simp, 0, s.size, HI, by omega, by simp, Lib.hid rfl⟩, Lib.hid (Chg.refl _ _)⟩
  case round =>
    obtain ⟨⟨out, ho, hol, pos, f, HIr, hf, hof, HR⟩, HCr⟩ := hrel
    have HO := Lib.hid ho
    clear ho
    by_cases hlt : pos < s.size
    · obtain ⟨f', rfl⟩ : ∃ f', f = f' + 1 := ⟨f - 1, by omega⟩
      have hnx := fun ty => Lib.run_next_any_at (P := Try.prog) wr kI s pos ty HIr.out hlt
      go_upto_region 5 with fail
      obtain ⟨d, hd⟩ : ∃ d, d = (Utf8.decode s pos).2 := ⟨_, rfl⟩
      obtain ⟨r, hr⟩ : ∃ r, r = (Utf8.decode s pos).1 := ⟨_, rfl⟩
      have hw := width_pos s pos hlt
      rw [← hd] at hw
      have HR2 := Lib.hid (show runesL s = (out ++ [r]) ++ runesAt s f' (pos + d) from by rw [HR.out, runesAt, if_pos hlt, ← hd, ← hr]; simp)
      have HI2 := Lib.hid (Lib.iterAt_heap wr kI s pos (pos + d) HIr.out)
      have HC2 := Lib.hid (show Chg [kI] w1 (wr.iterAt kI s (pos + d)) from HCr.out.trans ⟨rfl, rfl, rfl, by rw [Lib.iterAt_size]; exact Nat.le_refl _, fun i _ hn => Lib.iterAt_other wr kI i s (pos + d) (by simpa using hn)⟩)
      have HO2 := Lib.hid (show (wr.iterAt kI s (pos + d)).ownsRow (kI + 1) 21 1 _ out.length (r32 out) from rown_chg HO.out (T := [kI]) ⟨rfl, rfl, rfl, by rw [Lib.iterAt_size]; exact Nat.le_refl _, fun i _ hn => Lib.iterAt_other wr kI i s (pos + d) (by simpa using hn)⟩ (by simp))
      rw [← hd, ← hr]
      generalize wr.iterAt kI s (pos + d) = w3 at HI2 HC2 HO2 ⊢
      have HMP := Lib.hid (show wr.iterPos kI = pos from by unfold World.iterPos; rw [HIr.out])
      have hkw : kI < w3.heap.size := Lib.hid (Array.getElem?_eq_some_iff.1 HI2.out).1 |>.out
      have hr32 : (r : Int) ≤ 2147483647 := by have := decode_le s pos; omega
      clear hr hd hnx
      go_wp2_with (at_builtin
                   refine wpList_append_own _ rfl (.tmp 11) (.tmp 13) _ rfl (kI + 1) 21 i0 _ 1 4 Try.underlying62 hi0 hz0 hz1 hz2 rfl (by decide) u3 out.length (r32 out) rfl (own_keep HO2.out ((Chg.refl [] w3).alloc _)) ⟨w3.heap.size, 0, none⟩ 1 1 [.int .i32 (r : Int)] rfl rfl (cells_page _ _ _) (by simp [Value.oneCell']) (by simp only [maxLen]; omega) (by omega) (by simp; omega) ?_
                   intro v' w6 ho6 hg6 _
                   have HO6 := Lib.hid ho6
                   have HG6 := Lib.hid hg6
                   clear ho6 hg6)
      have HOW := Lib.hid (own_keep HO2.out ((Chg.refl [] w3).alloc (.cells #[.int .i32 (r : Int)] 21)))
      have HI6 := Lib.hid (show w6.heap[kI]? = some (.stringIter s (pos + d)) from by
        rw [HG6.out.block kI (by simp; omega) (fun hc => by have := (HOW.out.lt kI hc.symm).1; omega)]
        exact (((Chg.refl [] w3).alloc (.cells #[.int .i32 (r : Int)] 21)).block kI hkw (by simp)).trans HI2.out)
      have HC6 := Lib.hid (show Chg [kI] w1 w6 from chg_grown2 (HC2.out.alloc _) HG6.out (fun g hg => by have := (HOW.out.lt g hg).1; have := HSZ.out; omega))
      have HP6 := Lib.hid (show w6.iterPos kI = pos + d from by unfold World.iterPos; rw [HI6.out])
      go_roundw
      case rel => exact ⟨⟨out ++ [r], by rw [List.length_append, r32_app]; exact HO6.out, by simp; omega, pos + d, f', HI6, by omega, by simp; omega, HR2⟩, HC6⟩
      case measure => rw [HP6.out, HMP.out]; omega
    · have HRZ := Lib.hid (show runesL s = out from by rw [HR.out]; cases f with
        | zero => simp [runesAt]
        | succ f => rw [runesAt, if_neg hlt]; simp)
      have hnx := fun ty => Lib.run_next_end_at (P := Try.prog) wr kI s pos ty HIr.out hlt
      have HCz := Lib.hid (show Chg [] w wr from HC0.out.then_ HCr.out (fun i hi hl => by have := HK.out; simp only [List.mem_cons, List.not_mem_nil, or_false] at hi; omega))
      have HOz := Lib.hid (show RunesPost s w (.returned u3) wr from ⟨_, rfl, by rw [HRZ.out]; exact own_more HO.out (by have := HK.out; omega), HCz.out⟩)
      go_wp2_with fail
      go_ret
      exact HOz.out
end Go.Proofs.Ytafgpmempgoikaa
namespace Go.Proofs.Ytafgpmempgoikaa
open Go.RowKit
/-- Some text of at most so many bytes. -/
def TxtPost (m : Nat) (w : World) (e : Ending) (w' : World) : Prop := ∃ s : ByteArray, e = .returned (.string s) ∧ s.size ≤ m ∧ Chg [] w w'
theorem encode_le4 (i : Int) : (Utf8.encode i).size ≤ 4 := encode_size_le i
set_option maxHeartbeats 1000000 in
theorem digits_any : ∀ (k n : Nat), n < 10 ^ (k + 1) → k ≤ 10 → ∀ w : World, Calls Try.prog 46 #[.int .i64 (n : Int)] w (TxtPost (4 * (k + 1)) w)
  | k, n, hn, hk, w => by
    have hp : 10 ^ (k + 1) ≤ 10 ^ 11 := Nat.pow_le_pow_right (by omega) (by omega)
    have hn2 : n < 100000000000 := Nat.lt_of_lt_of_le hn hp
    clear hp
    by_cases h10 : 10 ≤ n
    · match k, hn, hk with
      | 0, hn, hk => omega
      | k + 1, hn, hk =>
        have IH := Lib.hid (fun W => digits_any k (n / 10) (by rw [Nat.pow_succ] at hn; omega) (by omega) W)
        have hq : (n : Int).tdiv 10 = ((n / 10 : Nat) : Int) := rfl
        have hr : (n : Int).tmod 10 = ((n % 10 : Nat) : Int) := rfl
        generalize hgr : n % 10 = r at hr
        have hr9 : r < 10 := by omega
        have hq9 : n / 10 < 100000000000 := by omega
        generalize n / 10 = q at *
        clear hn hgr
        go_enter Try.func46, Try.ntmps46
        go_wp2_with fail
        refine (IH.out _).mono ?_
        rintro e w1 ⟨s, rfl, hs, hc⟩
        obtain ⟨y, hy⟩ : ∃ y, s ++ Utf8.encode (48 + (r : Int)) = y := ⟨_, rfl⟩
        have hys : y.size ≤ 4 * (k + 1 + 1) := by rw [← hy, ByteArray.size_append']; have := encode_le4 (48 + (r : Int)); omega
        have hadd : (Op.stringOp .add s (Utf8.encode (48 + (r : Int)))).run Try.prog w1 = .ok (.string y) w1 := by
          rw [← hy]; exact run_string_add_sum _ _ _ (by have := encode_le4 (48 + (r : Int)); omega)
        clear hy
        go_wp2_with fail
        go_ret
        exact ⟨y, rfl, hys, hc⟩
    · go_enter Try.func46, Try.ntmps46
      go_wp2_with fail
      go_ret
      exact ⟨_, rfl, by have := encode_le4 (48 + (n : Int)); omega, Chg.refl _ _⟩
/-- Yes or no. -/
def AnyB (w : World) (e : Ending) (w' : World) : Prop := ∃ b : Bool, e = .returned (.bool b) ∧ w = w'
set_option maxHeartbeats 1000000 in
theorem halts_any (s : ByteArray) (w : World) (hs : s.size ≤ 1000000) : Calls Try.prog 29 #[.string s] w (AnyB w) := by
  by_cases h : 2 < s.size
  · have hd : decide (2 < s.size) = true := by simpa using h
    go_enter Try.func29, Try.ntmps29
    go_wp2_with fail
    go_ret
    exact ⟨_, rfl, rfl⟩
  · have hd : decide (2 < s.size) = false := by simpa using h
    go_enter Try.func29, Try.ntmps29
    go_wp2_with fail
    go_ret
    exact ⟨_, rfl, rfl⟩
set_option maxHeartbeats 1000000 in
theorem live_any (s : ByteArray) (w : World) (hs : s.size ≤ 1000000) : Calls Try.prog 47 #[.string s] w fun e w' => ∃ t : ByteArray, e = .returned (.string t) ∧ t.size ≤ s.size ∧ w = w' := by
  have HH := Lib.hid (halts_any s w hs)
  go_enter Try.func47, Try.ntmps47
  go_wp2_with fail
  refine HH.out.mono ?_
  rintro e w1 ⟨b, rfl, hw⟩
  cases b
  · go_wp2_with fail
    go_ret
    exact ⟨_, rfl, by first | exact Nat.le_refl _ | exact Nat.zero_le _, hw⟩
  · go_wp2_with fail
    go_ret
    exact ⟨_, rfl, by first | exact Nat.le_refl _ | exact Nat.zero_le _, hw⟩
end Go.Proofs.Ytafgpmempgoikaa
namespace Go.Proofs.Ytafgpmempgoikaa
open Go.RowKit

/-- Bytes as a number, the highest first. -/
def numB (l : List UInt8) : Nat := l.foldl (fun g b => g * 256 + b.toNat) 0
theorem numB_snoc (l : List UInt8) (b : UInt8) : numB (l ++ [b]) = numB l * 256 + b.toNat := by simp [numB]
theorem fold_lt : ∀ (l : List UInt8) (g : Nat), l.foldl (fun g b => g * 256 + b.toNat) g < (g + 1) * 256 ^ l.length
  | [], g => by simp
  | b :: l, g => by
    have h := fold_lt l (g * 256 + b.toNat)
    have hb := b.toNat_lt
    have h2 : (g * 256 + b.toNat + 1) * 256 ^ l.length ≤ ((g + 1) * 256) * 256 ^ l.length := Nat.mul_le_mul_right _ (by omega)
    rw [List.foldl_cons, List.length_cons, Nat.pow_succ, Nat.mul_comm (256 ^ l.length) 256, ← Nat.mul_assoc]
    omega
theorem numB_lt (l : List UInt8) : numB l < 256 ^ l.length := by
  have := fold_lt l 0
  simpa [numB] using this
theorem numB_lt4 (l : List UInt8) (k : Nat) : numB ((l.drop k).take 4) < 4294967296 := by
  have h := numB_lt ((l.drop k).take 4)
  have h2 : ((l.drop k).take 4).length ≤ 4 := by rw [List.length_take]; omega
  have : 256 ^ ((l.drop k).take 4).length ≤ 256 ^ 4 := Nat.pow_le_pow_right (by omega) h2
  omega
theorem numB_next (l : List UInt8) (k j : Nat) (h : k + j < l.length) : numB ((l.drop k).take (j + 1)) = numB ((l.drop k).take j) * 256 + (l[k + j]).toNat := by
  rw [List.take_succ_eq_append_getElem (by rw [List.length_drop]; omega), numB_snoc, List.getElem_drop]
theorem numB_ltj (l : List UInt8) (k j : Nat) (hj : j < 4) : numB ((l.drop k).take j) < 16777216 := by
  have h := numB_lt ((l.drop k).take j)
  have h2 : ((l.drop k).take j).length ≤ 3 := by rw [List.length_take]; omega
  have : 256 ^ ((l.drop k).take j).length ≤ 256 ^ 3 := Nat.pow_le_pow_right (by omega) h2
  omega
theorem or_byte (g : Nat) (q : UInt8) (hg : g < 16777216) : bits .or .u32 ((g : Int) * 256 % 4294967296) ((q.toNat : Int) % 4294967296) = ((g * 256 + q.toNat : Nat) : Int) := by
  have hq := q.toNat_lt
  have e1 : (g : Int) * 256 % 4294967296 = ((g * 256 : Nat) : Int) := by omega
  have e2 : (q.toNat : Int) % 4294967296 = ((q.toNat : Nat) : Int) := by omega
  rw [e1, e2, u32_or_nat _ _ (by omega) (by omega), nat_join 8 (g * 256) q.toNat (by omega) (by omega)]
theorem or_sum (i x y : Nat) (hx : x < 4294967296) (hy : y < 2 ^ i) (hy2 : y < 4294967296) (h0 : x % 2 ^ i = 0) : bits .or .u32 (x : Int) (y : Int) = ((x + y : Nat) : Int) := by
  rw [u32_or_nat x y hx hy2, nat_join i x y h0 hy]
def K24 : Nat := 16777216
theorem or_four (a b c d : UInt8) : bits .or .u32 (bits .or .u32 (bits .or .u32 ((a.toNat : Int) % 4294967296 * 16777216 % 4294967296) ((b.toNat : Int) % 4294967296 * 65536 % 4294967296)) ((c.toNat : Int) % 4294967296 * 256 % 4294967296)) ((d.toNat : Int) % 4294967296) =
    ((((a.toNat * 256 + b.toNat) * 256 + c.toNat) * 256 + d.toNat : Nat) : Int) := by
  have h1 := a.toNat_lt
  have h2 := b.toNat_lt
  have h3 := c.toNat_lt
  have h4 := d.toNat_lt
  generalize a.toNat = a at *
  generalize b.toNat = b at *
  generalize c.toNat = c at *
  generalize d.toNat = d at *
  obtain ⟨A, hA⟩ : ∃ A, A = a * 16777216 := ⟨_, rfl⟩
  have e1 : (a : Int) % 4294967296 * 16777216 % 4294967296 = (A : Int) := by omega
  have e2 : (b : Int) % 4294967296 * 65536 % 4294967296 = ((b * 65536 : Nat) : Int) := by omega
  have e3 : (c : Int) % 4294967296 * 256 % 4294967296 = ((c * 256 : Nat) : Int) := by omega
  have e4 : (d : Int) % 4294967296 = (d : Int) := by omega
  rw [e1, e2, e3, e4, or_sum 24 A (b * 65536) (by omega) (by omega) (by omega) (by omega), or_sum 16 (A + b * 65536) (c * 256) (by omega) (by omega) (by omega) (by omega), or_sum 8 (A + b * 65536 + c * 256) d (by omega) (by omega) (by omega) (by omega)]
  congr 1
  omega

/-- What Get answers. -/
def getI (l : List UInt8) (at_ : Int) : Nat := if 0 ≤ at_ ∧ at_ + 4 ≤ l.length then numB ((l.drop at_.toNat).take 4) else 0
theorem getI_lt (l : List UInt8) (i : Int) : getI l i < 4294967296 := by
  unfold getI
  split
  · exact numB_lt4 _ _
  · omega

section
variable {w : World} {A : Option Addr} {n c : Nat} {l : List UInt8}
end
end Go.Proofs.Ytafgpmempgoikaa
namespace Go.Proofs.Ytafgpmempgoikaa
open Go.RowKit
/-- The number of two bytes. -/
def num2 (l : List UInt8) : Nat := (l.getD 0 0).toNat * 256 + (l.getD 1 0).toNat
theorem ofInt_small (a : Nat) (h : a < 65536) : (BitVec.ofInt 64 (a : Int)).toNat = a := by
  rw [BitVec.toNat_ofInt]
  omega
theorem or_two (x y : UInt8) : bits .or .i64 ((x.toNat : Int) * 256) (y.toNat : Int) = ((x.toNat * 256 + y.toNat : Nat) : Int) := by
  have hx := x.toNat_lt
  have hy := y.toNat_lt
  have e1 : (x.toNat : Int) * 256 = ((x.toNat * 256 : Nat) : Int) := by omega
  rw [e1]
  show IntKind.i64.wrap ((BitVec.ofInt 64 ((x.toNat * 256 : Nat) : Int) ||| BitVec.ofInt 64 (y.toNat : Int)).toNat : Int) = _
  rw [BitVec.toNat_or, ofInt_small _ (by omega), ofInt_small _ (by omega), nat_join 8 (x.toNat * 256) y.toNat (by omega) (by omega)]
  exact IntWalk.i64_in _ (by omega)
theorem ret_word {a b : Int} (h : a = b) : Ending.returned (.int .i64 a) = .returned (.int .i64 b) := by rw [h]
section
variable {w : World} {A : Option Addr} {n c : Nat} {l : List UInt8}
end
end Go.Proofs.Ytafgpmempgoikaa
namespace Go.Proofs.Ytafgpmempgoikaa
open Go.RowKit
def chB (a : ChV) : List UInt8 := be2 a.page.toNat ++ a.B
/-- Changes as bytes. -/
def chsB : List ChV → List UInt8
  | [] => []
  | a :: l => chB a ++ chsB l
theorem chsB_app : ∀ l m, chsB (l ++ m) = chsB l ++ chsB m
  | [], _ => rfl
  | a :: l, m => by rw [List.cons_append, chsB, chsB, chsB_app l m, List.append_assoc]
theorem chsB_next (l : List ChV) (k : Nat) (a : ChV) (h : l[k]? = some a) : chsB (l.take (k + 1)) = chsB (l.take k) ++ chB a := by
  obtain ⟨hk, rfl⟩ := List.getElem?_eq_some_iff.1 h
  rw [List.take_succ_eq_append_getElem hk, chsB_app]
  simp [chsB]
def bytesD (l : List ChV) : List UInt8 := be2 l.length ++ chsB l
section
variable {w : World} {A : Option Addr} {n c : Nat}
end
end Go.Proofs.Ytafgpmempgoikaa
namespace Go.Proofs.Ytafgpmempgoikaa
open Go.RowKit
theorem rightS_snoc : ∀ (l : List ChV) (last P : Int) (a : ChV), rightS last P l = true → (∀ b ∈ l, b.page < a.page) → last < a.page → a.page < P → a.bn = 64 → rightS last P (l ++ [a]) = true
  | [], last, P, a, _, _, h1, h2, h3 => by
    simp only [List.nil_append, rightS]
    rw [decide_eq_false (by omega), decide_eq_false (by omega), decide_eq_false (by simpa using h3)]
    rfl
  | b :: l, last, P, a, h, hb, h1, h2, h3 => by
    simp only [rightS, List.cons_append, Bool.and_eq_true] at h ⊢
    exact ⟨h.1, rightS_snoc l b.page P a h.2 (fun c hc => hb c (List.mem_cons_of_mem _ hc)) (hb b (List.mem_cons_self ..)) h2 h3⟩
section
variable {w : World} {p nt ct at_ : Nat} {At : Option Addr} {lt : List Int}
end
end Go.Proofs.Ytafgpmempgoikaa
namespace Go.Proofs.Ytafgpmempgoikaa
open Go.RowKit
def nochg : List UInt8 := [110, 111, 32, 99, 104, 97, 110, 103, 101, 115]
/-- The tape goes on, rows of that constant are marked from B on, all else stays. -/
structure TapeR (p B : Nat) (A : Option Addr) (n c : Nat) (l : List Int) (a b : World) : Prop where
  os : b.os = a.os
  tape : b.tape = a.tape
  output : b.output = a.output
  size : a.heap.size ≤ b.heap.size
  block : ∀ k, k < a.heap.size → k ≠ p → b.heap[k]? = a.heap[k]? ∨ (B ≤ k ∧ ∃ fz fz', a.heap[k]? = some (.cells (bts nochg).toArray 5 fz) ∧ b.heap[k]? = some (.cells (bts nochg).toArray 5 fz'))
  tp : ∀ i, Tp a p A n c l i → ∃ j, Tp b p A n c l j
/-- What lies below B stays, but for the tape. -/
structure TapeH (p B : Nat) (A : Option Addr) (n c : Nat) (l : List Int) (a b : World) : Prop where
  os : b.os = a.os
  tape : b.tape = a.tape
  output : b.output = a.output
  size : a.heap.size ≤ b.heap.size
  block : ∀ k, k < B → k < a.heap.size → k ≠ p → b.heap[k]? = a.heap[k]?
  tp : ∀ i, Tp a p A n c l i → ∃ j, Tp b p A n c l j
section
variable {p B B3 n c : Nat} {A : Option Addr} {l : List Int}
theorem TapeR.of_chg {a b : World} (h : Chg [] a b) : TapeR p B A n c l a b := ⟨h.os, h.tape, h.output, h.size, fun k hk _ => .inl (h.block k hk (by simp)), fun i hi => ⟨i, hi.keep h⟩⟩
theorem TapeR.next {a b : World} (h : Chg [p] a b) {j : Nat} (ht : Tp b p A n c l j) : TapeR p B A n c l a b := ⟨h.os, h.tape, h.output, h.size, fun k hk hp => .inl (h.block k hk (by simpa using hp)), fun _ _ => ⟨j, ht⟩⟩
theorem TapeR.refl (a : World) : TapeR p B A n c l a a := .of_chg (Chg.refl _ _)
theorem TapeR.trans {a b d : World} (h : TapeR p B A n c l a b) (k : TapeR p B A n c l b d) : TapeR p B A n c l a d := by
  refine ⟨k.os.trans h.os, k.tape.trans h.tape, k.output.trans h.output, Nat.le_trans h.size k.size, fun i hi hp => ?_, fun i hi => by obtain ⟨j, hj⟩ := h.tp i hi; exact k.tp j hj⟩
  rcases h.block i hi hp with h1 | ⟨hB, fz, fz', h1, h2⟩
  · rcases k.block i (Nat.lt_of_lt_of_le hi h.size) hp with k1 | ⟨hB, fz, fz', k1, k2⟩
    · exact .inl (k1.trans h1)
    · exact .inr ⟨hB, fz, fz', by rw [← h1]; exact k1, k2⟩
  · rcases k.block i (Nat.lt_of_lt_of_le hi h.size) hp with k1 | ⟨_, fz2, fz3, k1, k2⟩
    · exact .inr ⟨hB, fz, fz', h1, k1.trans h2⟩
    · exact .inr ⟨hB, fz, fz3, h1, k2⟩
theorem TapeR.h {a b : World} (h : TapeR p B A n c l a b) (hB : B3 ≤ B) : TapeH p B3 A n c l a b :=
  ⟨h.os, h.tape, h.output, h.size, fun k h3 hk hp => (h.block k hk hp).elim id fun ⟨hb, _⟩ => by omega, h.tp⟩
theorem TapeH.trans {a b d : World} (h : TapeH p B A n c l a b) (k : TapeH p B A n c l b d) : TapeH p B A n c l a d :=
  ⟨k.os.trans h.os, k.tape.trans h.tape, k.output.trans h.output, Nat.le_trans h.size k.size, fun i hB hi hp => (k.block i hB (Nat.lt_of_lt_of_le hi h.size) hp).trans (h.block i hB hi hp), fun i hi => by obtain ⟨j, hj⟩ := h.tp i hi; exact k.tp j hj⟩
theorem TapeH.whole {a b : World} (h : TapeH p B A n c l a b) {g t : Nat} {cs : List Value} (hW : Whole a g t cs) (hg : g < B) (hp : g ≠ p) : Whole b g t cs := (h.block g hg hW.lt hp).trans hW
theorem TapeH.chg {a b : World} (h : TapeH p B A n c l a b) (hB : a.heap.size ≤ B) : Chg [p] a b := ⟨h.os, h.tape, h.output, h.size, fun k hk hn => h.block k (by omega) hk (by simpa using hn)⟩
theorem TapeH.after {a b W : World} (h1 : Chg [p] a b) (h2 : TapeH p B A n c l b W) (hB : a.heap.size ≤ B) : Chg [p] a W :=
  ⟨h2.os.trans h1.os, h2.tape.trans h1.tape, h2.output.trans h1.output, Nat.le_trans h1.size h2.size, fun k hk hn => (h2.block k (by omega) (Nat.lt_of_lt_of_le hk h1.size) (by simpa using hn)).trans (h1.block k hk hn)⟩
def tapeT (p B B3 : Nat) (A : Option Addr) (n c : Nat) (l : List Int) (hard soft : List Nat) : Turns := ⟨TapeR p B A n c l, TapeH p B3 A n c l, hard, soft⟩
theorem tapeT_ok (hB : B3 ≤ B) (hard soft : List Nat) : (tapeT p B B3 A n c l hard soft).Ok := ⟨TapeR.refl, fun _ _ h => h.h hB, fun _ _ _ h h2 => h.trans h2⟩
theorem tape_by {hard soft : List Nat} (hB : B3 ≤ B) (k : Nat) {W W' : World} (h : TapeR p B A n c l W W') : (tapeT p B B3 A n c l hard soft).by_ k W W' := by
  unfold Turns.by_
  split
  · exact h.h hB
  · exact h
theorem tape_hard {hard soft : List Nat} {k : Nat} (hk : hard.contains k = true) {W W' : World} (h : TapeH p B3 A n c l W W') : (tapeT p B B3 A n c l hard soft).by_ k W W' := by
  unfold Turns.by_
  rw [if_pos (show (tapeT p B B3 A n c l hard soft).hard.contains k = true from hk)]
  exact h
theorem tape_star {a b : World} (h : Star (TapeR p B A n c l) a b) : TapeR p B A n c l a b := h.fold TapeR.refl fun _ _ _ h k => h.trans k
theorem tf_lt {W : World} {g : Nat} {o : Obj} (h : W.heap[g]? = some o) : g < W.heap.size := by
  rcases Nat.lt_or_ge g W.heap.size with hlt | hge
  · exact hlt
  · rw [Array.getElem?_eq_none hge] at h; cases h
/-- The constant's row. -/
def noF (B : Nat) : Fact := fun v W => ∃ g fz, v = .slice (some ⟨g, 0, none⟩) 10 10 ∧ B ≤ g ∧ W.heap[g]? = some (.cells (bts nochg).toArray 5 fz)
theorem keeps_noF (hpB : p < B) : Keeps (TapeR p B A n c l) (noF B) := fun v W W' ⟨g, fz, e, hB, hg⟩ hR => by
  rcases hR.block g (tf_lt hg) (by omega) with h | ⟨_, f1, f2, h1, h2⟩
  · exact ⟨g, fz, e, hB, h.trans hg⟩
  · exact ⟨g, f2, e, hB, h2⟩
theorem noF_bs {W : World} {v : Value} (h : noF B v W) : ∃ g, v = .slice (some ⟨g, 0, none⟩) 10 10 ∧ Bs W (some ⟨g, 0, none⟩) 10 10 nochg := by
  obtain ⟨g, fz, rfl, _, hg⟩ := h
  refine ⟨g, rfl, rfl, fun _ => ⟨_, rfl, tf_lt hg, fun j v hj => ?_⟩, Nat.le_refl _, by omega, fun _ ad e => by injection e with e; subst e; rfl⟩
  rw [add_plain, Nat.zero_add, cell_of_row _ _ _ _ _ _ hg]
  simpa using hj
/-- A longer row of the call's own. -/
def bigF (B : Nat) (X : List UInt8) : Fact := fun v W => 11 ≤ X.length ∧ W.ownsRow B 5 1 v X.length (bts X)
theorem keeps_bigF {B' : Nat} (hpB : p < B') (X : List UInt8) : Keeps (TapeR p B A n c l) (bigF B' X) := fun v W W' ⟨h8, h⟩ hR => by
  refine ⟨h8, h.1, h.2.imp id ?_⟩
  rintro ⟨g, cap, cur, rfl, hb, hg, hn, hc, hs, ht⟩
  refine ⟨g, cap, cur, rfl, hb, ?_, hn, hc, hs, ht⟩
  rcases hR.block g (tf_lt hg) (by omega) with h | ⟨_, f1, f2, h1, h2⟩
  · exact h.trans hg
  · exfalso
    rw [hg] at h1
    injection h1 with h1
    injection h1 with h3 _ _
    rw [h3] at hs
    have : (bts nochg).toArray.size = 10 := rfl
    omega
theorem run_convert_no {P : Program} (W : World) (t e : TypeId) (C : Array Value) (fz : Nat × Nat) (g n c : Nat) (ht : P.underlying t = some (.slice e)) (he : P.underlying e = some (.int .u8)) (hg : W.heap[g]? = some (.cells C e fz)) :
    ∃ fz', (convert t t (.slice (some ⟨g, 0, none⟩) n c)).run P W = .ok (.slice (some ⟨g, 0, none⟩) n c) { W with heap := W.heap.modify g fun _ => .cells C e fz' } := by
  have hsh : W.shape? g = some (e, C.size) := by
    unfold World.shape?
    rw [hg]
  obtain ⟨lo, hi⟩ := fz
  refine ⟨if lo = hi then (C.size, C.size + 1) else (min lo C.size, max hi (C.size + 1)), ?_⟩
  have hfr : W.freeze ⟨g, C.size, none⟩ 1 = { W with heap := W.heap.modify g fun _ => .cells C e (if lo = hi then (C.size, C.size + 1) else (min lo C.size, max hi (C.size + 1))) } := by
    unfold World.freeze
    rw [if_neg (by decide)]
    congr 1
    apply Array.ext
    · simp
    · intro i h1 h2
      simp only [Array.getElem_modify]
      by_cases h : g = i
      · subst h
        have hgl := tf_lt hg
        rw [Array.getElem?_eq_getElem hgl] at hg
        injection hg with hg
        simp [hg]
      · simp [h]
  simp [convert, run_underlying ht, run_underlying he, markStringish, hsh]
  exact hfr
end
section
variable {w0 : World} {a0 : Act} {ops : List Oper} {Q : Exit → Act → World → Prop} {F : Said} {k : Nat} {rest : List Oper}
  {d : Option Tmp} {ty : TypeId} {pos : String} {af : Array Edge} {g : Option (Nat × Bool)} {p B B3 n c : Nat} {A : Option Addr} {l : List Int} {hard soft : List Nat}
set_option maxRecDepth 100000 in
theorem flow_build_no {t : TypeId} {m : Nat} {xs : Array (Nat × Operand)} (h3 : B3 ≤ B) (hpB : p < B) (hB : B ≤ w0.heap.size) (hs : soft.contains k = true) (hrun : ∀ ev W, EvOk ev → (execOp ev ⟨d, .buildSlice t m xs, ty, pos, af, g⟩).run Try.prog W = .ok (.value (.slice (some ⟨W.heap.size, 0, none⟩) 10 10)) (W.alloc (.cells (bts nochg).toArray 5)))
    (hg : guardIs ops F true ⟨d, .buildSlice t m xs, ty, pos, af, g⟩) (h : Flow Try.prog (tapeT p B B3 A n c l hard soft) w0 a0 ops Q ((d, noF B) :: F) (k + 1) rest) : Flow Try.prog (tapeT p B B3 A n c l hard soft) w0 a0 ops Q F k (⟨d, .buildSlice t m xs, ty, pos, af, g⟩ :: rest) := by
  refine flow_op (noF B) (keeps_noF hpB) (.inl hs) hg (fun ev W he hW _ => ?_) h
  rw [hrun ev W he]
  have hs : w0.heap.size ≤ W.heap.size := TapeH.size hW
  exact ⟨tape_by h3 k (.of_chg ((Chg.refl _ _).alloc _)), _, _, rfl, Nat.le_trans hB hs, heap_alloc_new W _⟩
end
end Go.Proofs.Ytafgpmempgoikaa
namespace Go.Proofs.Ytafgpmempgoikaa
open Go.RowKit
/-- The tape goes on, all else stays. -/
structure TapeQ (p : Nat) (A : Option Addr) (n c : Nat) (l : List Int) (a b : World) : Prop where
  chg : Chg [p] a b
  tp : ∀ i, Tp a p A n c l i → ∃ j, Tp b p A n c l j
section
variable {p n c : Nat} {A : Option Addr} {l : List Int}
theorem TapeQ.refl (a : World) : TapeQ p A n c l a a := ⟨Chg.refl _ _, fun i h => ⟨i, h⟩⟩
theorem TapeQ.trans {a b d : World} (h : TapeQ p A n c l a b) (k : TapeQ p A n c l b d) : TapeQ p A n c l a d := ⟨h.chg.trans k.chg, fun i hi => by obtain ⟨j, hj⟩ := h.tp i hi; exact k.tp j hj⟩
theorem TapeQ.of_chg {a b : World} (h : Chg [] a b) : TapeQ p A n c l a b := ⟨h.sub (by simp), fun i hi => ⟨i, hi.keep h⟩⟩
theorem TapeQ.of_next {a b : World} (h : Chg [p] a b) {j : Nat} (ht : Tp b p A n c l j) : TapeQ p A n c l a b := ⟨h, fun _ _ => ⟨j, ht⟩⟩
def txtT (p : Nat) (A : Option Addr) (n c : Nat) (l : List Int) : Turns := ⟨TapeQ p A n c l, TapeQ p A n c l, [], []⟩
theorem txtT_ok : (txtT p A n c l).Ok := ⟨TapeQ.refl, fun _ _ h => h, fun _ _ _ h k => h.trans k⟩
theorem txt_by (k : Nat) {a b : World} (h : TapeQ p A n c l a b) : (txtT p A n c l).by_ k a b := h
/-- Some value of a kind. -/
def valF (φ : Value → Prop) : Fact := fun v _ => φ v
theorem keeps_valF {R : World → World → Prop} (φ : Value → Prop) : Keeps R (valF φ) := fun _ _ _ h _ => h
def IsTxt (m : Nat) (v : Value) : Prop := ∃ s : ByteArray, v = .string s ∧ s.size ≤ m
def IsNum (m : Nat) (v : Value) : Prop := ∃ r : Nat, v = .int .i64 (r : Int) ∧ r < m
def IsRune (v : Value) : Prop := ∃ r : Int, v = .int .i32 r
/-- A row of values of a kind. -/
def rowF (p m : Nat) (φ : Value → Prop) : Fact := fun v W => ∃ g t fz, ∃ cs : List Value, v = .slice (some ⟨g, 0, none⟩) m m ∧ g ≠ p ∧ W.heap[g]? = some (.cells cs.toArray t fz) ∧ cs.length = m ∧ ∀ x ∈ cs, φ x
def cellF (p : Nat) (φ : Value → Prop) : Fact := fun v W => ∃ g i u, v = .pointer (some ⟨g, i, none⟩) ∧ g ≠ p ∧ g < W.heap.size ∧ W.cell? ⟨g, i, none⟩ = some u ∧ φ u
theorem keeps_rowF (m : Nat) (φ : Value → Prop) : Keeps (TapeQ p A n c l) (rowF p m φ) := fun v W W' ⟨g, t, fz, cs, e, hg, hh, h2, h3⟩ hR =>
  ⟨g, t, fz, cs, e, hg, (hR.chg.block g (tf_lt hh) (by simpa using hg)).trans hh, h2, h3⟩
theorem keeps_cellF (φ : Value → Prop) : Keeps (TapeQ p A n c l) (cellF p φ) := fun v W W' ⟨g, i, u, e, hg, hl, h2, h3⟩ hR =>
  ⟨g, i, u, e, hg, Nat.lt_of_lt_of_le hl hR.chg.size, by rw [← h2]; exact World.cell?_of_block (w := W) (hR.chg.block g hl (by simpa using hg)), h3⟩
end
section
variable {w0 : World} {a0 : Act} {ops : List Oper} {Q : Exit → Act → World → Prop} {F : Said} {k : Nat} {rest : List Oper}
  {d : Option Tmp} {ty : TypeId} {pos : String} {af : Array Edge} {g : Option (Nat × Bool)} {p n c : Nat} {A : Option Addr} {l : List Int}
theorem txt_move {t : Tmp} {φ : Fact} (hs : look F t = some φ) (hk : Keeps (TapeQ p A n c l) φ)
    (hg : guardIs ops F true ⟨d, .move (.tmp t), ty, pos, af, g⟩) (h : Flow Try.prog (txtT p A n c l) w0 a0 ops Q ((d, φ) :: F) (k + 1) rest) : Flow Try.prog (txtT p A n c l) w0 a0 ops Q F k (⟨d, .move (.tmp t), ty, pos, af, g⟩ :: rest) :=
  flow_move txtT_ok hs hk (.inr hk) hg h
theorem txt_assign {t : Tmp} {φ : Fact} (hs : look F t = some φ) (hk : Keeps (TapeQ p A n c l) φ)
    (hg : guardIs ops F true ⟨d, .assign (.tmp t), ty, pos, af, g⟩) (h : Flow Try.prog (txtT p A n c l) w0 a0 ops Q ((d, φ) :: F) (k + 1) rest) : Flow Try.prog (txtT p A n c l) w0 a0 ops Q F k (⟨d, .assign (.tmp t), ty, pos, af, g⟩ :: rest) :=
  flow_assign txtT_ok hs hk (.inr hk) hg h
/-- A number of 0 .. m - 1 off the tape. -/
theorem txt_next {i m : Nat} {t : Tmp} (hm : 0 < m) (hm2 : m ≤ 1000000) (hi : Tp w0 p A n c l i) (ht : look F t = some (isV (.pointer (some ⟨p, 0, none⟩)))) {ats : Array TypeId}
    (hg : guardIs ops F true ⟨d, .call { callee := .value (.func 26), args := #[.tmp t, .const (.int .i64 (m : Int))], argTypes := ats }, ty, pos, af, g⟩)
    (h : Flow Try.prog (txtT p A n c l) w0 a0 ops Q ((d, valF (IsNum m)) :: F) (k + 1) rest) : Flow Try.prog (txtT p A n c l) w0 a0 ops Q F k (⟨d, .call { callee := .value (.func 26), args := #[.tmp t, .const (.int .i64 (m : Int))], argTypes := ats }, ty, pos, af, g⟩ :: rest) :=
  flow_calld (valF (IsNum m)) (keeps_valF _) (.inr (keeps_valF _)) (by kernel_rfl) hg (.cons (.inn ht) (.cons (.const _) .nil)) (fun W hW => by
    obtain ⟨j, hj⟩ := TapeQ.tp hW i hi
    refine (next_any hj m hm hm2).mono ?_
    rintro e w1 ⟨r, a', hr, rfl, hT, hc⟩
    exact ⟨_, rfl, txt_by k (.of_next hc hT), r, rfl, hr⟩) h
/-- An operation over one or two values of a kind that leaves the world alone. -/
theorem txt1 {o : Oper} {x : Tmp} {φ ψ : Value → Prop} (hop : o.op.operands = #[.tmp x]) (hx : look F x = some (valF φ)) (hg : guardIs ops F true o) (hrun : ∀ ev W v, EvOk ev → ev (.tmp x) = v → φ v → ∃ r, (execOp ev o).run Try.prog W = .ok (.value r) W ∧ ψ r)
    (h : Flow Try.prog (txtT p A n c l) w0 a0 ops Q ((o.dst, valF ψ) :: F) (k + 1) rest) : Flow Try.prog (txtT p A n c l) w0 a0 ops Q F k (o :: rest) :=
  flow_op (valF ψ) (keeps_valF _) (.inr (keeps_valF _)) hg (fun ev W he _ hf => by
    rw [hop] at hf
    have h1 : factOf a0 F (.tmp x) (ev (.tmp x)) W := hf.1
    simp only [factOf, hx] at h1
    obtain ⟨r, hr, hps⟩ := hrun ev W _ he rfl h1
    rw [hr]
    exact ⟨txt_by k (.refl W), hps⟩) h
theorem txt2 {o : Oper} {x y : Operand} {φ χ ψ : Value → Prop} (hop : o.op.operands = #[x, y]) (hx : (∃ t, x = .tmp t ∧ look F t = some (valF φ)) ∨ (∃ u, x = .const u ∧ φ u)) (hy : (∃ t, y = .tmp t ∧ look F t = some (valF χ)) ∨ (∃ u, y = .const u ∧ χ u)) (hg : guardIs ops F true o)
    (hrun : ∀ ev W v u, EvOk ev → ev x = v → ev y = u → φ v → χ u → ∃ r, (execOp ev o).run Try.prog W = .ok (.value r) W ∧ ψ r)
    (h : Flow Try.prog (txtT p A n c l) w0 a0 ops Q ((o.dst, valF ψ) :: F) (k + 1) rest) : Flow Try.prog (txtT p A n c l) w0 a0 ops Q F k (o :: rest) :=
  flow_op (valF ψ) (keeps_valF _) (.inr (keeps_valF _)) hg (fun ev W he _ hf => by
    rw [hop] at hf
    have h1 : φ (ev x) := by
      rcases hx with ⟨t, rfl, ht⟩ | ⟨u, rfl, hu⟩
      · have h1 : factOf a0 F (.tmp t) (ev (.tmp t)) W := hf.1
        simp only [factOf, ht] at h1
        exact h1
      · rw [he.const]; exact hu
    have h2 : χ (ev y) := by
      rcases hy with ⟨t, rfl, ht⟩ | ⟨u, rfl, hu⟩
      · have h1 : factOf a0 F (.tmp t) (ev (.tmp t)) W := hf.2.1
        simp only [factOf, ht] at h1
        exact h1
      · rw [he.const]; exact hu
    obtain ⟨r, hr, hps⟩ := hrun ev W _ _ he rfl rfl h1 h2
    rw [hr]
    exact ⟨txt_by k (.refl W), hps⟩) h
/-- '+' of two texts. -/
theorem txt_add {x y : Operand} {a b : Nat} (hab : a + b ≤ 1000000) (hx : (∃ t, x = .tmp t ∧ look F t = some (valF (IsTxt a))) ∨ (∃ u, x = .const u ∧ IsTxt a u)) (hy : (∃ t, y = .tmp t ∧ look F t = some (valF (IsTxt b))) ∨ (∃ u, y = .const u ∧ IsTxt b u))
    (hg : guardIs ops F true ⟨d, .binOp .add 9 x y 9, ty, pos, af, g⟩)
    (h : Flow Try.prog (txtT p A n c l) w0 a0 ops Q ((d, valF (IsTxt (a + b))) :: F) (k + 1) rest) : Flow Try.prog (txtT p A n c l) w0 a0 ops Q F k (⟨d, .binOp .add 9 x y 9, ty, pos, af, g⟩ :: rest) :=
  txt2 (φ := IsTxt a) (χ := IsTxt b) (ψ := IsTxt (a + b)) rfl hx hy hg (fun ev W v u he e1 e2 ⟨s, hs, hsl⟩ ⟨t, ht, htl⟩ => by
    subst hs; subst ht
    refine ⟨.string (s ++ t), ?_, s ++ t, rfl, by rw [ByteArray.size_append']; omega⟩
    have hadd := run_string_add_sum (P := Try.prog) W s t (by omega)
    simp only [execOp, e1, e2, Sem.run_bind, Sem.run_pure]
    simp [eqGuard, binOp, hadd]) h
/-- A number and a constant. -/
theorem txt_num_add {y : Tmp} {b m : Nat} (hb : b + m ≤ 1000000) (hy : look F y = some (valF (IsNum m)))
    (hg : guardIs ops F true ⟨d, .binOp .add 3 (.const (.int .i64 (b : Int))) (.tmp y) 3, ty, pos, af, g⟩)
    (h : Flow Try.prog (txtT p A n c l) w0 a0 ops Q ((d, valF (IsNum (b + m))) :: F) (k + 1) rest) : Flow Try.prog (txtT p A n c l) w0 a0 ops Q F k (⟨d, .binOp .add 3 (.const (.int .i64 (b : Int))) (.tmp y) 3, ty, pos, af, g⟩ :: rest) :=
  txt2 (φ := fun v => v = .int .i64 (b : Int)) (χ := IsNum m) (ψ := IsNum (b + m)) rfl (.inr ⟨_, rfl, rfl⟩) (.inl ⟨_, rfl, hy⟩) hg (fun ev W v u he e1 e2 h1 ⟨r, hr, hrm⟩ => by
    subst h1; subst hr
    refine ⟨.int .i64 ((b + r : Nat) : Int), ?_, b + r, rfl, by omega⟩
    go_simp
    exact IntWalk.i64_in _ (by omega)) h
/-- A number as a rune. -/
theorem txt_rune {y : Tmp} {m : Nat} (hb : m ≤ 1000000) (hy : look F y = some (valF (IsNum m)))
    (hg : guardIs ops F true ⟨d, .convert 3 21 (.tmp y), ty, pos, af, g⟩)
    (h : Flow Try.prog (txtT p A n c l) w0 a0 ops Q ((d, valF IsRune) :: F) (k + 1) rest) : Flow Try.prog (txtT p A n c l) w0 a0 ops Q F k (⟨d, .convert 3 21 (.tmp y), ty, pos, af, g⟩ :: rest) :=
  txt1 (x := y) (φ := IsNum m) (ψ := IsRune) rfl hy hg (fun ev W v he e1 ⟨r, hr, hrm⟩ => by
    subst hr
    refine ⟨.int .i32 (r : Int), ?_, _, rfl⟩
    go_simp
    exact IntWalk.i32_in _ (by omega)) h
theorem txt_str {y : Tmp} (hy : look F y = some (valF IsRune))
    (hg : guardIs ops F true ⟨d, .convert 21 9 (.tmp y), ty, pos, af, g⟩)
    (h : Flow Try.prog (txtT p A n c l) w0 a0 ops Q ((d, valF (IsTxt 4)) :: F) (k + 1) rest) : Flow Try.prog (txtT p A n c l) w0 a0 ops Q F k (⟨d, .convert 21 9 (.tmp y), ty, pos, af, g⟩ :: rest) :=
  txt1 (x := y) (φ := IsRune) (ψ := IsTxt 4) rfl hy hg (fun ev W v he e1 ⟨r, hr⟩ => by
    subst hr
    refine ⟨.string (Utf8.encode r), ?_, _, rfl, encode_le4 _⟩
    go_simp) h
/-- digits of a number. -/
theorem txt_digits {t : Tmp} {m q : Nat} (hm : m ≤ 10 ^ (q + 1)) (hq : q ≤ 10) (ht : look F t = some (valF (IsNum m))) {ats : Array TypeId}
    (hg : guardIs ops F true ⟨d, .call { callee := .value (.func 46), args := #[.tmp t], argTypes := ats }, ty, pos, af, g⟩)
    (h : Flow Try.prog (txtT p A n c l) w0 a0 ops Q ((d, valF (IsTxt (4 * (q + 1)))) :: F) (k + 1) rest) : Flow Try.prog (txtT p A n c l) w0 a0 ops Q F k (⟨d, .call { callee := .value (.func 46), args := #[.tmp t], argTypes := ats }, ty, pos, af, g⟩ :: rest) :=
  flow_call (valF (IsTxt (4 * (q + 1)))) (keeps_valF _) (.inr (keeps_valF _)) (by kernel_rfl) hg (fun ev W he hW hf => by
    have h1 : factOf a0 F (.tmp t) (ev (.tmp t)) W := hf.1
    simp only [factOf, ht] at h1
    obtain ⟨r, hr, hrm⟩ := h1
    simp only [List.map_cons, List.map_nil, hr]
    refine (digits_any q r (by omega) hq W).mono ?_
    rintro e w1 ⟨s, rfl, hs, hc⟩
    exact ⟨_, rfl, txt_by k (.of_chg hc), s, rfl, hs⟩) h
/-- A row of constants. -/
theorem txt_build {T m : Nat} {xs : Array (Nat × Operand)} {t : TypeId} {cs : List Value} {φ : Value → Prop} (hp : p < w0.heap.size) (hm : cs.length = m) (hφ : ∀ x ∈ cs, φ x)
    (hrun : ∀ ev W, EvOk ev → (execOp ev ⟨d, .buildSlice T m xs, ty, pos, af, g⟩).run Try.prog W = .ok (.value (.slice (some ⟨W.heap.size, 0, none⟩) m m)) (W.alloc (.cells cs.toArray t)))
    (hg : guardIs ops F true ⟨d, .buildSlice T m xs, ty, pos, af, g⟩) (h : Flow Try.prog (txtT p A n c l) w0 a0 ops Q ((d, rowF p m φ) :: F) (k + 1) rest) : Flow Try.prog (txtT p A n c l) w0 a0 ops Q F k (⟨d, .buildSlice T m xs, ty, pos, af, g⟩ :: rest) := by
  refine flow_op (rowF p m φ) (keeps_rowF m φ) (.inr (keeps_rowF m φ)) hg (fun ev W he hW _ => ?_) h
  rw [hrun ev W he]
  have hs : w0.heap.size ≤ W.heap.size := (TapeQ.chg hW).size
  exact ⟨txt_by k (.of_chg ((Chg.refl [] W).alloc _)), _, _, _, cs, rfl, by omega, heap_alloc_new W _, hm, hφ⟩
/-- A place in such a row, and what lies there. -/
theorem txt_at {x y : Tmp} {T m q : Nat} {φ : Value → Prop} (hix : ∀ (W : World) (b m r : Nat), r < m → (Instr.indexAt T (.slice (some ⟨b, 0, none⟩) m m) (.int .i64 (r : Int))).run Try.prog W = .ok (.pointer (some ⟨b, r, none⟩)) W) (hmq : q ≤ m) (hx : look F x = some (rowF p m φ)) (hy : look F y = some (valF (IsNum q)))
    (hg : guardIs ops F true ⟨d, .indexAddr T (.tmp x) (.tmp y), ty, pos, af, g⟩)
    (h : Flow Try.prog (txtT p A n c l) w0 a0 ops Q ((d, cellF p φ) :: F) (k + 1) rest) : Flow Try.prog (txtT p A n c l) w0 a0 ops Q F k (⟨d, .indexAddr T (.tmp x) (.tmp y), ty, pos, af, g⟩ :: rest) := by
  refine flow_op (cellF p φ) (keeps_cellF φ) (.inr (keeps_cellF φ)) hg (fun ev W he hW hf => ?_) h
  have h1 : factOf a0 F (.tmp x) (ev (.tmp x)) W := hf.1
  have h2 : factOf a0 F (.tmp y) (ev (.tmp y)) W := hf.2.1
  simp only [factOf, hx] at h1
  simp only [factOf, hy] at h2
  obtain ⟨b, t, fz, cs, e1, hbp, hb, hl, hφ⟩ := h1
  obtain ⟨r, e2, hr⟩ := h2
  have hrun : (execOp ev ⟨d, .indexAddr T (.tmp x) (.tmp y), ty, pos, af, g⟩).run Try.prog W = .ok (.value (.pointer (some ⟨b, r, none⟩))) W := by
    simp only [execOp, e1, e2, Sem.run_bind, Sem.run_pure, hix W b m r (by omega), Result.andThen_ok]
  rw [hrun]
  have hrl : r < cs.length := by omega
  exact ⟨txt_by k (.refl W), b, r, cs[r], rfl, hbp, tf_lt hb, by rw [cell_of_row _ _ _ _ _ _ hb]; simp [hrl], hφ _ (List.getElem_mem hrl)⟩
theorem txt_load {x : Tmp} {T : TypeId} {φ : Value → Prop} (hld : ∀ (W : World) (b i : Nat) (u : Value), W.cell? ⟨b, i, none⟩ = some u → φ u → (Instr.loadAt T (.pointer (some ⟨b, i, none⟩))).run Try.prog W = .ok u W) (hx : look F x = some (cellF p φ))
    (hg : guardIs ops F true ⟨d, .load T (.tmp x), ty, pos, af, g⟩)
    (h : Flow Try.prog (txtT p A n c l) w0 a0 ops Q ((d, valF φ) :: F) (k + 1) rest) : Flow Try.prog (txtT p A n c l) w0 a0 ops Q F k (⟨d, .load T (.tmp x), ty, pos, af, g⟩ :: rest) := by
  refine flow_op (valF φ) (keeps_valF φ) (.inr (keeps_valF φ)) hg (fun ev W he hW hf => ?_) h
  have h1 : factOf a0 F (.tmp x) (ev (.tmp x)) W := hf.1
  simp only [factOf, hx] at h1
  obtain ⟨b, i, u, e1, hbp, hbl, hu, hφ⟩ := h1
  have hrun : (execOp ev ⟨d, .load T (.tmp x), ty, pos, af, g⟩).run Try.prog W = .ok (.value u) W := by
    simp only [execOp, e1, Sem.run_bind, Sem.run_pure, hld W b i u hu hφ, Result.andThen_ok]
  rw [hrun]
  exact ⟨txt_by k (.refl W), hφ⟩
theorem ix_str (W : World) (b m r : Nat) (h : r < m) : (Instr.indexAt 46 (.slice (some ⟨b, 0, none⟩) m m) (.int .i64 (r : Int))).run Try.prog W = .ok (.pointer (some ⟨b, r, none⟩)) W := by
  have h1 : (r : Int) < (m : Int) := by omega
  go_simp
theorem ix_int (W : World) (b m r : Nat) (h : r < m) : (Instr.indexAt 22 (.slice (some ⟨b, 0, none⟩) m m) (.int .i64 (r : Int))).run Try.prog W = .ok (.pointer (some ⟨b, r, none⟩)) W := by
  have h1 : (r : Int) < (m : Int) := by omega
  go_simp
theorem ld_str (m : Nat) (W : World) (b i : Nat) (u : Value) (h : W.cell? ⟨b, i, none⟩ = some u) (hu : IsTxt m u) : (Instr.loadAt 9 (.pointer (some ⟨b, i, none⟩))).run Try.prog W = .ok u W := by
  obtain ⟨s, rfl, _⟩ := hu
  go_simp
theorem ld_int (m : Nat) (W : World) (b i : Nat) (u : Value) (h : W.cell? ⟨b, i, none⟩ = some u) (hu : IsNum m u) : (Instr.loadAt 3 (.pointer (some ⟨b, i, none⟩))).run Try.prog W = .ok u W := by
  obtain ⟨s, rfl, _⟩ := hu
  go_simp
end
end Go.Proofs.Ytafgpmempgoikaa
namespace Go.Proofs.Ytafgpmempgoikaa
open Go.RowKit
structure FnV where
  name : Int
  args : Int
  code : ByteArray
def fnC (t : FnV) : List Value := [.int .i32 t.name, .int .i64 t.args, .string t.code]
def fnCs : List FnV → List Value
  | [] => []
  | t :: l => fnC t ++ fnCs l
theorem fnCs_len : ∀ l, (fnCs l).length = l.length * 3
  | [] => rfl
  | t :: l => by rw [fnCs, List.length_append, fnCs_len l]; simp [fnC]; omega
theorem fnCs_app : ∀ l m, fnCs (l ++ m) = fnCs l ++ fnCs m
  | [], _ => rfl
  | t :: l, m => by rw [List.cons_append, fnCs, fnCs, fnCs_app l m, List.append_assoc]
theorem fnCs_one (t : FnV) : fnCs [t] = fnC t := by simp [fnCs]
theorem fnCs_get : ∀ (l : List FnV) (k : Nat) (t : FnV) (j : Nat), l[k]? = some t → j < 3 → (fnCs l)[k * 3 + j]? = (fnC t)[j]?
  | [], k, t, j, h, hj => by simp at h
  | u :: l, 0, t, j, h, hj => by
    simp at h; subst h
    rw [fnCs, List.getElem?_append_left (by simp [fnC]; omega)]
    congr 1; omega
  | u :: l, k + 1, t, j, h, hj => by
    simp at h
    rw [fnCs, List.getElem?_append_right (by simp [fnC]; omega)]
    rw [← fnCs_get l k t j h hj]
    congr 1; simp [fnC]; omega
theorem info_func : (Try.prog.info? 30).map (fun i => (i.zero, i.size, i.bytes)) = some (some (.agg #[.int .i32 0, .int .i64 0, .string ⟨#[]⟩]), 3, 32) := by kernel_rfl
/-- The slice value '.slice A n c' is the functions l; they do not lie in block p. -/
structure Fns (W : World) (p : Nat) (A : Option Addr) (n c : Nat) (l : List FnV) : Prop where
  len : l.length = n
  src : Src W A (fnCs l)
  cap : n ≤ c
  max : n ≤ 1000
  spot : 0 < n → ∀ ad, A = some ad → ad.spot = none ∧ ad.block ≠ p
  args : ∀ f ∈ l, 0 ≤ f.args ∧ f.args ≤ 2
section
variable {W W' : World} {p : Nat} {A : Option Addr} {n c : Nat} {l : List FnV}
theorem Fns.keep (h : Fns W p A n c l) (hc : Chg [p] W W') : Fns W' p A n c l := by
  refine ⟨h.len, fun hp => ?_, h.cap, h.max, h.spot, h.args⟩
  obtain ⟨ad, e, hb, hx⟩ := h.src hp
  have hn : 0 < n := by have := h.len; rw [fnCs_len] at hp; omega
  refine ⟨ad, e, Nat.lt_of_lt_of_le hb hc.size, fun j v hj => ?_⟩
  have h1 := hx j v hj
  rw [← h1]
  have e2 : (ad.add j).block = ad.block := by unfold Addr.add; split <;> rfl
  refine World.cell?_of_block (w := W) (hc.block _ (by rw [e2]; exact hb) ?_)
  rw [e2]
  have := (h.spot hn ad e).2
  simpa using this
theorem Fns.cell (h : Fns W p A n c l) {k : Nat} {t : FnV} (hk : l[k]? = some t) : ∃ b o, A = some ⟨b, o, none⟩ ∧ b ≠ p ∧ b < W.heap.size ∧ W.cell? ⟨b, o + k * 3, none⟩ = some (.int .i32 t.name) ∧ W.cell? ⟨b, o + k * 3 + 1, none⟩ = some (.int .i64 t.args) ∧ W.cell? ⟨b, o + k * 3 + 2, none⟩ = some (.string t.code) := by
  have hkl := (List.getElem?_eq_some_iff.1 hk).1
  obtain ⟨⟨b, o, s⟩, e, hb, hx⟩ := h.src (by rw [fnCs_len]; omega)
  obtain ⟨hs, hbp⟩ := h.spot (by have := h.len; omega) _ e
  simp only at hs hbp
  subst hs
  refine ⟨b, o, e, hbp, hb, ?_, ?_, ?_⟩
  · have := hx _ _ ((fnCs_get l k t 0 hk (by omega)).trans rfl); rwa [add_plain] at this
  · have := hx _ _ ((fnCs_get l k t 1 hk (by omega)).trans rfl); rwa [add_plain] at this
  · have := hx _ _ ((fnCs_get l k t 2 hk (by omega)).trans rfl); rwa [add_plain] at this
end
end Go.Proofs.Ytafgpmempgoikaa
namespace Go.Proofs.Ytafgpmempgoikaa
open Go.RowKit
def hasB (s : ByteArray) (r : Int) : Bool := (runesL s).any fun x => (x : Int) == r
set_option maxHeartbeats 2000000 in
theorem has_any (s : ByteArray) (r : Int) (w : World) (hs : s.size ≤ 1000000) : Calls Try.prog 49 #[.string s, .int .i32 r] w (BoolPost (hasB s r) w) := by
  go_enter Try.func49, Try.ntmps49
  go_upto_region 2 with fail
  have hI : (w.iter s 0).heap[w.heap.size]? = some (.stringIter s 0) := World.iter_heap w s 0
  have hc0 : Chg [] w (w.iter s 0) := (Chg.refl [] w).alloc _
  obtain ⟨kI, hkI⟩ : ∃ k, k = w.heap.size := ⟨_, rfl⟩
  rw [← hkI] at hI ⊢
  generalize w.iter s 0 = w1 at hI hc0 ⊢
  have HI := Lib.hid hI
  have HC0 := Lib.hid hc0
  have HK := Lib.hid hkI
  clear hI hc0 hkI
  go_loopw [6] (fun _ wr => (∃ pos f, Hid (wr.heap[kI]? = some (.stringIter s pos)) ∧ s.size - pos ≤ f ∧ Hid (hasB s r = (runesAt s f pos).any fun x => (x : Int) == r)) ∧ Hid (Chg [kI] w1 wr)) (fun _ wr => s.size - wr.iterPos kI)
  case atStart => exact ⟨⟨0, s.size, HI, by omega, Lib.hid rfl⟩, Lib.hid (Chg.refl _ _)⟩
  case round =>
    obtain ⟨⟨pos, f, HIr, hf, HR⟩, HCr⟩ := hrel
    have HCZ := Lib.hid (fun (W : World) (hW : Chg [kI] w1 W) => show Chg [] w W from HC0.out.then_ hW (fun i hi hl => by have := HK.out; simp only [List.mem_cons, List.not_mem_nil, or_false] at hi; omega))
    by_cases hlt : pos < s.size
    · obtain ⟨f', rfl⟩ : ∃ f', f = f' + 1 := ⟨f - 1, by omega⟩
      have hnx := fun ty => Lib.run_next_any_at (P := Try.prog) wr kI s pos ty HIr.out hlt
      go_upto_region 4 with fail
      obtain ⟨d, hd⟩ : ∃ d, d = (Utf8.decode s pos).2 := ⟨_, rfl⟩
      obtain ⟨x, hx⟩ : ∃ r, r = (Utf8.decode s pos).1 := ⟨_, rfl⟩
      have hw := width_pos s pos hlt
      rw [← hd] at hw
      have HR2 := Lib.hid (show hasB s r = (((x : Int) == r) || (runesAt s f' (pos + d)).any fun x => (x : Int) == r) from by rw [HR.out, runesAt, if_pos hlt, ← hd, ← hx]; simp)
      have HI2 := Lib.hid (Lib.iterAt_heap wr kI s pos (pos + d) HIr.out)
      have HC2 := Lib.hid (show Chg [kI] w1 (wr.iterAt kI s (pos + d)) from HCr.out.trans ⟨rfl, rfl, rfl, by rw [Lib.iterAt_size]; exact Nat.le_refl _, fun i _ hn => Lib.iterAt_other wr kI i s (pos + d) (by simpa using hn)⟩)
      rw [← hd, ← hx]
      have HMP := Lib.hid (show wr.iterPos kI = pos from by unfold World.iterPos; rw [HIr.out])
      have HP2 := Lib.hid (show (wr.iterAt kI s (pos + d)).iterPos kI = pos + d from by unfold World.iterPos; rw [HI2.out])
      generalize wr.iterAt kI s (pos + d) = w3 at HI2 HC2 HP2 ⊢
      clear hx hd hnx
      by_cases hxr : (x : Int) = r
      · have hxd : ((x : Int) == r) = true := by simpa using hxr
        have HPO := Lib.hid (show BoolPost (hasB s r) w (.returned (.bool true)) w3 from ⟨by rw [HR2.out, hxd]; rfl, HCZ.out _ HC2.out⟩)
        clear hxr
        go_wp2_with fail
        go_ret
        exact HPO.out
      · have hxd : ((x : Int) == r) = false := by simpa using hxr
        have HR3 := Lib.hid (show hasB s r = (runesAt s f' (pos + d)).any fun x => (x : Int) == r from by rw [HR2.out, hxd]; rfl)
        go_wp2_with fail
        go_roundw
        case rel => exact ⟨⟨pos + d, f', HI2, by omega, HR3⟩, HC2⟩
        case measure => rw [HP2.out, HMP.out]; omega
    · have hnx := fun ty => Lib.run_next_end_at (P := Try.prog) wr kI s pos ty HIr.out hlt
      have HPO := Lib.hid (show BoolPost (hasB s r) w (.returned (.bool false)) wr from ⟨by rw [HR.out]; cases f with
        | zero => simp [runesAt]
        | succ f => rw [runesAt, if_neg hlt]; simp, HCZ.out _ HCr.out⟩)
      go_wp2_with fail
      go_ret
      exact HPO.out
def nameB (r : Int) : Bool := (decide (97 ≤ r) && decide (r ≤ 122)) || (decide (255 < r) && (r != 65533) && decide (r ≤ 1114111) && (decide (r < 55296) || decide (57343 < r)))
def signL : List Nat := [43, 45, 42, 47, 37, 38, 124, 94, 60, 61, 33, 46, 44, 64, 36, 35, 63, 58, 59, 91, 93, 126, 171, 187, 169, 174, 164, 161, 955, 960]
def knownB (r : Int) : Bool := (decide (97 ≤ r) && decide (r ≤ 122)) || (decide (65 ≤ r) && decide (r ≤ 90)) || signL.any fun x => (x : Int) == r
set_option maxHeartbeats 1000000 in
theorem name_any (r : Int) (w : World) : Calls Try.prog 33 #[.int .i32 r] w fun e w' => e = .returned (.bool (nameB r)) ∧ w = w' := by
  obtain ⟨b, hb⟩ : ∃ b, b = nameB r := ⟨_, rfl⟩
  rw [← hb]
  have HB := Lib.hid hb
  clear hb
  by_cases h1 : 97 ≤ r
  · by_cases h2 : r ≤ 122
    · have HE := Lib.hid (show b = true from by rw [HB.out]; simp [nameB, h1, h2])
      go_enter Try.func33, Try.ntmps33
      go_wp2_with fail
      go_ret
      exact ⟨ret_bool HE.out.symm, rfl⟩
    · have h2d : decide (r ≤ 122) = false := by simpa using h2
      by_cases h3 : 255 < r
      · by_cases h4 : r = 65533
        · subst h4
          have HE := Lib.hid (show b = false from by rw [HB.out]; rfl)
          clear h1 h2 h2d h3
          go_enter Try.func33, Try.ntmps33
          go_wp2_with fail
          go_ret
          exact ⟨ret_bool HE.out.symm, rfl⟩
        · have h4d : (r != 65533) = true := by simpa using h4
          by_cases h5 : r ≤ 1114111
          · by_cases h6 : r < 55296
            · have HE := Lib.hid (show b = true from by rw [HB.out]; simp [nameB, h3, h4, h5, h6])
              go_enter Try.func33, Try.ntmps33
              go_wp2_with fail
              go_ret
              exact ⟨ret_bool HE.out.symm, rfl⟩
            · have h6d : decide (r < 55296) = false := by simpa using h6
              by_cases h7 : 57343 < r
              · have HE := Lib.hid (show b = true from by rw [HB.out]; simp [nameB, h3, h4, h5, h7])
                go_enter Try.func33, Try.ntmps33
                go_wp2_with fail
                go_ret
                exact ⟨ret_bool HE.out.symm, rfl⟩
              · have h7d : decide (57343 < r) = false := by simpa using h7
                have HE := Lib.hid (show b = false from by rw [HB.out]; simp [nameB, h2, h6, h7])
                go_enter Try.func33, Try.ntmps33
                go_wp2_with fail
                go_ret
                exact ⟨ret_bool HE.out.symm, rfl⟩
          · have h5d : decide (r ≤ 1114111) = false := by simpa using h5
            have HE := Lib.hid (show b = false from by rw [HB.out]; simp [nameB, h2, h5])
            go_enter Try.func33, Try.ntmps33
            go_wp2_with fail
            go_ret
            exact ⟨ret_bool HE.out.symm, rfl⟩
      · have h3d : decide (255 < r) = false := by simpa using h3
        have HE := Lib.hid (show b = false from by rw [HB.out]; simp [nameB, h2, h3])
        go_enter Try.func33, Try.ntmps33
        go_wp2_with fail
        go_ret
        exact ⟨ret_bool HE.out.symm, rfl⟩
  · have h1d : decide (97 ≤ r) = false := by simpa using h1
    have h3d : decide (255 < r) = false := by simp; omega
    have h3 : ¬ 255 < r := by omega
    have HE := Lib.hid (show b = false from by rw [HB.out]; simp [nameB, h1, h3])
    go_enter Try.func33, Try.ntmps33
    go_wp2_with fail
    go_ret
    exact ⟨ret_bool HE.out.symm, rfl⟩
def signS : ByteArray := ⟨#[43, 45, 42, 47, 37, 38, 124, 94, 60, 61, 33, 46, 44, 64, 36, 35, 63, 58, 59, 91, 93, 126, 194, 171, 194, 187, 194, 169, 194, 174, 194, 164, 194, 161, 206, 187, 207, 128]⟩
theorem sign_runes : runesL signS = signL := by decide +kernel
set_option maxRecDepth 10000 in
theorem sign_any (r : Int) (w : World) : Calls Try.prog 49 #[.string ⟨#[43, 45, 42, 47, 37, 38, 124, 94, 60, 61, 33, 46, 44, 64, 36, 35, 63, 58, 59, 91, 93, 126, 194, 171, 194, 187, 194, 169, 194, 174, 194, 164, 194, 161, 206, 187, 207, 128]⟩, .int .i32 r] w (BoolPost (signL.any fun x => (x : Int) == r) w) := by
  have h := has_any signS r w (by decide)
  unfold hasB at h
  rw [sign_runes] at h
  exact h
set_option maxHeartbeats 1000000 in
set_option maxRecDepth 10000 in
theorem known_any (r : Int) (w : World) : Calls Try.prog 34 #[.int .i32 r] w (BoolPost (knownB r) w) := by
  obtain ⟨b, hb⟩ : ∃ b, b = knownB r := ⟨_, rfl⟩
  rw [← hb]
  have HB := Lib.hid hb
  clear hb
  have hsg := Lib.hid (sign_any r w)
  by_cases hz : 97 ≤ r ∧ r ≤ 122
  · obtain ⟨h1, h2⟩ := hz
    have HE := Lib.hid (show b = true from by rw [HB.out]; simp [knownB, h1, h2])
    go_enter Try.func34, Try.ntmps34
    go_wp2_with fail
    go_ret
    exact ⟨ret_bool HE.out.symm, Chg.refl _ _⟩
  · by_cases hZ : 65 ≤ r ∧ r ≤ 90
    · obtain ⟨h3, h4⟩ := hZ
      have h1d : decide (97 ≤ r) = false := by simp; omega
      have h1 : ¬ 97 ≤ r := by omega
      have HE := Lib.hid (show b = true from by rw [HB.out]; simp [knownB, h3, h4])
      go_enter Try.func34, Try.ntmps34
      go_wp2_with fail
      go_ret
      exact ⟨ret_bool HE.out.symm, Chg.refl _ _⟩
    · have HE := Lib.hid (show b = signL.any fun x => (x : Int) == r from by
        rw [HB.out]
        unfold knownB
        have e1 : (decide (97 ≤ r) && decide (r ≤ 122)) = false := by simp; omega
        have e2 : (decide (65 ≤ r) && decide (r ≤ 90)) = false := by simp; omega
        rw [e1, e2]; simp)
      by_cases h1 : 97 ≤ r
      · have h2 : ¬ r ≤ 122 := fun h => hz ⟨h1, h⟩
        have h2d : decide (r ≤ 122) = false := by simpa using h2
        have h3 : 65 ≤ r := by omega
        have h4 : ¬ r ≤ 90 := by omega
        have h4d : decide (r ≤ 90) = false := by simpa using h4
        clear hz hZ
        go_enter Try.func34, Try.ntmps34
        go_wp2_with fail
        refine hsg.out.mono ?_
        rintro e w1 ⟨rfl, hc⟩
        have HC := Lib.hid hc
        clear hc
        rw [← HE.out]
        go_wp2_with fail
        go_ret
        exact ⟨rfl, HC.out⟩
      · have h1d : decide (97 ≤ r) = false := by simpa using h1
        clear hz
        by_cases h3 : 65 ≤ r
        · have h4 : ¬ r ≤ 90 := fun h => hZ ⟨h3, h⟩
          have h4d : decide (r ≤ 90) = false := by simpa using h4
          clear hZ
          go_enter Try.func34, Try.ntmps34
          go_wp2_with fail
          refine hsg.out.mono ?_
          rintro e w1 ⟨rfl, hc⟩
          have HC := Lib.hid hc
          clear hc
          rw [← HE.out]
          go_wp2_with fail
          go_ret
          exact ⟨rfl, HC.out⟩
        · have h3d : decide (65 ≤ r) = false := by simpa using h3
          clear hZ
          go_enter Try.func34, Try.ntmps34
          go_wp2_with fail
          refine hsg.out.mono ?_
          rintro e w1 ⟨rfl, hc⟩
          have HC := Lib.hid hc
          clear hc
          rw [← HE.out]
          go_wp2_with fail
          go_ret
          exact ⟨rfl, HC.out⟩
end Go.Proofs.Ytafgpmempgoikaa
namespace Go.Proofs.Ytafgpmempgoikaa
open Go.RowKit
/-- A token. -/
structure TkV where
  sign : Int
  n : Int
  name : Int
def tkC (t : TkV) : List Value := [.int .i32 t.sign, .int .i64 t.n, .int .i32 t.name]
def tkCs : List TkV → List Value
  | [] => []
  | t :: l => tkC t ++ tkCs l
theorem tkCs_len : ∀ l, (tkCs l).length = l.length * 3
  | [] => rfl
  | t :: l => by rw [tkCs, List.length_append, tkCs_len l]; simp [tkC]; omega
theorem tkCs_app : ∀ l m, tkCs (l ++ m) = tkCs l ++ tkCs m
  | [], _ => rfl
  | t :: l, m => by rw [List.cons_append, tkCs, tkCs, tkCs_app l m, List.append_assoc]
theorem tkCs_one (t : TkV) : tkCs [t] = tkC t := by simp [tkCs]
theorem tkCs_get : ∀ (l : List TkV) (k : Nat) (t : TkV) (j : Nat), l[k]? = some t → j < 3 → (tkCs l)[k * 3 + j]? = (tkC t)[j]?
  | [], k, t, j, h, hj => by simp at h
  | u :: l, 0, t, j, h, hj => by
    simp at h; subst h
    rw [tkCs, List.getElem?_append_left (by simp [tkC]; omega)]
    congr 1; omega
  | u :: l, k + 1, t, j, h, hj => by
    simp at h
    rw [tkCs, List.getElem?_append_right (by simp [tkC]; omega)]
    rw [← tkCs_get l k t j h hj]
    congr 1; simp [tkC]; omega
def signs (l : List TkV) : List Int := l.map (·.sign)
theorem info_token : (Try.prog.info? 42).map (fun i => (i.zero, i.size, i.bytes)) = some (some (.agg #[.int .i32 0, .int .i64 0, .int .i32 0]), 3, 24) := by kernel_rfl
/-- The slice value '.slice A n c' is the tokens l. -/
structure Tks (W : World) (A : Option Addr) (n c : Nat) (l : List TkV) : Prop where
  len : l.length = n
  src : Src W A (tkCs l)
  cap : n ≤ c
  max : n ≤ 100000
  spot : 0 < n → ∀ ad, A = some ad → ad.spot = none
section
variable {W W' : World} {A : Option Addr} {n c : Nat} {l : List TkV}
theorem Tks.keep (h : Tks W A n c l) (hc : Chg [] W W') : Tks W' A n c l := ⟨h.len, h.src.keep hc, h.cap, h.max, h.spot⟩
theorem Tks.nil (W : World) : Tks W none 0 0 [] := ⟨rfl, Src.nil _ _, Nat.le_refl _, by omega, fun h => absurd h (by omega)⟩
theorem Tks.cell (h : Tks W A n c l) {k : Nat} {t : TkV} (hk : l[k]? = some t) : ∃ b o, A = some ⟨b, o, none⟩ ∧ b < W.heap.size ∧ W.cell? ⟨b, o + k * 3, none⟩ = some (.int .i32 t.sign) ∧ W.cell? ⟨b, o + k * 3 + 1, none⟩ = some (.int .i64 t.n) ∧ W.cell? ⟨b, o + k * 3 + 2, none⟩ = some (.int .i32 t.name) := by
  have hkl := (List.getElem?_eq_some_iff.1 hk).1
  obtain ⟨⟨b, o, s⟩, e, hb, hx⟩ := h.src (by rw [tkCs_len]; omega)
  obtain rfl : s = none := h.spot (by have := h.len; omega) _ e
  refine ⟨b, o, e, hb, ?_, ?_, ?_⟩
  · have := hx _ _ ((tkCs_get l k t 0 hk (by omega)).trans rfl); rwa [add_plain] at this
  · have := hx _ _ ((tkCs_get l k t 1 hk (by omega)).trans rfl); rwa [add_plain] at this
  · have := hx _ _ ((tkCs_get l k t 2 hk (by omega)).trans rfl); rwa [add_plain] at this
theorem Tks.of_own {B : Nat} {e : TypeId} {v : Value} (h : W.ownsRow B e 3 v n (tkCs l)) (hm : n ≤ 100000) : ∃ A c, v = .slice A n c ∧ Tks W A n c l := by
  have hl : l.length = n := by have := h.1; rw [tkCs_len] at this; omega
  rcases h.2 with ⟨rfl, rfl⟩ | ⟨g, cap, cur, rfl, hb, hg, hn, hc, hs, ht⟩
  · exact ⟨none, 0, rfl, hl, fun h => absurd h (by rw [tkCs_len]; omega), Nat.le_refl _, by omega, fun h => absurd h (by omega)⟩
  · refine ⟨_, cap, rfl, hl, fun _ => ⟨_, rfl, ?_, fun j u hj => h.cells rfl j u hj⟩, hn, hm, fun _ ad e => by injection e with e; subst e; rfl⟩
    rcases Nat.lt_or_ge g W.heap.size with hlt | hge
    · exact hlt
    · rw [Array.getElem?_eq_none hge] at hg; cases hg
end
end Go.Proofs.Ytafgpmempgoikaa
namespace Go.Proofs.Ytafgpmempgoikaa
open Go.RowKit
/-- Digits from place j on. -/
def numAt (L : List Nat) : Nat → Nat → Nat → Option (Nat × Nat)
  | 0, j, m => some (m, j)
  | f + 1, j, m => match L[j]? with
    | some x => if 48 ≤ x ∧ x ≤ 57 then (if (9223372036854775807 - (x - 48)) / 10 < m then none else numAt L f (j + 1) (m * 10 + (x - 48))) else some (m, j)
    | none => some (m, j)
def tokAt (L : List Nat) : Nat → Nat → List TkV → Option (List TkV)
  | 0, _, ts => some ts
  | f + 1, i, ts => match L[i]? with
    | none => some ts
    | some r => if r = 32 then tokAt L f (i + 1) ts
      else if 48 ≤ r ∧ r ≤ 57 then (match numAt L L.length i 0 with
        | none => none
        | some (m, j) => tokAt L f j (ts ++ [⟨48, (m : Int), 0⟩]))
      else if r = 955 ∨ r = 960 then (match L[i + 1]? with
        | none => none
        | some x => if nameB (x : Int) = true then tokAt L f (i + 2) (ts ++ [⟨(r : Int), 0, (x : Int)⟩]) else none)
      else if knownB (r : Int) = true then tokAt L f (i + 1) (ts ++ [⟨(r : Int), 0, 0⟩]) else none
def tokR (s : ByteArray) : Option (List TkV) := if 512 < s.size then none else tokAt (runesL s) ((runesL s).length + 1) 0 []
def tokE (s : ByteArray) : Int := if 512 < s.size then 3 else 12
def TokPost (s : ByteArray) (w : World) (e : Ending) (w' : World) : Prop :=
  Chg [] w w' ∧ ((∃ ts v, tokR s = some ts ∧ ts.length ≤ 512 ∧ e = .returned (.tuple #[v, .int .i64 0]) ∧ w'.ownsRow w.heap.size 42 3 v ts.length (tkCs ts)) ∨
    (tokR s = none ∧ e = .returned (.tuple #[.slice none 0 0, .int .i64 (tokE s)])))
theorem runesL_len (s : ByteArray) : (runesL s).length ≤ s.size := runesAt_len s s.size 0
theorem own_more_n {w : World} {B B' e k n : Nat} {v : Value} {xs : List Value} (h : w.ownsRow B e k v n xs) (hB : B' ≤ B) : w.ownsRow B' e k v n xs := by
  refine ⟨h.1, h.2.imp id ?_⟩
  rintro ⟨g, cap, cur, rfl, hb, r⟩
  exact ⟨g, cap, cur, rfl, Nat.le_trans hB hb, r⟩
section
variable {w : World}
set_option maxHeartbeats 4000000 in
set_option maxRecDepth 100000 in
theorem tokens_any (s : ByteArray) (hs : s.size ≤ 9223372036854775807) : Calls Try.prog 12 #[.string s] w (TokPost s w) := by
  obtain ⟨i0, hi0, hz0, hz1, hz2⟩ := info_parts info_token
  by_cases hlong : 512 < s.size
  · have hlI : (512 : Int) < (s.size : Int) := by omega
    have HPO := Lib.hid (show TokPost s w (.returned (.tuple #[.slice none 0 0, .int .i64 3])) w from ⟨Chg.refl _ _, .inr ⟨by unfold tokR; rw [if_pos hlong], by unfold tokE; rw [if_pos hlong]⟩⟩)
    go_enter Try.func12, Try.ntmps12
    go_wp2_with fail
    go_ret2
    exact HPO.out
  have hlI : ¬ (512 : Int) < (s.size : Int) := by omega
  have HT := Lib.hid (show tokR s = tokAt (runesL s) ((runesL s).length + 1) 0 [] from by unfold tokR; rw [if_neg hlong])
  have HE := Lib.hid (show tokE s = 12 from by unfold tokE; rw [if_neg hlong])
  have HRUN := Lib.hid (runes_any s w (by omega))
  have hLs := runesL_len s
  have hLr := runesAt_le s s.size 0
  go_enter Try.func12, Try.ntmps12
  go_wp2_with fail
  refine HRUN.out.mono ?_
  rintro e w1 ⟨v1, rfl, ho1, hc1⟩
  obtain ⟨L, hL⟩ : ∃ L, L = runesL s := ⟨_, rfl⟩
  have hLr' : ∀ r ∈ L, r ≤ 2147483647 := by rw [hL]; exact hLr
  rw [← hL] at ho1 hLs HT
  have HLR := Lib.hid hLr'
  have HC1 := Lib.hid hc1
  obtain ⟨A1, c1, rfl, hl1, _, hs1, hp1⟩ := own_slice ho1
  obtain ⟨n, hn⟩ : ∃ n, n = L.length := ⟨_, rfl⟩
  rw [← hn] at hLs HT ⊢
  have HN := Lib.hid hn
  have hn512 : n ≤ 512 := by omega
  have HS1 := Lib.hid (show ∀ (W : World), Chg [] w1 W → ∀ (j : Nat) (r : Nat), L[j]? = some r → ∃ g, A1 = some ⟨g, 0, none⟩ ∧ W.cell? ⟨g, j, none⟩ = some (.int .i32 (r : Int)) from fun W hW j r hj => by
    obtain ⟨⟨g, o, sp⟩, e, hb, hx⟩ := (hs1.keep hW) (by rw [r32_len]; have := (List.getElem?_eq_some_iff.1 hj).1; omega)
    obtain ⟨h1, _, h3, _⟩ := hp1 _ e
    simp only at h1 h3
    subst h1 h3
    refine ⟨g, e, ?_⟩
    have := hx j (.int .i32 (r : Int)) (by simp [r32, hj])
    rwa [add_plain, Nat.zero_add] at this)
  obtain ⟨B, hB⟩ : ∃ b, b = w1.heap.size := ⟨_, rfl⟩
  have HB := Lib.hid hB
  clear ho1 hc1 hl1 hs1 hp1 hL hLr hLr' hn hB hlong hLs HRUN
  go_wp2_with fail
  go_loopw [5, 6, 7, 8] (fun v x _ _ wr => ∃ i : Nat, i ≤ n ∧ x = .int .i64 (i : Int) ∧ (∃ ts f, wr.ownsRow B 42 3 v ts.length (tkCs ts) ∧ ts.length ≤ i ∧ n < i + f ∧ Hid (tokR s = tokAt L f i ts)) ∧ Hid (Chg [] w1 wr)) (fun _ x _ _ _ => n - (intOf x).toNat)
  case atStart => exact ⟨0, Nat.zero_le _, rfl, ⟨[], n + 1, World.ownsRow_nil _ _ _ _, by simp, by omega, HT⟩, Lib.hid (Chg.refl _ _)⟩
  case round =>
    obtain ⟨i, hin, rfl, ⟨ts, f, ho, htl, hf, HTi⟩, HCr⟩ := hrel
    have HO := Lib.hid ho
    clear ho
    have HCW := Lib.hid (show Chg [] w wr from HC1.out.new HCr.out)
    have HNO := Lib.hid (show ∀ W, Chg [] w W → tokR s = none → TokPost s w (.returned (.tuple #[.slice none 0 0, .int .i64 12])) W from fun W hW h => ⟨hW, .inr ⟨h, by rw [HE.out]⟩⟩)
    by_cases hlt : i < n
    · have hltI : (i : Int) < (n : Int) := by omega
      have hi0' : (0 : Int) ≤ (i : Int) := by omega
      have hil : i < L.length := by rw [← HN.out]; exact hlt
      obtain ⟨f', rfl⟩ : ∃ f', f = f' + 1 := ⟨f - 1, by omega⟩
      obtain ⟨r, hr⟩ : ∃ r, L[i]? = some r := ⟨_, List.getElem?_eq_getElem hil⟩
      obtain ⟨g4, rfl, t0⟩ := HS1.out wr HCr.out i r hr
      have hr2 := HLR.out r (List.mem_of_getElem? hr)
      have HR := Lib.hid hr
      have HU := Lib.hid (show tokR s = _ from HTi.out.trans (by rw [tokAt, hr]))
      clear hr
      by_cases h32 : r = 32
      · subst h32
        have HT2 := Lib.hid (show tokR s = tokAt L f' (i + 1) ts from by rw [HU.out]; simp)
        go_wp2_with fail
        go_roundw
        case rel => exact ⟨i + 1, by omega, by go_num, ⟨ts, f', HO.out, by omega, by omega, HT2⟩, HCr⟩
        case measure => simp [intOf]; omega
      have h32d : ((r : Int) == 32) = false := by simp; omega
      by_cases hdg : 48 ≤ r ∧ r ≤ 57
      · obtain ⟨h48, h57⟩ := hdg
        have h48I : (48 : Int) ≤ (r : Int) := by omega
        have h57I : (r : Int) ≤ 57 := by omega
        have HU2 := Lib.hid (show tokR s = (match numAt L L.length i 0 with
          | none => none
          | some (m, j) => tokAt L f' j (ts ++ [⟨48, (m : Int), 0⟩])) from by rw [HU.out]; simp only [h32, h48, h57, if_false, if_true, and_self])
        have HRD := Lib.hid (And.intro h48 h57)
        have HBW := Lib.hid (show B ≤ wr.heap.size from by rw [HB.out]; exact HCr.out.size)
        clear HU h48 h57 h32
        go_wp2_with fail
        go_loop [6, 8] (fun x y => ∃ j m f2 : Nat, i ≤ j ∧ j ≤ n ∧ x = .int .i64 (j : Int) ∧ y = .int .u64 (m : Int) ∧ m ≤ 9223372036854775807 ∧ n ≤ j + f2 ∧ (i < j ∨ j = i) ∧ Hid (numAt L L.length i 0 = numAt L f2 j m)) (fun x _ => n - (intOf x).toNat)
        case atStart => exact ⟨i, 0, L.length, Nat.le_refl _, by omega, rfl, rfl, by omega, by have := HN.out; omega, .inr rfl, Lib.hid rfl⟩
        case round =>
          obtain ⟨j, m, f2, hij, hjn, rfl, rfl, hm, hf2, hdis, HQ⟩ := hrel
          have hj0 : (0 : Int) ≤ (j : Int) := by omega
          have hm0 : (0 : Int) ≤ (m : Int) := by omega
          have hstop : ∀ _ : numAt L L.length i 0 = some (m, j), i < j → tokR s = tokAt L f' j (ts ++ [⟨48, (m : Int), 0⟩]) := fun h _ => by rw [HU2.out, h]
          have HST := Lib.hid hstop
          clear hstop
          by_cases hltj : j < n
          · have hltjI : (j : Int) < (n : Int) := by omega
            obtain ⟨f3, rfl⟩ : ∃ f3, f2 = f3 + 1 := ⟨f2 - 1, by omega⟩
            obtain ⟨x, hx⟩ : ∃ x, L[j]? = some x := ⟨_, List.getElem?_eq_getElem (by rw [← HN.out]; exact hltj)⟩
            obtain ⟨g4', e, t1⟩ := HS1.out wr HCr.out j x hx
            injection e with e
            injection e with e
            subst e
            have hx2 := HLR.out x (List.mem_of_getElem? hx)
            have HX := Lib.hid hx
            clear hx
            by_cases hxd : 48 ≤ x ∧ x ≤ 57
            · have HXD := Lib.hid hxd
              have hx1 : (48 : Int) ≤ (x : Int) := by omega
              have hx3 : (x : Int) ≤ 57 := by omega
              have HHM := Lib.hid (And.intro hm (And.intro hdis hf2))
              have HHI := Lib.hid hij
              clear hxd hm hdis hf2 hij
              by_cases hov : (9223372036854775807 - ((x : Int) - 48)) / 10 < (m : Int)
              · have hnum : numAt L (f3 + 1) j m = none := by
                  rw [numAt, HX.out]
                  show (if 48 ≤ x ∧ x ≤ 57 then _ else _) = none
                  rw [if_pos HXD.out, if_pos (by have := HXD.out; omega)]
                have HPO := Lib.hid (HNO.out wr HCW.out (by rw [HU2.out, HQ.out, hnum]))
                clear hnum
                go_wp2_with fail
                go_ret2
                exact HPO.out
              · have hovJ : (m : Int) ≤ (9223372036854775807 - ((x : Int) - 48)) / 10 := by omega
                have HQ2 := Lib.hid (show numAt L L.length i 0 = numAt L f3 (j + 1) (m * 10 + (x - 48)) from HQ.out.trans (by
                  rw [numAt, HX.out]
                  show (if 48 ≤ x ∧ x ≤ 57 then _ else _) = _
                  rw [if_pos HXD.out, if_neg (by have := HXD.out; omega)]))
                clear hov
                go_wp2_with fail
                go_round
                case rel => exact ⟨j + 1, m * 10 + (x - 48), f3, by have := HHI.out; omega, by omega, by go_num, by rw [show ((m * 10 + (x - 48) : Nat) : Int) = (m : Int) * 10 + ((x : Int) - 48) by have := HXD.out; omega], by have := HXD.out; omega, by have := HHM.out.2.2; omega, .inl (by have := HHI.out; omega), HQ2⟩
                case measure => simp [intOf]; omega
            · have HSS := Lib.hid (HST.out (by rw [HQ.out, numAt, HX.out]; simp only; rw [if_neg hxd]) (by
                rcases hdis with h | h
                · exact h
                · exfalso
                  subst h
                  have := HX.out
                  rw [HR.out] at this
                  injection this with this
                  subst this
                  exact hxd HRD.out))
              have hij1 : i < j := by
                rcases hdis with h | h
                · exact h
                · exfalso
                  subst h
                  have := HX.out
                  rw [HR.out] at this
                  injection this with this
                  subst this
                  exact hxd HRD.out
              have hnd : ((48 : Int) ≤ (x : Int) ∧ decide ((x : Int) ≤ 57) = false) ∨ decide ((48 : Int) ≤ (x : Int)) = false := by
                by_cases h : 48 ≤ x
                · exact .inl ⟨by omega, by simp; omega⟩
                · exact .inr (by simp; omega)
              have HHM := Lib.hid (And.intro hm hij)
              clear hxd hdis hf2 hm hij
              rcases hnd with ⟨hx48, hx57⟩ | hx48
              all_goals
                have hjm : (j : Int) - 1 + 1 = ((j : Nat) : Int) := by omega
                have HJM := Lib.hid hjm
                have hm64 : (m : Int) ≤ 9223372036854775807 := by have := HHM.out.1; omega
                clear hjm
                go_wp2_with (at_builtin
                             refine wpList_append_own _ rfl (.tmp 75) (.tmp 79) _ rfl B 42 i0 _ 3 24 Try.underlying31 hi0 hz0 hz1 hz2 rfl (by decide) _ ts.length (tkCs ts) rfl (rown_keep HO.out ((Chg.refl [] wr).alloc _)) ⟨wr.heap.size, 0, none⟩ 1 1 [.int .i32 48, .int .i64 (m : Int), .int .i32 0] rfl rfl (cells_page _ _ _) (by simp [Value.oneCell']) (by simp only [maxLen]; omega) (by omega) (by have := HBW.out; simp; omega) ?_
                             intro v' w6 ho6 hg6 _
                             have HO6 := Lib.hid ho6
                             have HG6 := Lib.hid hg6
                             clear ho6 hg6)
                have HC6 := Lib.hid (show Chg [] w1 w6 from chg_grown2 (HCr.out.alloc _) HG6.out (fun g hg => by have := ((rown_keep HO.out ((Chg.refl [] wr).alloc (.cells #[] 42))).lt g hg).1; have := HB.out; omega))
                go_roundw
                case rel => exact ⟨j, hjn, by rw [← HJM.out], ⟨ts ++ [⟨48, (m : Int), 0⟩], f', by rw [List.length_append, tkCs_app, tkCs_one]; exact HO6.out, by simp; omega, by omega, HSS⟩, HC6⟩
                case measure => simp [intOf]; omega
          · have hltjI : ¬ (j : Int) < (n : Int) := by omega
            have HSS := Lib.hid (HST.out (by rw [HQ.out]; cases f2 with
              | zero => rfl
              | succ f2 => rw [numAt, List.getElem?_eq_none (by rw [← HN.out]; omega)]) (by omega))
            have hij1 : i < j := by omega
            have HHM := Lib.hid (And.intro hm hij)
            clear hdis hf2 hm hij
            have hjm : (j : Int) - 1 + 1 = ((j : Nat) : Int) := by omega
            have HJM := Lib.hid hjm
            have hm64 : (m : Int) ≤ 9223372036854775807 := by have := HHM.out.1; omega
            clear hjm
            go_wp2_with (at_builtin
                         refine wpList_append_own _ rfl (.tmp 75) (.tmp 79) _ rfl B 42 i0 _ 3 24 Try.underlying31 hi0 hz0 hz1 hz2 rfl (by decide) _ ts.length (tkCs ts) rfl (rown_keep HO.out ((Chg.refl [] wr).alloc _)) ⟨wr.heap.size, 0, none⟩ 1 1 [.int .i32 48, .int .i64 (m : Int), .int .i32 0] rfl rfl (cells_page _ _ _) (by simp [Value.oneCell']) (by simp only [maxLen]; omega) (by omega) (by have := HBW.out; simp; omega) ?_
                         intro v' w6 ho6 hg6 _
                         have HO6 := Lib.hid ho6
                         have HG6 := Lib.hid hg6
                         clear ho6 hg6)
            have HC6 := Lib.hid (show Chg [] w1 w6 from chg_grown2 (HCr.out.alloc _) HG6.out (fun g hg => by have := ((rown_keep HO.out ((Chg.refl [] wr).alloc (.cells #[] 42))).lt g hg).1; have := HB.out; omega))
            go_roundw
            case rel => exact ⟨j, hjn, by rw [← HJM.out], ⟨ts ++ [⟨48, (m : Int), 0⟩], f', by rw [List.length_append, tkCs_app, tkCs_one]; exact HO6.out, by simp; omega, by omega, HSS⟩, HC6⟩
            case measure => simp [intOf]; omega
      · by_cases hnm : r = 955 ∨ r = 960
        · by_cases hi1 : i + 1 < n
          · obtain ⟨x, hx⟩ : ∃ x, L[i + 1]? = some x := ⟨_, List.getElem?_eq_getElem (by rw [← HN.out]; exact hi1)⟩
            obtain ⟨g4', e, t1⟩ := HS1.out wr HCr.out (i + 1) x hx
            injection e with e
            injection e with e
            subst e
            have hx2 := HLR.out x (List.mem_of_getElem? hx)
            have HU2 := Lib.hid (show tokR s = (if nameB (x : Int) = true then tokAt L f' (i + 2) (ts ++ [⟨(r : Int), 0, (x : Int)⟩]) else none) from by rw [HU.out]; simp only [h32, hdg, hnm, if_false, if_true, hx])
            have hi1I : ¬ (n : Int) ≤ (i : Int) + 1 := by omega
            have hi1J : (i : Int) + 1 < (n : Int) := by omega
            have hi1K : (0 : Int) ≤ (i : Int) + 1 := by omega
            have hi1d : decide ((n : Int) ≤ (i : Int) + 1) = false := by simp; omega
            have HBW := Lib.hid (show B ≤ wr.heap.size from by rw [HB.out]; exact HCr.out.size)
            clear HU hdg hx
            rcases hnm with rfl | rfl
            all_goals
              by_cases hk : nameB (x : Int) = true
              · have HT2 := Lib.hid (HU2.out.trans (if_pos hk))
                have HKK := Lib.hid hk
                clear hk h32
                go_wp2_with (first
                  | (go_at_call 33; refine (name_any (x : Int) _).mono ?_; rintro e w' ⟨rfl, rfl⟩; rw [HKK.out])
                  | (at_builtin
                     refine wpList_append_own _ rfl (.tmp 102) (.tmp 110) _ rfl B 42 i0 _ 3 24 Try.underlying31 hi0 hz0 hz1 hz2 rfl (by decide) _ ts.length (tkCs ts) rfl (rown_keep HO.out ((Chg.refl [] wr).alloc _)) ⟨wr.heap.size, 0, none⟩ 1 1 [.int .i32 _, .int .i64 0, .int .i32 (x : Int)] rfl rfl (cells_page _ _ _) (by simp [Value.oneCell']) (by simp only [maxLen]; omega) (by omega) (by have := HBW.out; simp; omega) ?_
                     intro v' w6 ho6 hg6 _
                     have HO6 := Lib.hid ho6
                     have HG6 := Lib.hid hg6
                     clear ho6 hg6))
                have HC6 := Lib.hid (show Chg [] w1 w6 from chg_grown2 (HCr.out.alloc _) HG6.out (fun g hg => by have := ((rown_keep HO.out ((Chg.refl [] wr).alloc (.cells #[] 42))).lt g hg).1; have := HB.out; omega))
                go_roundw
                case rel => exact ⟨i + 2, by omega, by go_num, ⟨ts ++ [⟨_, 0, (x : Int)⟩], f', by rw [List.length_append, tkCs_app, tkCs_one]; exact HO6.out, by simp; omega, by omega, HT2⟩, HC6⟩
                case measure => simp [intOf]; omega
              · have hkf : nameB (x : Int) = false := by simpa using hk
                have HKK := Lib.hid hkf
                have HPO := Lib.hid (HNO.out wr HCW.out (HU2.out.trans (if_neg hk)))
                clear hk hkf h32
                go_wp2_with (go_at_call 33; refine (name_any (x : Int) _).mono ?_; rintro e w' ⟨rfl, rfl⟩; rw [HKK.out])
                go_ret2
                exact HPO.out
          · have hi1I : (n : Int) ≤ (i : Int) + 1 := by omega
            have HPO := Lib.hid (HNO.out wr HCW.out (by rw [HU.out]; simp only [h32, hdg, hnm, if_false, if_true]; rw [List.getElem?_eq_none (by rw [← HN.out]; omega)]))
            clear HU hdg
            rcases hnm with rfl | rfl
            all_goals
              clear h32
              go_wp2_with fail
              go_ret2
              exact HPO.out
        · have h955 : ((r : Int) == 955) = false := by simp; omega
          have h960 : ((r : Int) == 960) = false := by simp; omega
          have HU2 := Lib.hid (show tokR s = (if knownB (r : Int) = true then tokAt L f' (i + 1) (ts ++ [⟨(r : Int), 0, 0⟩]) else none) from by rw [HU.out]; simp only [h32, hdg, hnm, if_false])
          have hnd : ((48 : Int) ≤ (r : Int) ∧ decide ((r : Int) ≤ 57) = false) ∨ decide ((48 : Int) ≤ (r : Int)) = false := by
            by_cases h : 48 ≤ r
            · exact .inl ⟨by omega, by simp; omega⟩
            · exact .inr (by simp; omega)
          clear HU hdg hnm h32
          rcases hnd with ⟨h48, h57⟩ | h48
          all_goals
            go_wp2_with fail
            refine (known_any (r : Int) wr).mono ?_
            rintro e w3 ⟨rfl, hc3⟩
            have HC3 := Lib.hid (HCr.out.new hc3)
            have HO3 := Lib.hid (rown_keep HO.out hc3)
            have HB3 := Lib.hid (show B ≤ w3.heap.size from by rw [HB.out]; exact HC3.out.size)
            clear hc3
            by_cases hk : knownB (r : Int) = true
            · have HT2 := Lib.hid (show tokR s = tokAt L f' (i + 1) (ts ++ [⟨(r : Int), 0, 0⟩]) from by rw [HU2.out, if_pos hk])
              rw [hk]
              clear hk
              go_wp2_with (at_builtin
                           refine wpList_append_own _ rfl (.tmp 117) (.tmp 120) _ rfl B 42 i0 _ 3 24 Try.underlying31 hi0 hz0 hz1 hz2 rfl (by decide) _ ts.length (tkCs ts) rfl (rown_keep HO3.out ((Chg.refl [] w3).alloc _)) ⟨w3.heap.size, 0, none⟩ 1 1 [.int .i32 (r : Int), .int .i64 0, .int .i32 0] rfl rfl (cells_page _ _ _) (by simp [Value.oneCell']) (by simp only [maxLen]; omega) (by omega) (by have := HB3.out; simp; omega) ?_
                           intro v' w6 ho6 hg6 _
                           have HO6 := Lib.hid ho6
                           have HG6 := Lib.hid hg6
                           clear ho6 hg6)
              have HC6 := Lib.hid (show Chg [] w1 w6 from chg_grown2 (HC3.out.alloc _) HG6.out (fun g hg => by have := ((rown_keep HO3.out ((Chg.refl [] w3).alloc (.cells #[.int .i32 (r : Int), .int .i64 0, .int .i32 0] 42))).lt g hg).1; have := HB.out; omega))
              go_roundw
              case rel => exact ⟨i + 1, by omega, by go_num, ⟨ts ++ [⟨(r : Int), 0, 0⟩], f', by rw [List.length_append, tkCs_app, tkCs_one]; exact HO6.out, by simp; omega, by omega, HT2⟩, HC6⟩
              case measure => simp [intOf]; omega
            · have hkf : knownB (r : Int) = false := by simpa using hk
              have HPO := Lib.hid (HNO.out w3 (HC1.out.new HC3.out) (by rw [HU2.out, if_neg hk]))
              rw [hkf]
              clear hk hkf
              go_wp2_with fail
              go_ret2
              exact HPO.out
    · have hltI : ¬ (i : Int) < (n : Int) := by omega
      have HZ := Lib.hid (show tokR s = some ts from by
        rw [HTi.out]
        cases f with
        | zero => rfl
        | succ f => rw [tokAt, List.getElem?_eq_none (by rw [← HN.out]; omega)])
      obtain ⟨B0, hB0⟩ : ∃ b, b = w.heap.size := ⟨_, rfl⟩
      have HOW := Lib.hid (own_more_n HO.out (show w.heap.size ≤ B from by rw [HB.out]; exact HC1.out.size))
      have HPO := Lib.hid (show TokPost s w (.returned (.tuple #[u5, .int .i64 0])) wr from ⟨HCW.out, .inl ⟨ts, _, HZ.out, by omega, rfl, HOW.out⟩⟩)
      clear hB0
      go_wp2_with fail
      go_ret2
      exact HPO.out
end
end Go.Proofs.Ytafgpmempgoikaa
