/-
  EA: Law, Frame, LawB, Share, BsMore, Delta, Tape, RowOps.
-/
import Derived.Test.YtfhgnoajfipjdaaZEA1
import Derived.Test.YtfhgnoajfipjdaaZEA2
import Derived.Test.YtfhgnoajfipjdaaZEA3
import Derived.Test.YtfhgnoajfipjdaaChecked
import Derived.Deep.QuietTactic
import Derived.BigQuiet
import Derived.IntWalk
import Derived.Laws.Tables
import Derived.Laws.Rows
import Derived.Great.Walk
import Derived.Great.FillDense
import Derived.Great.BuildSlice
namespace Go.Proofs.Ytfhgnoajfipjdaa
open Go.RowKit
/-- What a law says of a call: true, and nothing old has turned. -/
def LawPost (w : World) (e : Ending) (w' : World) : Prop := e = .returned (.bool true) ∧ Chg [] w w'
/-- Every operation makes new blocks at most. -/
def plainT : Turns := ⟨Chg [], Chg [], [], []⟩
theorem plainT_ok : plainT.Ok := ⟨Chg.refl [], fun _ _ h => h, fun _ _ _ h k => h.trans k⟩
theorem plain_by (k : Nat) : plainT.by_ k = Chg [] := by unfold Turns.by_; split <;> rfl

end Go.Proofs.Ytfhgnoajfipjdaa
namespace Go.Proofs.Ytfhgnoajfipjdaa
open Go.RowKit
theorem law_below {w : World} {e : Ending} {w' : World} (h : LawPost w e w') : e = .returned (.bool true) ∧ Below w.heap.size w w' := ⟨h.1, h.2.below0⟩
end Go.Proofs.Ytfhgnoajfipjdaa
namespace Go.Proofs.Ytfhgnoajfipjdaa
open Go.RowKit

/-- What lies below B stays. -/
structure Low (B : Nat) (w w' : World) : Prop where
  os : w'.os = w.os
  tape : w'.tape = w.tape
  output : w'.output = w.output
  size : w.heap.size ≤ w'.heap.size
  block : ∀ k, k < B → k < w.heap.size → w'.heap[k]? = w.heap[k]?
theorem Low.of_chg {B : Nat} {w w' : World} (h : Chg [] w w') : Low B w w' := ⟨h.os, h.tape, h.output, h.size, fun k _ hk => h.block k hk (by simp)⟩
theorem Low.trans {B : Nat} {a b c : World} (h : Low B a b) (k : Low B b c) : Low B a c :=
  ⟨k.os.trans h.os, k.tape.trans h.tape, k.output.trans h.output, Nat.le_trans h.size k.size, fun i hB hi => (k.block i hB (Nat.lt_of_lt_of_le hi h.size)).trans (h.block i hB hi)⟩
theorem Low.chg {B : Nat} {a b : World} (h : Low B a b) (hB : a.heap.size ≤ B) : Chg [] a b := ⟨h.os, h.tape, h.output, h.size, fun k hk _ => h.block k (Nat.lt_of_lt_of_le hk hB) hk⟩
theorem Low.of_own {B n : Nat} {e : TypeId} {v : Value} {xs : List Value} {w w' : World} (ho : w.ownsRow B e 1 v n xs) (hg : w.grownBy w' v.ownBlock) : Low B w w' := by
  refine ⟨hg.os, hg.tape, hg.output, hg.size, fun k hk hl => hg.block k hl fun hc => ?_⟩
  rcases ho.2 with ⟨rfl, _⟩ | ⟨g, cap, cur, rfl, hb, _⟩
  · cases hc
  · injection hc with hc; simp only at hc; omega


section
variable {P : Program} {T : Turns} {w0 : World} {a0 : Act} {ops : List Oper} {Q : Exit → Act → World → Prop} {F : Said} {k : Nat} {rest : List Oper}
  {d : Option Tmp} {ty : TypeId} {pos : String} {af : Array Edge} {g : Option (Nat × Bool)} {B : Nat} {hard soft : List Nat}

end
end Go.Proofs.Ytfhgnoajfipjdaa
namespace Go.Proofs.Ytfhgnoajfipjdaa
open Go.RowKit
/-- A truth, and only new memory. -/
def BoolPost (b : Bool) (w : World) (e : Ending) (w' : World) : Prop := e = .returned (.bool b) ∧ Chg [] w w'
theorem ret_bool {a b : Bool} (h : a = b) : Ending.returned (.bool a) = .returned (.bool b) := by rw [h]
theorem whole_grown {w w' : World} {B2 e2 k2 m : Nat} {v2 : Value} {ys : List Value} {g t : Nat} {cs : List Value} (h : Whole w g t cs) (h2 : w.ownsRow B2 e2 k2 v2 m ys) (hne : t ≠ e2) (hg : w.grownBy w' v2.ownBlock) : Whole w' g t cs := by
  unfold Whole at h ⊢
  rw [hg.block g ?_ ?_]
  · exact h
  · rcases Nat.lt_or_ge g w.heap.size with hlt | hge
    · exact hlt
    · rw [Array.getElem?_eq_none hge] at h; cases h
  · intro hc
    rcases h2.2 with ⟨rfl, _⟩ | ⟨g2, cap2, cur2, rfl, hb2, hh2, _⟩
    · simp [Value.ownBlock] at hc
    · simp [Value.ownBlock] at hc
      subst hc
      rw [h] at hh2
      simp at hh2
      exact hne hh2.2
/-- append as a step of a region that draws, for elements of any size. -/
theorem step_append_n {P : Program} {w : World} {ops : Array Oper} {o : Oper} {a : Act} {K : Act → World → Prop} {Q : Exit → Act → World → Prop} {E : Prop} (hgd : o.guard = none) (s x : Operand) (t : TypeId)
    (ho : o.op = .call { callee := .builtin .append, args := #[s, x], argTypes := #[t, t] })
    (base : Nat) (e : TypeId) (i : TypeInfo) (z : Value) (size bytes : Nat) (ht : P.underlying t = some (.slice e)) (hi : P.info? e = some i) (hz : i.zero = some z)
    (hsize : i.size = size) (hby : i.bytes = bytes) (hzs : z.cells.size = size) (hsz : 0 < size)
    (v : Value) (n : Nat) (xs : List Value) (hse : a.eval s = v) (hown : w.ownsRow base e size v n xs)
    (ad : Addr) (m c : Nat) (news : List Value) (hxe : a.eval x = .slice (some ad) m c) (hl : news.length = m * size) (hnews : ∀ j u, news[j]? = some u → w.cell? (ad.add j) = some u) (h1 : ∀ u ∈ news, u.oneCell' = true)
    (h63 : n + m ≤ maxLen) (hbytes : (n + m) * bytes ≤ 140737488355328) (hbase : base ≤ w.heap.size)
    (h : ∀ v' w', w'.ownsRow base e size v' (n + m) (xs ++ news) → w.grownBy w' v.ownBlock → K (a.put o.dst v') w') :
    if Region.wanted o (yielded ops a.tmps) = true then Oper.wp P o a w K Q else E := by
  have hw : Region.wanted o (yielded ops a.tmps) = true := by simp [Region.wanted, hgd]
  rw [if_pos hw]
  obtain ⟨v', w', hrun, h2, h3, _, _⟩ := run_append_own_at (P := P) w base t o.type e i z size bytes ht hi hz hsize hby hzs hsz v n xs hown ad m c news hl hnews h1 h63 hbytes hbase
  unfold Oper.wp execOp
  simp only [ho, resolve, invoke, builtin, Sem.run_bind, Sem.run_pure, Result.andThen_ok, List.map_toArray, List.map_cons, List.map_nil, hse, hxe, hrun]
  exact h v' w' h2 h3
theorem nms_len (l : List Int) : (nms l).length = l.length := by simp [nms]
theorem nms_app (l m : List Int) : nms (l ++ m) = nms l ++ nms m := by simp [nms]
theorem nms_get (l : List Int) (i : Nat) (h : i < l.length) : (nms l)[i]? = some (.int .i64 l[i]) := by simp [nms, h]
theorem cell_keep {w w' : World} {p : Addr} {v : Value} (h : w.cell? p = some v) (hc : Chg [] w w') : w'.cell? p = some v := by
  have hs : Src w (some p) [v] := fun _ => ⟨p, rfl, by
    rcases Nat.lt_or_ge p.block w.heap.size with hlt | hge
    · exact hlt
    · simp [World.cell?, Array.getElem?_eq_none hge] at h, fun j u hj => by
    cases j with
    | zero =>
      simp at hj
      subst hj
      have e : p.add 0 = p := by simp [Addr.add]
      rw [e]; exact h
    | succ j => simp at hj⟩
  obtain ⟨ad, e, _, hx⟩ := hs.keep hc (by simp)
  injection e with e
  subst e
  have := hx 0 v rfl
  have e : p.add 0 = p := by simp [Addr.add]
  rwa [e] at this
end Go.Proofs.Ytfhgnoajfipjdaa
namespace Go.Proofs.Ytfhgnoajfipjdaa
open Go.RowKit
section
variable {w : World} {A : Option Addr} {n c : Nat} {l : List UInt8}
theorem Bs.take (h : Bs w A n c l) {m : Nat} (hm : m ≤ n) : Bs w A m c (l.take m) :=
  ⟨by rw [List.length_take, h.len]; omega, src_pre m h.src, Nat.le_trans hm h.cap, h.max, fun h0 => h.spot (by omega)⟩
where
  src_pre (m : Nat) {w : World} {A : Option Addr} {l : List UInt8} (hs : Src w A (bts l)) : Src w A (bts (l.take m)) := fun hp => by
    obtain ⟨ad, e, hb, hx⟩ := hs (by simp [bts] at hp ⊢; omega)
    refine ⟨ad, e, hb, fun j v hj => hx j v ?_⟩
    unfold bts at hj ⊢
    rw [List.map_take, List.getElem?_take] at hj
    split at hj
    · exact hj
    · cases hj

end
end Go.Proofs.Ytfhgnoajfipjdaa
namespace Go.Proofs.Ytfhgnoajfipjdaa
open Go.RowKit
/-- A change as it lies in memory: two cells, one of them a slice. -/
structure ChV where
  page : Int
  bA : Option Addr
  bn : Nat
  bc : Nat
  B : List UInt8
structure ChOk (w : World) (a : ChV) : Prop where
  p0 : -9223372036854775808 ≤ a.page
  p1 : a.page ≤ 9223372036854775807
  bs : Bs w a.bA a.bn a.bc a.B
/-- The slice at A reads as the changes l. -/
structure Chs (w : World) (A : Option Addr) (l : List ChV) : Prop where
  cells : 0 < l.length → ∃ g o, A = some ⟨g, o, none⟩ ∧ g < w.heap.size ∧ ∀ k a, l[k]? = some a → w.cell? ⟨g, o + k * 2, none⟩ = some (.int .i64 a.page) ∧ w.cell? ⟨g, o + k * 2 + 1, none⟩ = some (.slice a.bA a.bn a.bc)
  ok : ∀ a ∈ l, ChOk w a
/-- A change that Bytes can write. -/
def Small (a : ChV) : Prop := 0 ≤ a.page ∧ a.page < 65536 ∧ a.bn = 64
theorem ChOk.keep {w w' : World} {a : ChV} (h : ChOk w a) (hc : Chg [] w w') : ChOk w' a := { h with bs := h.bs.keep hc }
theorem Chs.nil (w : World) (A : Option Addr) : Chs w A [] := ⟨fun h => absurd h (by simp), fun a ha => by simp at ha⟩
theorem Chs.keep {w w' : World} {A : Option Addr} {l : List ChV} (h : Chs w A l) (hc : Chg [] w w') : Chs w' A l := by
  refine ⟨fun h0 => ?_, fun a ha => (h.ok a ha).keep hc⟩
  obtain ⟨g, o, e, hg, hx⟩ := h.cells h0
  refine ⟨g, o, e, Nat.lt_of_lt_of_le hg hc.size, fun k a ha => ?_⟩
  obtain ⟨h1, h2⟩ := hx k a ha
  have hk : ∀ j, w'.cell? ⟨g, j, none⟩ = w.cell? ⟨g, j, none⟩ := fun j => World.cell?_of_block (w := w) (hc.block g hg (by simp))
  exact ⟨(hk _).trans h1, (hk _).trans h2⟩
end Go.Proofs.Ytfhgnoajfipjdaa
namespace Go.Proofs.Ytfhgnoajfipjdaa
open Go.RowKit
/-- A tape as it lies in memory: its numbers, where it stands. -/
structure Tp (w : World) (p : Nat) (A : Option Addr) (n c : Nat) (l : List Int) (at_ : Nat) : Prop where
  rec_ : Whole w p 69 [.slice A n c, .int .i64 (at_ : Int)]
  len : l.length = n
  src : Src w A (nms l)
  spot : 0 < n → ∀ ad, A = some ad → ad.spot = none ∧ ad.block < p
  rng : ∀ x ∈ l, -9223372036854775808 ≤ x ∧ x ≤ 9223372036854775807
  le : at_ ≤ n
  max : n ≤ 9223372036854775807
section
variable {w w' : World} {p n c at_ : Nat} {A : Option Addr} {l : List Int}
theorem Tp.keep (h : Tp w p A n c l at_) (hc : Chg [] w w') : Tp w' p A n c l at_ := ⟨h.rec_.keep hc, h.len, h.src.keep hc, h.spot, h.rng, h.le, h.max⟩
theorem Tp.other (h : Tp w p A n c l at_) {g j : Nat} (hg : g ≠ p) (hA : ∀ ad, A = some ad → 0 < n → ad.block ≠ g) (u : Value) : Tp (w.setCell ⟨g, j, none⟩ u) p A n c l at_ := by
  refine ⟨h.rec_.far (by simpa using Ne.symm hg) u, h.len, fun hp => ?_, h.spot, h.rng, h.le, h.max⟩
  obtain ⟨ad, e, hb, hy⟩ := h.src hp
  have hn : 0 < n := by have := h.len; simp [nms] at hp; omega
  refine ⟨ad, e, by simpa [World.setCell] using hb, fun i v hi => ?_⟩
  have h1 := hy i v hi
  have e2 : (ad.add i).block = ad.block := by unfold Addr.add; split <;> rfl
  rw [← h1]
  exact World.cell?_of_block (w := w) (Below.heap_setCell w _ u _ (by rw [e2]; exact hA ad e hn))
theorem Tp.grown {B2 m k2 : Nat} {e2 : TypeId} {v2 : Value} {ys : List Value} (h : Tp w p A n c l at_) (h2 : w.ownsRow B2 e2 k2 v2 m ys) (hg : w.grownBy w' v2.ownBlock) (hne : 69 ≠ e2) (hB : p < B2) : Tp w' p A n c l at_ := by
  refine ⟨whole_grown h.rec_ h2 hne hg, h.len, fun hp => ?_, h.spot, h.rng, h.le, h.max⟩
  obtain ⟨ad, e, hb, hy⟩ := h.src hp
  have hn : 0 < n := by have := h.len; simp [nms] at hp; omega
  refine ⟨ad, e, Nat.lt_of_lt_of_le hb hg.size, fun i v hi => ?_⟩
  have h1 := hy i v hi
  have e3 : (ad.add i).block = ad.block := by unfold Addr.add; split <;> rfl
  rw [← h1]
  refine World.cell?_of_block (w := w) (hg.block _ (by rw [e3]; exact hb) (fun hc => ?_))
  rw [e3] at hc
  have := (h2.lt _ hc.symm).1
  have := (h.spot hn ad e).2
  omega
theorem chg_grown2 {T : List Nat} {a w w' : World} {row : Option Nat} (h : Chg T a w) (hg : w.grownBy w' row) (hr : ∀ g, row = some g → a.heap.size ≤ g) : Chg T a w' :=
  h.then_ (T' := row.toList) (Chg.of_grown hg fun g e _ => by simp [e]) fun i hi hlt => by
    have := hr i (by simpa using hi)
    omega
theorem Tp.lt (h : Tp w p A n c l at_) : p < w.heap.size := h.rec_.lt
end
end Go.Proofs.Ytfhgnoajfipjdaa
namespace Go.Proofs.Ytfhgnoajfipjdaa
open Go.RowKit
section
variable {P : Program} {ops : Array Oper} {rest : List Oper} {o : Oper} {a : Act} {w : World} {Q : Exit → Act → World → Prop}
theorem wpList_build_is (hg : o.guard = none) (t : TypeId) (parts : Array (Nat × Operand)) (ho : o.op = .build t parts) (C : Array Value) (hf : P.built t (parts.map fun (i, x) => (i, a.eval x)).toList = some C)
    (h : wpList P ops Q rest (a.put o.dst (.agg C)) w) : wpList P ops Q (o :: rest) a w :=
  wpList_build hg t parts ho (by rw [hf]; rfl) (by rw [hf]; exact h)
theorem wpList_alloc_is (hg : o.guard = none) (t : TypeId) (ho : o.op = .alloc t) {i : TypeInfo} {z : Value} (hi : P.info? t = some i) (hz : i.zero = some z) (N : Nat) (hN : w.heap.size = N)
    (h : wpList P ops Q rest (a.put o.dst (.pointer (some ⟨N, 0, none⟩))) (w.alloc (.cells z.cells t))) : wpList P ops Q (o :: rest) a w := by
  subst hN
  refine wpList_plain hg fun K hK => ?_
  unfold Oper.wp execOp
  simp [ho, go_sem, zeroValue, typeInfo, hi, hz]
  exact hK _ _ h
end
section
variable {P : Program} {ops : Array Oper} {o : Oper} {a : Act} {w : World} {K : Act → World → Prop} {Q : Exit → Act → World → Prop} {E : Prop}
theorem step_of (hgd : o.guard = none) (h : Oper.wp P o a w K Q) : if Region.wanted o (yielded ops a.tmps) = true then Oper.wp P o a w K Q else E := by
  have hw : Region.wanted o (yielded ops a.tmps) = true := by simp [Region.wanted, hgd]
  rw [if_pos hw]
  exact h
theorem step_load_row (hgd : o.guard = none) (ty : TypeId) (x : Operand) (ho : o.op = .load ty x)
    (g : Nat) (hx : a.eval x = .pointer (some ⟨g, 0, none⟩)) (t : TypeId) (cs : Array Value) (fr : Nat × Nat) (d : TypeDesc) (hg : w.heap[g]? = some (.cells cs t fr))
    (hu : P.underlying ty = some d) (hd : (match d with | .struct _ | .array _ _ => true | _ => false) = true) (hi : (P.info? ty).map (·.size) = some cs.size)
    (h : K (a.put o.dst (.agg cs)) w) : if Region.wanted o (yielded ops a.tmps) = true then Oper.wp P o a w K Q else E :=
  step_of hgd (wp_load_row ty x ho g hx t cs fr d hg hu hd hi h)
/-- '[]T{v}' of a struct. -/
theorem step_build_one (hgd : o.guard = none) (t e : TypeId) (x : Operand) (ho : o.op = .buildSlice t 1 #[(0, x)]) (cells : Array Value) (hx : a.eval x = .agg cells) {i : TypeInfo} {z : Value} (s : Nat)
    (hu : P.underlying t = some (.slice e)) (hi : P.info? e = some i) (hz : i.zero = some z) (hs : i.size = s) (hzs : z.cells.size = s) (hpos : 0 < s) (hbig : s ≤ 1000) (hc : cells.size = s) (N : Nat) (hN : w.heap.size = N)
    (h : K (a.put o.dst (.slice (some ⟨N, 0, none⟩) 1 1)) (w.alloc (.cells cells e))) : if Region.wanted o (yielded ops a.tmps) = true then Oper.wp P o a w K Q else E := by
  subst hN
  refine step_of hgd (Go.wp_buildSlice t e 1 #[(0, x)] ho cells i z hu hi hz (by rw [hs]; omega) (by rw [hs]; omega) ?_ h)
  have := Go.Great.fill_whole hpos [.agg cells] ((Array.range (1 * i.size)).map (z.cells[· % z.cells.size]!)) (by intro v hv; rw [List.mem_singleton] at hv; subst hv; exact hc) (by simp [hs])
  simp only [List.map_toArray, List.map_cons, List.map_nil, hx, hs] at this ⊢
  rw [show ([(Value.agg cells)].zipIdx 0).map (fun x => (x.2, x.1)) = [(0, Value.agg cells)] from rfl] at this
  rw [this]
  simp [Value.cells]
end
theorem setRow_whole {w : World} {g t : Nat} {old cs : List Value} (h : Whole w g t old) : Whole (w.setRow g cs.toArray) g t cs := by
  have := Go.setRow_heap w g old.toArray cs.toArray t (0, 0) h
  exact this
theorem setRow_chg {w : World} {g : Nat} {cs : Array Value} {T : List Nat} {a : World} (h : Chg T a w) (hg : a.heap.size ≤ g) : Chg T a (w.setRow g cs) := by
  refine ⟨h.os, h.tape, h.output, ?_, fun k hk hn => ?_⟩
  · have := h.size
    simpa [World.setRow] using this
  · exact (Go.setRow_other w g k cs (by omega)).trans (h.block k hk hn)
end Go.Proofs.Ytfhgnoajfipjdaa
