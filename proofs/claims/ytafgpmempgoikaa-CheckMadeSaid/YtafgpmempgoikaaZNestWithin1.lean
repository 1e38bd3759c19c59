/-
  NestWithin, part 1: Mem, Read, Own, Bs, Flow, Law, Frame, NestPure.
-/
import Derived.WalkKit
import Derived.WalkSpells
import Derived.WalkLawsBesides
import Derived.Laws.CopyOwn
import Derived.Laws.Rows
import Derived.Laws.MakeOwn
import Derived.Deep.Draws
import Derived.Lib.SlBytesRow
import Derived.Lib.Hide
import Derived.Deep.RegionLaw
import Derived.Maps.AppendAt
import Derived.OwnWalk
import Derived.Laws.BytesArg
import Derived.Orders
namespace Go.Proofs.Ytafgpmempgoikaa
open Go.RowKit

/-- From w to w' nothing has turned but the listed blocks, and what is new. -/
structure Chg (T : List Nat) (w w' : World) : Prop where
  os : w'.os = w.os
  tape : w'.tape = w.tape
  output : w'.output = w.output
  size : w.heap.size ≤ w'.heap.size
  block : ∀ k, k < w.heap.size → k ∉ T → w'.heap[k]? = w.heap[k]?

theorem Chg.refl (T : List Nat) (w : World) : Chg T w w := ⟨rfl, rfl, rfl, Nat.le_refl _, fun _ _ _ => rfl⟩

/-- Two steps; the second one's list may name blocks that were not there at the beginning. -/
theorem Chg.then_ {T T' : List Nat} {a b c : World} (h : Chg T a b) (k : Chg T' b c) (hs : ∀ i, i ∈ T' → i < a.heap.size → i ∈ T) : Chg T a c :=
  ⟨k.os.trans h.os, k.tape.trans h.tape, k.output.trans h.output, Nat.le_trans h.size k.size, fun i hi hn =>
    (k.block i (Nat.lt_of_lt_of_le hi h.size) (fun hm => hn (hs i hm hi))).trans (h.block i hi hn)⟩

theorem Chg.trans {T : List Nat} {a b c : World} (h : Chg T a b) (k : Chg T b c) : Chg T a c := h.then_ k fun _ h _ => h
theorem Chg.new {T : List Nat} {a b c : World} (h : Chg T a b) (k : Chg [] b c) : Chg T a c := h.then_ k fun _ h _ => by cases h
theorem Chg.sub {T T' : List Nat} {a b : World} (h : Chg T a b) (hs : ∀ i, i ∈ T → i ∈ T') : Chg T' a b := ⟨h.os, h.tape, h.output, h.size, fun i hi hn => h.block i hi fun hm => hn (hs i hm)⟩

theorem Chg.alloc {T : List Nat} {a w : World} (h : Chg T a w) (o : Obj) : Chg T a (w.alloc o) :=
  h.new ⟨rfl, rfl, rfl, by simp, fun k hk _ => Below.heap_alloc w o k hk⟩
theorem Chg.drew {T : List Nat} {a w : World} (h : Chg T a w) : Chg T a w.drew := ⟨h.os, h.tape, h.output, h.size, h.block⟩
theorem Chg.drewN {T : List Nat} {a w : World} (h : Chg T a w) (n : Nat) : Chg T a (w.drewN n) := ⟨h.os, h.tape, h.output, h.size, h.block⟩
theorem Chg.setCell {T : List Nat} {a w : World} (h : Chg T a w) {p : Addr} (hp : p.block < a.heap.size → p.block ∈ T) (u : Value) : Chg T a (w.setCell p u) :=
  h.then_ (T' := [p.block]) ⟨rfl, rfl, rfl, by simp [World.setCell], fun k _ hn => Below.heap_setCell w p u k (by simpa using hn)⟩ fun i hi hlt => by
    simp only [List.mem_cons, List.not_mem_nil, or_false] at hi
    subst hi
    exact hp hlt
theorem Chg.setRow {T : List Nat} {a w : World} (h : Chg T a w) {g : Nat} (hp : g < a.heap.size → g ∈ T) (cs : Array Value) : Chg T a (w.setRow g cs) :=
  h.then_ (T' := [g]) ⟨rfl, rfl, rfl, by simp, fun k _ hn => setRow_other w g k cs (by simpa using hn)⟩ fun i hi hlt => by
    simp only [List.mem_cons, List.not_mem_nil, or_false] at hi
    subst hi
    exact hp hlt
theorem Chg.of_below {a w : World} (h : Below a.heap.size a w) : Chg [] a w := ⟨h.os, h.tape, h.output, h.size, fun k hk _ => h.block k hk⟩
theorem Chg.of_grown {a w : World} {row : Option Nat} {T : List Nat} (h : a.grownBy w row) (hr : ∀ g, row = some g → g < a.heap.size → g ∈ T) : Chg T a w :=
  ⟨h.os, h.tape, h.output, h.size, fun k hk hn => h.block k hk fun e => hn (hr k e.symm hk)⟩
/-- All that has turned lies from B on. -/
theorem Chg.below {T : List Nat} {a w : World} (h : Chg T a w) {B : Nat} (hB : B ≤ a.heap.size) (hT : ∀ i, i ∈ T → B ≤ i) : Below B a w :=
  ⟨h.os, h.tape, h.output, h.size, fun k hk => h.block k (by omega) fun hm => by have := hT k hm; omega⟩
theorem Chg.below0 {a w : World} (h : Chg [] a w) : Below a.heap.size a w := h.below (Nat.le_refl _) (by simp)

/-- Block g is known whole: the cells cs of element type t, none of them frozen. -/
def Whole (w : World) (g t : Nat) (cs : List Value) : Prop := w.heap[g]? = some (.cells cs.toArray t (0, 0))

section
variable {w w' : World} {g t : Nat} {cs : List Value}
theorem Whole.lt (h : Whole w g t cs) : g < w.heap.size := by
  rcases Nat.lt_or_ge g w.heap.size with hlt | hge
  · exact hlt
  · unfold Whole at h; rw [Array.getElem?_eq_none hge] at h; cases h
theorem Whole.cell (h : Whole w g t cs) (i : Nat) : w.cell? ⟨g, i, none⟩ = cs[i]? := by
  have := cell_of_row w g i cs.toArray t (0, 0) h
  simpa using this
theorem Whole.frozen (h : Whole w g t cs) (i : Nat) : w.frozen? ⟨g, i, none⟩ = false := frozen_of_row w g i cs.toArray t h
theorem Whole.chg {T : List Nat} (h : Whole w g t cs) (hc : Chg T w w') (hg : g ∉ T) : Whole w' g t cs := (hc.block g h.lt hg).trans h
theorem Whole.keep (h : Whole w g t cs) (hc : Chg [] w w') : Whole w' g t cs := h.chg hc (by simp)
theorem Whole.drew (h : Whole w g t cs) : Whole w.drew g t cs := h
theorem Whole.drewN (h : Whole w g t cs) (n : Nat) : Whole (w.drewN n) g t cs := h
theorem Whole.set_ (h : Whole w g t cs) (i : Nat) (u : Value) : Whole (w.setCell ⟨g, i, none⟩ u) g t (cs.set i u) := by
  have := heap_setCell_same w g i cs.toArray t u h
  unfold Whole
  rw [this]
  simp
theorem Whole.far (h : Whole w g t cs) {p : Addr} (hp : g ≠ p.block) (u : Value) : Whole (w.setCell p u) g t cs := (Below.heap_setCell w p u g hp).trans h
theorem Whole.new (w : World) (t : Nat) (cs : List Value) : Whole (w.alloc (.cells cs.toArray t)) w.heap.size t cs := heap_alloc_new w _
theorem Whole.ne_ {g' t' : Nat} {cs' : List Value} (h : Whole w g t cs) (h' : Whole w g' t' cs') (hne : t ≠ t') : g ≠ g' := by
  rintro rfl
  unfold Whole at h h'
  rw [h] at h'
  injection h' with h'
  injection h' with _ ht
  exact hne ht
end

theorem add_plain (g o j : Nat) : (⟨g, o, none⟩ : Addr).add j = ⟨g, o + j, none⟩ := by unfold Addr.add; split <;> simp_all

/-- The slice value at A of length n reads as the cells xs. -/
def Src (w : World) (A : Option Addr) (xs : List Value) : Prop := 0 < xs.length → ∃ ad, A = some ad ∧ ad.block < w.heap.size ∧ ∀ j v, xs[j]? = some v → w.cell? (ad.add j) = some v
theorem Src.nil (w : World) (A : Option Addr) : Src w A [] := fun h => absurd h (by simp)
theorem Src.drew {w : World} {A : Option Addr} {xs : List Value} (h : Src w A xs) : Src w.drew A xs := h
theorem Src.drewN {w : World} {A : Option Addr} {xs : List Value} (h : Src w A xs) (n : Nat) : Src (w.drewN n) A xs := h
theorem Src.of_whole {w : World} {g t : Nat} {cs : List Value} (h : Whole w g t cs) (o n : Nat) : Src w (some ⟨g, o, none⟩) ((cs.drop o).take n) := fun _ =>
  ⟨_, rfl, h.lt, fun j v hj => by
    rw [add_plain, h.cell]
    rw [List.getElem?_take] at hj
    split at hj
    · rwa [List.getElem?_drop] at hj
    · cases hj⟩
theorem Src.of_all {w : World} {g t : Nat} {cs : List Value} (h : Whole w g t cs) : Src w (some ⟨g, 0, none⟩) cs := by
  have := Src.of_whole h 0 cs.length
  simpa using this
theorem Src.keep {w w' : World} {A : Option Addr} {xs : List Value} (h : Src w A xs) (hc : Chg [] w w') : Src w' A xs := fun hp => by
  obtain ⟨ad, e, hb, hx⟩ := h hp
  refine ⟨ad, e, Nat.lt_of_lt_of_le hb hc.size, fun j v hj => ?_⟩
  have := hx j v hj
  rw [← this]
  refine World.cell?_of_block (w := w) (hc.block _ ?_ (by simp))
  have e2 : (ad.add j).block = ad.block := by unfold Addr.add; split <;> rfl
  rw [e2]; exact hb

/-- A byte, a truth, as cells hold them. -/
def B8 (c : UInt8) : Value := .int .u8 (c.toNat : Int)
def bts (l : List UInt8) : List Value := l.map B8
def bls (l : List Bool) : List Value := l.map Value.bool
def nms (l : List Int) : List Value := l.map (Value.int .i64)
theorem bts_one (l : List UInt8) : ∀ v ∈ bts l, v.oneCell' = true := by
  intro v hv
  simp only [bts, List.mem_map] at hv
  obtain ⟨c, _, rfl⟩ := hv
  rfl
theorem bts_len (l : List UInt8) : (bts l).length = l.length := by simp [bts]
theorem bts_get (l : List UInt8) (i : Nat) (h : i < l.length) : (bts l)[i]? = some (B8 l[i]) := by simp [bts, h]
theorem bts_set (l : List UInt8) (i : Nat) (c : UInt8) : (bts l).set i (B8 c) = bts (l.set i c) := by simp [bts]
theorem bls_len (l : List Bool) : (bls l).length = l.length := by simp [bls]
theorem bls_get (l : List Bool) (i : Nat) (h : i < l.length) : (bls l)[i]? = some (.bool l[i]) := by simp [bls, h]
theorem bls_set (l : List Bool) (i : Nat) (c : Bool) : (bls l).set i (.bool c) = bls (l.set i c) := by simp [bls]

def zeros (n : Nat) : List UInt8 := List.replicate n 0
def falses (n : Nat) : List Bool := List.replicate n false
theorem zeros_len (n : Nat) : (zeros n).length = n := by simp [zeros]
theorem falses_len (n : Nat) : (falses n).length = n := by simp [falses]
theorem bts_zeros (n : Nat) : bts (zeros n) = List.replicate n (.int .u8 0) := by simp [bts, zeros, B8]
theorem bls_falses (n : Nat) : bls (falses n) = List.replicate n (.bool false) := by simp [bls, falses]

theorem made_one (z : Value) (n : Nat) : madeCells #[z] n = (List.replicate n z).toArray := by
  apply Array.ext
  · simp [madeCells]
  · intro i h1 h2
    simp [madeCells, Nat.mod_one]
theorem splice_all {α : Type} (L cs : List α) (h : cs.length = L.length) : splice L 0 cs = cs := by
  simp [splice, h]

/-- 'make([]T, n)': one cell a place. -/
theorem run_make1 {P : Program} (t e : TypeId) (i : TypeInfo) (z : Value) (hz1 : z.cells = #[z]) (ht : P.underlying t = some (.slice e)) (hi : P.info? e = some i) (hz : i.zero = some z) (hs : i.size = 1)
    (n : Nat) (hb : i.bytes * n ≤ 281474976710656) (h63 : n ≤ 9223372036854775807) (w : World) :
    (Instr.makeSlice t (.int .i64 (n : Int)) (.int .i64 (n : Int))).run P w = .ok (.slice (some ⟨w.heap.size, 0, none⟩) n n) (w.alloc (.cells (List.replicate n z).toArray e)) := by
  have hb' : (i.bytes : Int) * (n : Int) ≤ 281474976710656 := by
    have h : ((i.bytes * n : Nat) : Int) ≤ 281474976710656 := by omega
    rwa [Int.natCast_mul] at h
  have h := run_make (P := P) w t e i z ht hi hz .i64 .i64 (n : Int) (n : Int) (by omega) (Int.le_refl _) hb' (by omega)
  rw [h, hs, hz1, made_one]
  simp

/-- 'copy(dst, src)' into a block that is known whole: which block has turned is told. -/
theorem run_copy_chg {P : Program} {w : World} {g off t : Nat} {cur cs : List Value} (dT sT ty elem : TypeId) (hu : P.underlying dT = some (.slice elem)) (hsz : (P.info? elem).map (·.size) = some 1)
    (dp sp : Option Addr) (dLen dCap sLen sCap : Nat) (hg : Whole w g t cur) (hn : cs.length = Nat.min sLen dLen) (hd : 0 < cs.length → dp = some ⟨g, off, none⟩) (hs : Src w sp cs)
    (hfit : off + cs.length ≤ cur.length) (h1 : ∀ v ∈ cs, v.oneCell' = true) :
    ∃ w', (Builtin.copy_ #[dT, sT] ty #[.slice dp dLen dCap, .slice sp sLen sCap]).run P w = .ok (goInt cs.length) w' ∧ Whole w' g t (splice cur off cs) ∧ Chg [g] w w' := by
  rcases Nat.eq_zero_or_pos cs.length with h0 | h0
  · obtain rfl : cs = [] := List.eq_nil_of_length_eq_zero h0
    refine ⟨w, run_copy_none (P := P) w dT sT ty elem dp sp dLen dCap sLen sCap hu hsz (by simpa using hn.symm), ?_, Chg.refl _ _⟩
    simpa [splice] using hg
  · obtain ⟨ad, rfl, _, hx⟩ := hs h0
    obtain rfl := hd h0
    refine ⟨_, run_copy_row (P := P) w dT sT ty elem g off dLen dCap ad sLen sCap cur.toArray t cs hu hsz hg hn hx (by simpa using hfit) h1, ?_, (Chg.refl [g] w).setRow (by simp) _⟩
    have := setRow_heap w g _ (splice cur off cs).toArray t _ hg
    simpa [Whole, splice, List.append_assoc] using this

theorem wpList_copy_chg {P : Program} {w : World} {ops : Array Oper} {rest : List Oper} {o : Oper} {a : Act} {Q : Exit → Act → World → Prop} (hgd : o.guard = none) (d s : Operand) (dT sT : TypeId)
    (ho : o.op = .call { callee := .builtin .copy, args := #[d, s], argTypes := #[dT, sT] }) (elem : TypeId) (hu : P.underlying dT = some (.slice elem)) (hsz : (P.info? elem).map (·.size) = some 1)
    (dp sp : Option Addr) (dLen dCap sLen sCap : Nat) (hde : a.eval d = .slice dp dLen dCap) (hse : a.eval s = .slice sp sLen sCap)
    (g off t : Nat) (cur cs : List Value) (hg : Whole w g t cur) (hn : cs.length = Nat.min sLen dLen) (hd : 0 < cs.length → dp = some ⟨g, off, none⟩) (hs : Src w sp cs)
    (hfit : off + cs.length ≤ cur.length) (h1 : ∀ v ∈ cs, v.oneCell' = true)
    (h : ∀ w', Whole w' g t (splice cur off cs) → Chg [g] w w' → wpList P ops Q rest (a.put o.dst (goInt cs.length)) w') : wpList P ops Q (o :: rest) a w := by
  refine wpList_plain hgd fun K hK => ?_
  obtain ⟨w', hrun, h2, h3⟩ := run_copy_chg (P := P) dT sT o.type elem hu hsz dp sp dLen dCap sLen sCap hg hn hd hs hfit h1
  unfold Oper.wp
  simp [execOp, ho, resolve, invoke, builtin, hde, hse, hrun, Result.andThen]
  exact hK _ _ (h w' h2 h3)

theorem step_copy_chg {P : Program} {w : World} {ops : Array Oper} {o : Oper} {a : Act} {K : Act → World → Prop} {Q : Exit → Act → World → Prop} {E : Prop} (hgd : o.guard = none) (d s : Operand) (dT sT : TypeId)
    (ho : o.op = .call { callee := .builtin .copy, args := #[d, s], argTypes := #[dT, sT] }) (elem : TypeId) (hu : P.underlying dT = some (.slice elem)) (hsz : (P.info? elem).map (·.size) = some 1)
    (dp sp : Option Addr) (dLen dCap sLen sCap : Nat) (hde : a.eval d = .slice dp dLen dCap) (hse : a.eval s = .slice sp sLen sCap)
    (g off t : Nat) (cur cs : List Value) (hg : Whole w g t cur) (hn : cs.length = Nat.min sLen dLen) (hd : 0 < cs.length → dp = some ⟨g, off, none⟩) (hs : Src w sp cs)
    (hfit : off + cs.length ≤ cur.length) (h1 : ∀ v ∈ cs, v.oneCell' = true)
    (h : ∀ w', Whole w' g t (splice cur off cs) → Chg [g] w w' → K (a.put o.dst (goInt cs.length)) w') :
    if Region.wanted o (yielded ops a.tmps) = true then Oper.wp P o a w K Q else E := by
  have hw : Region.wanted o (yielded ops a.tmps) = true := by simp [Region.wanted, hgd]
  rw [if_pos hw]
  obtain ⟨w', hrun, h2, h3⟩ := run_copy_chg (P := P) dT sT o.type elem hu hsz dp sp dLen dCap sLen sCap hg hn hd hs hfit h1
  unfold Oper.wp
  simp [execOp, ho, resolve, invoke, builtin, hde, hse, hrun, Result.andThen]
  exact h w' h2 h3

theorem step_copy_none {P : Program} {w : World} {ops : Array Oper} {o : Oper} {a : Act} {K : Act → World → Prop} {Q : Exit → Act → World → Prop} {E : Prop} (hgd : o.guard = none) (d s : Operand) (dT sT : TypeId)
    (ho : o.op = .call { callee := .builtin .copy, args := #[d, s], argTypes := #[dT, sT] }) (elem : TypeId) (hu : P.underlying dT = some (.slice elem)) (hsz : (P.info? elem).map (·.size) = some 1)
    (dp sp : Option Addr) (dLen dCap sLen sCap : Nat) (hde : a.eval d = .slice dp dLen dCap) (hse : a.eval s = .slice sp sLen sCap) (hn : Nat.min sLen dLen = 0)
    (h : K (a.put o.dst (goInt 0)) w) :
    if Region.wanted o (yielded ops a.tmps) = true then Oper.wp P o a w K Q else E := by
  have hw : Region.wanted o (yielded ops a.tmps) = true := by simp [Region.wanted, hgd]
  rw [if_pos hw]
  have hrun := run_copy_none (P := P) w dT sT o.type elem dp sp dLen dCap sLen sCap hu hsz hn
  unfold Oper.wp
  simp [execOp, ho, resolve, invoke, builtin, hde, hse, hrun, Result.andThen]
  exact h

theorem bts_splice (l m : List UInt8) (o : Nat) : splice (bts l) o (bts m) = bts (splice l o m) := by simp [splice, bts]
theorem bts_cut (l : List UInt8) (o n : Nat) : ((bts l).drop o).take n = bts ((l.drop o).take n) := by simp [bts]

/-- 'string(b)'. -/
def strOf (l : List UInt8) : ByteArray := ⟨l.toArray⟩
theorem run_str {P : Program} (src e dst : TypeId) (hs : P.underlying src = some (.slice e)) (he : P.underlying e = some (.int .u8)) (hd : P.underlying dst = some .string)
    (A : Option Addr) (l : List UInt8) (cap : Nat) (w : World) (h : Src w A (bts l)) (hp : ∀ ad, A = some ad → ad.spot = none) :
    (convert src dst (.slice A l.length cap)).run P w = .ok (.string (strOf l)) w := by
  rcases Nat.eq_zero_or_pos l.length with h0 | h0
  · obtain rfl : l = [] := List.eq_nil_of_length_eq_zero h0
    rcases A with _ | ad
    · exact run_convert_bytes_nil (P := P) w src e hs he 0 cap dst hd
    · obtain ⟨b, o, s⟩ := ad
      obtain rfl : s = none := hp _ rfl
      exact Lib.run_convert_whole (P := P) w src e dst hs he hd b o (strOf []) (fun i hi => absurd hi (by simp [strOf, ByteArray.size])) cap
  · obtain ⟨ad, rfl, _, hx⟩ := h (by simpa [bts] using h0)
    obtain ⟨b, o, s⟩ := ad
    obtain rfl : s = none := hp _ rfl
    have := Lib.run_convert_whole (P := P) w src e dst hs he hd b o (strOf l) (fun i hi => by
      have hi' : i < l.length := by simpa [strOf, ByteArray.size] using hi
      have h1 := hx i _ (bts_get l i hi')
      rw [add_plain] at h1
      rw [h1]
      rfl) cap
    simpa [strOf, ByteArray.size] using this
theorem strOf_inj {l m : List UInt8} (h : strOf l = strOf m) : l = m := by
  injection h with h
  simpa using h

end Go.Proofs.Ytafgpmempgoikaa
namespace Go.Proofs.Ytafgpmempgoikaa
open Go.RowKit

/-- A slice of integers that came in: nil, or a row of cells. -/
def IsRow (k : IntKind) (w : World) (a : Option Addr) (len cap : Nat) (zs : List Int) : Prop :=
  (a = none ∧ len = 0 ∧ cap = 0 ∧ zs = []) ∨
  ∃ x, a = some x ∧ len ≤ cap ∧ cap ≤ maxLen ∧ zs.length = cap ∧ (∀ i, i < zs.length → w.cell? (x.add i) = some (.int k (zs.getD i 0))) ∧ ∀ n ∈ zs, (Lit.int k n).wf = true

theorem row_src {k : IntKind} {w : World} {a : Option Addr} {len cap : Nat} {zs : List Int} (h : IsRow k w a len cap zs) : (zs.take len).length = len ∧ Src w a ((zs.take len).map (Value.int k)) ∧ ∀ n ∈ zs.take len, (Lit.int k n).wf = true := by
  rcases h with ⟨rfl, rfl, rfl, rfl⟩ | ⟨x, rfl, hlc, _, hz, hcell, hwf⟩
  · exact ⟨rfl, fun hp => absurd hp (by simp), by simp⟩
  · refine ⟨by rw [List.length_take]; omega, fun hp => ?_, fun n hn => hwf n (List.mem_of_mem_take hn)⟩
    have h0 : 0 < zs.length := by
      simp only [List.length_map, List.length_take] at hp
      omega
    have hb : (x.add 0).block = x.block := by unfold Addr.add; split <;> rfl
    refine ⟨x, rfl, by rw [← hb]; exact block_lt_of_cell (hcell 0 h0), fun j v hj => ?_⟩
    simp only [List.getElem?_map, List.getElem?_take] at hj
    split at hj
    · have hjl : j < zs.length := by omega
      rw [List.getElem?_eq_getElem hjl] at hj
      simp only [Option.map_some, Option.some.injEq] at hj
      rw [hcell j hjl, ← hj]
      simp [List.getD, hjl]
    · simp at hj

theorem row_len {k : IntKind} {w : World} {a : Option Addr} {len cap : Nat} {zs : List Int} (h : IsRow k w a len cap zs) : len ≤ maxLen := by
  rcases h with ⟨_, rfl, _, _⟩ | ⟨_, _, hlc, hm, _⟩
  · exact Nat.zero_le _
  · omega

theorem row_spot {k : IntKind} {w : World} {a : Option Addr} {len cap : Nat} {zs : List Int} (h : IsRow k w a len cap zs) (h0 : 0 < len) : ∀ ad, a = some ad → ad.spot = none ∧ ad.block < w.heap.size := by
  rcases h with ⟨_, rfl, _, _⟩ | ⟨x, rfl, hlc, _, hz, hcell, _⟩
  · exact absurd h0 (by omega)
  · intro ad e
    injection e with e
    subst e
    have hc := hcell 0 (by omega)
    have hb : (x.add 0).block = x.block := by unfold Addr.add; split <;> rfl
    refine ⟨?_, by rw [← hb]; exact block_lt_of_cell hc⟩
    have h1 : x.add 0 = x := by simp [Addr.add]
    rw [h1] at hc
    cases hs : x.spot with
    | none => rfl
    | some v =>
      exfalso
      unfold World.cell? at hc
      rw [hs] at hc
      split at hc
      · simp at hc
      · cases hc

/-- Bytes. -/
theorem row_bytes {w : World} {a : Option Addr} {len cap : Nat} {zs : List Int} (h : IsRow .u8 w a len cap zs) : ∃ l : List UInt8, l.length = len ∧ Src w a (bts l) := by
  obtain ⟨h1, h2, h3⟩ := row_src h
  refine ⟨(zs.take len).map fun z => UInt8.ofNat z.toNat, by rw [List.length_map]; exact h1, ?_⟩
  have e : bts ((zs.take len).map fun z => UInt8.ofNat z.toNat) = (zs.take len).map (Value.int .u8) := by
    unfold bts
    rw [List.map_map]
    refine List.map_congr_left fun z hz => ?_
    have hw := h3 z hz
    have hb : 0 ≤ z ∧ z ≤ 255 := by simpa [Lit.wf, IntKind.min, IntKind.max, IntKind.signed, IntKind.bits] using hw
    show Value.int .u8 ((UInt8.ofNat z.toNat).toNat : Int) = Value.int .u8 z
    rw [UInt8.toNat_ofNat']
    congr 1
    omega
  rw [e]
  exact h2

/-- Numbers. -/
theorem row_nums {w : World} {a : Option Addr} {len cap : Nat} {zs : List Int} (h : IsRow .i64 w a len cap zs) :
    ∃ l : List Int, l.length = len ∧ Src w a (nms l) ∧ ∀ n ∈ l, -9223372036854775808 ≤ n ∧ n ≤ 9223372036854775807 := by
  obtain ⟨h1, h2, h3⟩ := row_src h
  refine ⟨zs.take len, h1, h2, fun n hn => ?_⟩
  simpa [Lit.wf, IntKind.min, IntKind.max, IntKind.signed, IntKind.bits] using h3 n hn

end Go.Proofs.Ytafgpmempgoikaa
namespace Go.Proofs.Ytafgpmempgoikaa
open Go.RowKit

section
variable {w w' : World} {B n : Nat} {e : TypeId} {v : Value} {xs : List Value}
theorem own_keep (h : w.ownsRow B e 1 v n xs) (hc : Chg [] w w') : w'.ownsRow B e 1 v n xs := by
  refine ⟨h.1, h.2.imp id ?_⟩
  rintro ⟨g, cap, cur, rfl, hb, hg, r⟩
  refine ⟨g, cap, cur, rfl, hb, ?_, r⟩
  rw [hc.block g ?_ (by simp)]
  · exact hg
  · rcases Nat.lt_or_ge g w.heap.size with hlt | hge
    · exact hlt
    · rw [Array.getElem?_eq_none hge] at hg; cases hg
theorem own_drew (h : w.ownsRow B e 1 v n xs) : w.drew.ownsRow B e 1 v n xs := h
theorem own_more {B' : Nat} (h : w.ownsRow B e 1 v n xs) (hB : B' ≤ B) : w.ownsRow B' e 1 v n xs := by
  refine ⟨h.1, h.2.imp id ?_⟩
  rintro ⟨g, cap, cur, rfl, hb, r⟩
  exact ⟨g, cap, cur, rfl, Nat.le_trans hB hb, r⟩
/-- As a slice value. -/
theorem own_slice (h : w.ownsRow B e 1 v n xs) : ∃ A c, v = .slice A n c ∧ xs.length = n ∧ n ≤ c ∧ Src w A xs ∧ (∀ ad, A = some ad → ad.spot = none ∧ B ≤ ad.block ∧ ad.off = 0 ∧ ad.block < w.heap.size) := by
  have hl : xs.length = n := by simpa using h.1
  rcases h.2 with ⟨rfl, rfl⟩ | ⟨g, cap, cur, rfl, hb, hg, hn, hc, hs, ht⟩
  · exact ⟨none, 0, rfl, hl, Nat.le_refl _, fun hp => absurd hp (by omega), fun ad h => by cases h⟩
  · have hgl : g < w.heap.size := by
      rcases Nat.lt_or_ge g w.heap.size with hlt | hge
      · exact hlt
      · rw [Array.getElem?_eq_none hge] at hg; cases hg
    refine ⟨some ⟨g, 0, none⟩, cap, rfl, hl, hn, fun _ => ⟨_, rfl, hgl, fun j u hj => ?_⟩, fun ad h => by injection h with h; subst h; exact ⟨rfl, hb, rfl, hgl⟩⟩
    rw [add_plain, Nat.zero_add, cell_of_row w g j cur e (0, 0) hg]
    have hjl : j < n := by rw [← hl]; exact (List.getElem?_eq_some_iff.1 hj).1
    rw [← ht, List.getElem?_take_of_lt (by omega)] at hj
    simpa using hj
theorem own_le (h : w.ownsRow B e 1 v n xs) : n ≤ maxLen := by
  rcases h.2 with ⟨_, rfl⟩ | ⟨g, cap, cur, _, _, _, hn, hc, _⟩
  · exact Nat.zero_le _
  · omega
/-- A block that is known whole, as an own row of its first n cells. -/
theorem own_of_whole {g c : Nat} {cs : List Value} (h : Whole w g e cs) (hB : B ≤ g) (hc : cs.length = c) (hn : n ≤ c) (hm : c ≤ maxLen) : w.ownsRow B e 1 (.slice (some ⟨g, 0, none⟩) n c) n (cs.take n) := by
  refine ⟨by rw [List.length_take]; omega, .inr ⟨g, c, cs.toArray, rfl, hB, h, hn, hm, by simpa using hc, by simp⟩⟩
theorem own_nil (w : World) (B : Nat) (e : TypeId) : w.ownsRow B e 1 (.slice none 0 0) 0 [] := ⟨rfl, .inl ⟨rfl, rfl⟩⟩
/-- What was appended to is the caller's own: nothing that was there has turned. -/
theorem Chg.own {T : List Nat} {a : World} (h : Chg T a w) (ho : w.ownsRow B e 1 v n xs) (hB : a.heap.size ≤ B) (hg : w.grownBy w' v.ownBlock) : Chg T a w' := by
  refine h.then_ (T' := match v.ownBlock with | some g => [g] | none => []) ?_ ?_
  · refine Chg.of_grown hg fun g hr _ => ?_
    rw [hr]; simp
  · intro i hi hlt
    exfalso
    rcases ho.2 with ⟨rfl, _⟩ | ⟨g, cap, cur, rfl, hb, _⟩
    · simp [Value.ownBlock] at hi
    · simp [Value.ownBlock] at hi; omega
end

section
variable {P : Program} (w : World)
theorem run_append_src (base : Nat) (t ty e : TypeId) (i : TypeInfo) (z : Value) (bytes : Nat) (ht : P.underlying t = some (.slice e)) (hi : P.info? e = some i) (hz : i.zero = some z)
    (hsize : i.size = 1) (hby : i.bytes = bytes) (hzs : z.cells.size = 1)
    (v : Value) (n : Nat) (xs : List Value) (hown : w.ownsRow base e 1 v n xs)
    (A : Option Addr) (m c : Nat) (news : List Value) (hl : news.length = m) (hs : Src w A news) (h1 : ∀ u ∈ news, u.oneCell' = true)
    (h63 : n + m ≤ maxLen) (hbytes : (n + m) * bytes ≤ 140737488355328) (hbase : base ≤ w.heap.size) :
    ∃ v' w', (Builtin.append_ #[t, t] ty #[v, .slice A m c]).run P w = .ok v' w' ∧ w'.ownsRow base e 1 v' (n + m) (xs ++ news) ∧ w.grownBy w' v.ownBlock ∧
      (v'.ownBlock = v.ownBlock ∨ v'.ownBlock = some w.heap.size) := by
  have hnil : m = 0 → news = [] := fun h => List.eq_nil_of_length_eq_zero (by omega)
  rcases A with _ | ad
  · have hm : m = 0 := by
      rcases Nat.eq_zero_or_pos m with h0 | h0
      · exact h0
      · obtain ⟨ad, h, _⟩ := hs (by omega)
        cases h
    subst hm
    obtain rfl := hnil rfl
    refine ⟨v, w, ?_, by simpa using hown, World.grownBy.refl w _, .inl rfl⟩
    rcases hown.2 with ⟨rfl, rfl⟩ | ⟨g, cap, cur, rfl, _, _, hnc, _⟩
    · simp [Builtin.append_, run_underlying ht, sizeOf, typeInfo, hi, Builtin.lenOf, Builtin.firstCells]
    · simp [Builtin.append_, run_underlying ht, sizeOf, typeInfo, hi, Builtin.lenOf, Builtin.firstCells, hnc, storeCells]
  · have hcells : ∀ j u, news[j]? = some u → w.cell? (ad.add j) = some u := by
      intro j u hu
      obtain ⟨ad', h, _, hc⟩ := hs (by have := (List.getElem?_eq_some_iff.1 hu).1; omega)
      injection h with h
      subst h
      exact hc j u hu
    obtain ⟨v', w', hrun, h2, h3, _, h5⟩ := run_append_own_at (P := P) w base t ty e i z 1 bytes ht hi hz hsize hby hzs (by omega) v n xs hown ad m c news (by omega) hcells h1 h63 hbytes hbase
    exact ⟨v', w', hrun, h2, h3, h5⟩

theorem wpList_append_src {w : World} {ops : Array Oper} {rest : List Oper} {o : Oper} {a : Act} {Q : Exit → Act → World → Prop} (hgd : o.guard = none) (s x : Operand) (t : TypeId)
    (ho : o.op = .call { callee := .builtin .append, args := #[s, x], argTypes := #[t, t] })
    (base : Nat) (e : TypeId) (i : TypeInfo) (z : Value) (bytes : Nat) (ht : P.underlying t = some (.slice e)) (hi : P.info? e = some i) (hz : i.zero = some z)
    (hsize : i.size = 1) (hby : i.bytes = bytes) (hzs : z.cells.size = 1)
    (v : Value) (n : Nat) (xs : List Value) (hse : a.eval s = v) (hown : w.ownsRow base e 1 v n xs)
    (A : Option Addr) (m c : Nat) (news : List Value) (hxe : a.eval x = .slice A m c) (hl : news.length = m) (hs : Src w A news) (h1 : ∀ u ∈ news, u.oneCell' = true)
    (h63 : n + m ≤ maxLen) (hbytes : (n + m) * bytes ≤ 140737488355328) (hbase : base ≤ w.heap.size)
    (h : ∀ v' w', w'.ownsRow base e 1 v' (n + m) (xs ++ news) → w.grownBy w' v.ownBlock → (v'.ownBlock = v.ownBlock ∨ v'.ownBlock = some w.heap.size) → wpList P ops Q rest (a.put o.dst v') w') : wpList P ops Q (o :: rest) a w := by
  refine wpList_plain hgd fun K hK => ?_
  obtain ⟨v', w', hrun, h2, h3, h4⟩ := run_append_src (P := P) w base t o.type e i z bytes ht hi hz hsize hby hzs v n xs hown A m c news hl hs h1 h63 hbytes hbase
  unfold Oper.wp execOp
  simp only [ho, resolve, invoke, builtin, Sem.run_bind, Sem.run_pure, Result.andThen_ok, List.map_toArray, List.map_cons, List.map_nil, hse, hxe, hrun]
  exact hK _ _ (h v' w' h2 h3 h4)

/-- Behind a guard. -/
theorem wpList_append_src_g {w : World} {ops : Array Oper} {rest : List Oper} {o : Oper} {a : Act} {Q : Exit → Act → World → Prop} (hgd : Region.wanted o (yielded ops a.tmps) = true) (s x : Operand) (t : TypeId)
    (ho : o.op = .call { callee := .builtin .append, args := #[s, x], argTypes := #[t, t] })
    (base : Nat) (e : TypeId) (i : TypeInfo) (z : Value) (bytes : Nat) (ht : P.underlying t = some (.slice e)) (hi : P.info? e = some i) (hz : i.zero = some z)
    (hsize : i.size = 1) (hby : i.bytes = bytes) (hzs : z.cells.size = 1)
    (v : Value) (n : Nat) (xs : List Value) (hse : a.eval s = v) (hown : w.ownsRow base e 1 v n xs)
    (A : Option Addr) (m c : Nat) (news : List Value) (hxe : a.eval x = .slice A m c) (hl : news.length = m) (hs : Src w A news) (h1 : ∀ u ∈ news, u.oneCell' = true)
    (h63 : n + m ≤ maxLen) (hbytes : (n + m) * bytes ≤ 140737488355328) (hbase : base ≤ w.heap.size)
    (h : ∀ v' w', w'.ownsRow base e 1 v' (n + m) (xs ++ news) → w.grownBy w' v.ownBlock → (v'.ownBlock = v.ownBlock ∨ v'.ownBlock = some w.heap.size) → wpList P ops Q rest (a.put o.dst v') w') : wpList P ops Q (o :: rest) a w := by
  refine wpList_step fun K hK => ?_
  rw [if_pos hgd]
  obtain ⟨v', w', hrun, h2, h3, h4⟩ := run_append_src (P := P) w base t o.type e i z bytes ht hi hz hsize hby hzs v n xs hown A m c news hl hs h1 h63 hbytes hbase
  unfold Oper.wp execOp
  simp only [ho, resolve, invoke, builtin, Sem.run_bind, Sem.run_pure, Result.andThen_ok, List.map_toArray, List.map_cons, List.map_nil, hse, hxe, hrun]
  exact hK _ _ (h v' w' h2 h3 h4)

/-- The same as an operation's run. -/
theorem exec_append_src {w : World} {ev : Operand → Value} {d : Option Tmp} {ty : TypeId} {pos : String} {af : Array Edge} {g : Option (Nat × Bool)} {s x : Operand} {t : TypeId}
    (base : Nat) (e : TypeId) (i : TypeInfo) (z : Value) (bytes : Nat) (ht : P.underlying t = some (.slice e)) (hi : P.info? e = some i) (hz : i.zero = some z)
    (hsize : i.size = 1) (hby : i.bytes = bytes) (hzs : z.cells.size = 1)
    {v : Value} {n : Nat} {xs : List Value} (hse : ev s = v) (hown : w.ownsRow base e 1 v n xs)
    {A : Option Addr} {m c : Nat} {news : List Value} (hxe : ev x = .slice A m c) (hl : news.length = m) (hs : Src w A news) (h1 : ∀ u ∈ news, u.oneCell' = true)
    (h63 : n + m ≤ maxLen) (hbytes : (n + m) * bytes ≤ 140737488355328) (hbase : base ≤ w.heap.size) :
    ∃ v' w', (execOp ev ⟨d, .call { callee := .builtin .append, args := #[s, x], argTypes := #[t, t] }, ty, pos, af, g⟩).run P w = .ok (.value v') w' ∧ w'.ownsRow base e 1 v' (n + m) (xs ++ news) ∧ w.grownBy w' v.ownBlock ∧
      (v'.ownBlock = v.ownBlock ∨ v'.ownBlock = some w.heap.size) := by
  obtain ⟨v', w', hrun, h2, h3, h4⟩ := run_append_src (P := P) w base t ty e i z bytes ht hi hz hsize hby hzs v n xs hown A m c news hl hs h1 h63 hbytes hbase
  refine ⟨v', w', ?_, h2, h3, h4⟩
  unfold execOp
  simp only [resolve, invoke, builtin, Sem.run_bind, Sem.run_pure, Result.andThen_ok, List.map_toArray, List.map_cons, List.map_nil, hse, hxe, hrun]
end

/-- 'make([]T, 0, n)'. -/
theorem run_make0 {P : Program} (t e : TypeId) (i : TypeInfo) (z : Value) (hz1 : z.cells = #[z]) (ht : P.underlying t = some (.slice e)) (hi : P.info? e = some i) (hz : i.zero = some z) (hs : i.size = 1)
    (n : Nat) (hb : i.bytes * n ≤ 281474976710656) (h63 : n ≤ 9223372036854775807) (w : World) :
    (Instr.makeSlice t (.int .i64 0) (.int .i64 (n : Int))).run P w = .ok (.slice (some ⟨w.heap.size, 0, none⟩) 0 n) (w.alloc (.cells (List.replicate n z).toArray e)) := by
  have hb' : (i.bytes : Int) * (n : Int) ≤ 281474976710656 := by
    have h : ((i.bytes * n : Nat) : Int) ≤ 281474976710656 := by omega
    rwa [Int.natCast_mul] at h
  have h := run_make (P := P) w t e i z ht hi hz .i64 .i64 0 (n : Int) (by omega) (by omega) hb' (by omega)
  rw [h, hs, hz1, made_one]
  simp
end Go.Proofs.Ytafgpmempgoikaa
namespace Go.Proofs.Ytafgpmempgoikaa
open Go.RowKit

/-- The slice value '.slice A n c' is the bytes l. -/
structure Bs (w : World) (A : Option Addr) (n c : Nat) (l : List UInt8) : Prop where
  len : l.length = n
  src : Src w A (bts l)
  cap : n ≤ c
  max : c ≤ 9223372036854775807
  spot : 0 < n → ∀ ad, A = some ad → ad.spot = none

section
variable {w w' : World} {A : Option Addr} {n c : Nat} {l : List UInt8}
theorem Bs.keep (h : Bs w A n c l) (hc : Chg [] w w') : Bs w' A n c l := ⟨h.len, h.src.keep hc, h.cap, h.max, h.spot⟩
theorem Bs.drew (h : Bs w A n c l) : Bs w.drew A n c l := ⟨h.len, h.src, h.cap, h.max, h.spot⟩
theorem Bs.le (h : Bs w A n c l) : n ≤ 9223372036854775807 := Nat.le_trans h.cap h.max
theorem Bs.nil (w : World) : Bs w none 0 0 [] := ⟨rfl, Src.nil _ _, Nat.le_refl _, by omega, fun h => absurd h (by omega)⟩
theorem Bs.of_whole {g t cap : Nat} {cs : List Value} (h : Whole w g t cs) (hn : l.length = n) (hc : cs.take n = bts l) (hcap : n ≤ cap) (hm : cap ≤ 9223372036854775807) : Bs w (some ⟨g, 0, none⟩) n cap l := by
  refine ⟨hn, ?_, hcap, hm, fun _ ad e => by injection e with e; subst e; rfl⟩
  have := Src.of_whole h 0 n
  rwa [List.drop_zero, hc] at this
theorem Bs.of_all {g t : Nat} (h : Whole w g t (bts l)) (hm : l.length ≤ 9223372036854775807) : Bs w (some ⟨g, 0, none⟩) l.length l.length l :=
  Bs.of_whole h rfl (by rw [List.take_of_length_le (by rw [bts_len]; exact Nat.le_refl _)]) (Nat.le_refl _) hm
/-- An own row of bytes. -/
theorem Bs.of_own {B : Nat} {e : TypeId} {v : Value} (h : w.ownsRow B e 1 v n (bts l)) : ∃ A c, v = .slice A n c ∧ Bs w A n c l ∧ (∀ ad, A = some ad → ad.spot = none ∧ B ≤ ad.block ∧ ad.off = 0 ∧ ad.block < w.heap.size) := by
  obtain ⟨A, c, rfl, hl, hn, hs, hA⟩ := own_slice h
  have hm : c ≤ 9223372036854775807 := by
    rcases h.2 with ⟨h, _⟩ | ⟨g, cap, cur, h, _, _, _, hc, _⟩
    · injection h with _ _ h; omega
    · injection h with _ _ h; subst h; simpa [maxLen] using hc
  exact ⟨A, c, rfl, ⟨by rw [bts_len] at hl; exact hl, hs, hn, hm, fun _ ad e => (hA ad e).1⟩, hA⟩
theorem Bs.of_row {cap : Nat} {zs : List Int} (h : IsRow .u8 w A n cap zs) : ∃ l, Bs w A n cap l := by
  obtain ⟨l, hl, hs⟩ := row_bytes h
  have hc : n ≤ cap ∧ cap ≤ 9223372036854775807 := by
    rcases h with ⟨_, rfl, rfl, _⟩ | ⟨_, _, h1, h2, _⟩
    · exact ⟨Nat.le_refl _, by omega⟩
    · exact ⟨h1, by simpa [maxLen] using h2⟩
  exact ⟨l, hl, hs, hc.1, hc.2, fun h0 ad e => (row_spot h h0 ad e).1⟩

/-- 's[lo:hi]' keeps the model's own 'if' on the address. -/
theorem Bs.cut (h : Bs w A n c l) {lo hi : Nat} (h1 : lo ≤ hi) (h2 : hi ≤ n) : Bs w (if c = lo then A else A.map (·.add lo)) (hi - lo) (c - lo) ((l.drop lo).take (hi - lo)) := by
  have hl := h.len
  refine ⟨by rw [List.length_take, List.length_drop]; omega, fun hp => ?_, by have := h.cap; omega, by have := h.max; omega, fun h0 ad e => ?_⟩
  · have hp' : 0 < hi - lo := by rw [bts_len, List.length_take, List.length_drop] at hp; omega
    rw [if_neg (by have := h.cap; omega)]
    obtain ⟨ad, rfl, hb, hx⟩ := h.src (by rw [bts_len]; omega)
    obtain ⟨b, o, s⟩ := ad
    obtain rfl : s = none := h.spot (by omega) _ rfl
    refine ⟨_, rfl, by simp only [add_plain]; exact hb, fun j v hj => ?_⟩
    simp only [add_plain]
    have h3 := hx (lo + j) v (by
      rw [← hj]
      unfold bts
      rw [List.getElem?_map, List.getElem?_map, List.getElem?_take]
      have : j < hi - lo := by have := (List.getElem?_eq_some_iff.1 hj).1; rw [bts_len, List.length_take] at this; omega
      rw [if_pos this, List.getElem?_drop])
    rw [add_plain] at h3
    rw [← h3, Nat.add_assoc]
  · rw [if_neg (by have := h.cap; omega)] at e
    cases hA : A with
    | none => rw [hA] at e; cases e
    | some ad0 =>
      obtain ⟨b, o, s⟩ := ad0
      obtain rfl : s = none := h.spot (by omega) _ hA
      rw [hA] at e
      simp only [Option.map_some, Option.some.injEq] at e
      subst e
      rw [add_plain]

theorem run_str0 {P : Program} (src e dst : TypeId) (hs : P.underlying src = some (.slice e)) (he : P.underlying e = some (.int .u8)) (hd : P.underlying dst = some .string) (A : Option Addr) (cap : Nat) (w : World) :
    (convert src dst (.slice A 0 cap)).run P w = .ok (.string (strOf [])) w := by
  rcases A with _ | ad
  · exact run_convert_bytes_nil (P := P) w src e hs he 0 cap dst hd
  · rw [run_convert_bytes_string w src dst e _ 0 cap hs he hd]
    simp [Conv.bytesToString, strOf, go_sem]
    rfl
theorem Bs.str {P : Program} (h : Bs w A n c l) (src e dst : TypeId) (hs : P.underlying src = some (.slice e)) (he : P.underlying e = some (.int .u8)) (hd : P.underlying dst = some .string) :
    (convert src dst (.slice A n c)).run P w = .ok (.string (strOf l)) w := by
  rcases Nat.eq_zero_or_pos n with h0 | h0
  · subst h0
    obtain rfl : l = [] := List.eq_nil_of_length_eq_zero h.len
    exact run_str0 src e dst hs he hd A c w
  · have hl := h.len
    subst hl
    exact run_str src e dst hs he hd A l c w h.src (h.spot h0)
end
end Go.Proofs.Ytafgpmempgoikaa
namespace Go.Proofs.Ytafgpmempgoikaa
open Go.RowKit

/-- What is said of a value, in a world. -/
abbrev Fact := Value → World → Prop
def isV (c : Value) : Fact := fun v _ => v = c
def Keeps (R : World → World → Prop) (φ : Fact) : Prop := ∀ v W W', φ v W → R W W' → φ v W'
theorem keeps_isV {R : World → World → Prop} (c : Value) : Keeps R (isV c) := fun _ _ _ h _ => h

/-- What is said of the temporaries so far, the latest first. -/
abbrev Said := List (Option Tmp × Fact)
def look : Said → Tmp → Option Fact
  | (d, φ) :: F, t => if d = some t then some φ else look F t
  | [], _ => none
def factOf (a0 : Act) (F : Said) : Operand → Fact
  | .tmp t => match look F t with
    | some φ => φ
    | none => isV (a0.eval (.tmp t))
  | x => isV (a0.eval x)
def allFacts (a0 : Act) (F : Said) (ev : Operand → Value) (W : World) : List Operand → Prop
  | [] => True
  | x :: xs => factOf a0 F x (ev x) W ∧ allFacts a0 F ev W xs
/-- Constants and functions are what they are. -/
structure EvOk (ev : Operand → Value) : Prop where
  const : ∀ v, ev (.const v) = v
  func : ∀ f, ev (.func f) = .func (.func f) #[] #[]
  global : ∀ g, ev (.global g) = .pointer (some ⟨g, 0, none⟩)

/-- An operation that has been carried out in world W has left a value of which φ holds. -/
def Leaves (P : Program) (R : World → World → Prop) (φ : Fact) (W : World) : Result Next → Prop
  | .ok (.value v) w' => R W w' ∧ φ v w'
  | .ok .skip w' => R W w' ∧ φ undef w'
  | .ok (.enter f args) w' => Calls P f args w' (fun e w'' => ∃ v, e = .returned v ∧ R W w'' ∧ φ v w'')
  | _ => False

/-- Is the operation wanted, as its guard's fact says? -/
def guardIs (ops : List Oper) (F : Said) (b : Bool) (o : Oper) : Prop :=
  match o.guard with
  | none => b = true
  | some (g, want) => match (ops[g]?).bind (·.dst) with
    | some d => look F d = some (isV (.bool (want == b)))
    | none => False

/-- The same by a fact that says more of what decides. -/
def guardSays (ops : List Oper) (F : Said) (φ : Fact) (b : Bool) (o : Oper) : Prop :=
  match o.guard with
  | none => False
  | some (g, want) => match (ops[g]?).bind (·.dst) with
    | some d => look F d = some φ ∧ ∀ v W, φ v W → v = .bool (want == b)
    | none => False
/-- Was what decides whether the operation is wanted itself not wanted? -/
def guardUn (ops : List Oper) (F : Said) (o : Oper) : Prop :=
  match o.guard with
  | none => False
  | some (g, _) => match (ops[g]?).bind (·.dst) with
    | some d => look F d = some (isV undef)
    | none => False

/-- How a region's worlds may turn: by most operations as R says, by those of 'hard' as H says; what is said by those of 'soft' need not outlast a hard one. -/
structure Turns where
  R : World → World → Prop
  H : World → World → Prop
  hard : List Nat
  soft : List Nat
structure Turns.Ok (T : Turns) : Prop where
  refl : ∀ a, T.R a a
  sub : ∀ a b, T.R a b → T.H a b
  trans : ∀ a b c, T.H a b → T.H b c → T.H a c
def Turns.by_ (T : Turns) (k : Nat) : World → World → Prop := if T.hard.contains k then T.H else T.R

/-- Some steps of R. -/
inductive Star (R : World → World → Prop) : World → World → Prop
  | refl (a : World) : Star R a a
  | step {a b c : World} (h : Star R a b) (k : R b c) : Star R a c
theorem Star.fold {R S : World → World → Prop} (hr : ∀ a, S a a) (ht : ∀ a b c, S a b → R b c → S a c) {a b : World} (h : Star R a b) : S a b := by
  induction h with
  | refl => exact hr _
  | step _ k ih => exact ht _ _ _ ih k

/-- Which operations come ahead of one, as bits. -/
def ancOf (done : List Nat) : List Edge → Nat
  | [] => 0
  | e :: es => if Region.binds .any e then (2 ^ e.on ||| done.getD e.on 0) ||| ancOf done es else ancOf done es
def ancsGo : List Oper → List Nat → List Nat
  | [], done => done
  | o :: os, done => ancsGo os (done ++ [ancOf done o.after.toList])
def ancs (ops : List Oper) : List Nat := ancsGo ops []
/-- Does all that is hard come behind operation k? -/
def earlyB (T : Turns) (ops : List Oper) (k : Nat) : Bool := T.hard.all fun i => Nat.beq i k || ((ancs ops).getD i 0).testBit k
/-- Operation number k. -/
structure OpOk (P : Program) (T : Turns) (w0 : World) (a0 : Act) (ops : List Oper) (F : Said) (k : Nat) (o : Oper) (φ : Fact) : Prop where
  keeps : Keeps T.R φ
  firm : T.soft.contains k = true ∨ Keeps T.H φ
  does : (guardIs ops F true o ∧ ∀ ev W, EvOk ev → T.H w0 W → allFacts a0 F ev W o.op.operands.toList → Leaves P (T.by_ k) φ W ((execOp ev o).run P W)) ∨ ((guardIs ops F false o ∨ guardUn ops F o) ∧ φ = isV undef) ∨ (∃ φg, guardSays ops F φg true o ∧ ∀ ev W gv, EvOk ev → T.H w0 W → φg gv W → allFacts a0 F ev W o.op.operands.toList → Leaves P (T.by_ k) φ W ((execOp ev o).run P W)) ∨ (∃ φg, guardSays ops F φg false o ∧ φ = isV undef) ∨ (guardIs ops F true o ∧ earlyB T ops k = true ∧ ∀ ev W, EvOk ev → Star T.R w0 W → allFacts a0 F ev W o.op.operands.toList → Leaves P (T.by_ k) φ W ((execOp ev o).run P W))

def putAll (a : Act) : List Oper → (Tmp → Value) → Act
  | [], _ => a
  | o :: os, vs => putAll (match o.dst with | some d => a.put (some d) (vs d) | none => a) os vs

/-! ### What is asked of the region itself -/
/-- Does all that is hard come ahead of operation j? -/
def lastB (T : Turns) (ops : List Oper) (j : Nat) : Bool := T.hard.all fun i => Nat.beq i j || ((ancs ops).getD j 0).testBit i
/-- Does a soft operation write this temporary, ahead of a hard one? -/
def softAt (T : Turns) (ops : List Oper) (t : Tmp) : Bool := T.soft.any fun k => ((ops[k]?).bind (·.dst)) == some t && !lastB T ops k
/-- The walk of the operations in their order, from number k on. -/
def Flow (P : Program) (T : Turns) (w0 : World) (a0 : Act) (ops : List Oper) (Q : Exit → Act → World → Prop) : Said → Nat → List Oper → Prop
  | F, _, [] => ∀ (vs : Tmp → Value) W, T.H w0 W → (∀ t φ, look F t = some φ → softAt T ops t = false → φ (vs t) W) → Q .normal (putAll a0 ops vs) W
  | F, k, o :: rest => ∃ φ, OpOk P T w0 a0 ops F k o φ ∧ Flow P T w0 a0 ops Q ((o.dst, φ) :: F) (k + 1) rest

def lowB (ops : List Oper) : Bool := (List.range ops.length).all fun i => match ops[i]? with
  | some o => o.after.toList.all fun e => !Region.binds .any e || Nat.blt e.on i
  | none => true
def sizeB (ops : List Oper) (n : Nat) : Bool := ops.all fun o => match o.dst with | some d => Nat.blt d n | none => true
def distB : List Oper → Bool
  | [] => true
  | o :: os => (match o.dst with | some d => (os.all fun o' => match o'.dst with | some d' => !(Nat.beq d d') | none => true) | none => true) && distB os
def depsB (ops : List Oper) (an : List Nat) : Bool := (List.range ops.length).all fun i => match ops[i]? with
  | some o => (o.looksAt ops.toArray).all fun t => (List.range ops.length).all fun j => match ops[j]? with
    | some o' => (match o'.dst with | some d => !(Nat.beq d t) | none => true) || Nat.beq i j || (if Nat.blt j i then (an.getD i 0).testBit j else (an.getD j 0).testBit i)
    | none => true
  | none => true
/-- What a soft operation j says is no longer asked behind the hard one i, or is said behind it alone. -/
def deadB (ops : List Oper) (an : List Nat) (i j : Nat) : Bool := Nat.beq i j || (an.getD j 0).testBit i || match (ops[j]?).bind (·.dst) with
  | some d => (List.range ops.length).all fun k => match ops[k]? with
    | some o => !((o.looksAt ops.toArray).contains d) || Nat.beq k i || (an.getD i 0).testBit k
    | none => true
  | none => true
def flowB (T : Turns) (ops : List Oper) (n : Nat) : Bool := Region.noSelect ops.toArray && (lowB ops && (sizeB ops n && (distB ops && (depsB ops (ancs ops) && T.hard.all fun i => T.soft.all fun j => deadB ops (ancs ops) i j))))

section sound
variable {P : Program} {T : Turns} {w0 : World} {a0 : Act} {ops : List Oper} {Q : Exit → Act → World → Prop}

theorem lowB_spec (h : lowB ops = true) {i : Nat} {o : Oper} (hi : ops[i]? = some o) {e : Edge} (he : e ∈ o.after) (hb : Region.binds .any e = true) : e.on < i := by
  have hl : i < ops.length := (List.getElem?_eq_some_iff.1 hi).1
  have h1 := List.all_eq_true.1 h i (List.mem_range.2 hl)
  simp only [hi] at h1
  have h2 := List.all_eq_true.1 h1 e (by simpa using he)
  simpa [hb, Nat.blt_eq] using h2
theorem sizeB_spec {n : Nat} (h : sizeB ops n = true) {i : Nat} {o : Oper} (hi : ops[i]? = some o) {d : Tmp} (hd : o.dst = some d) : d < n := by
  have h1 := List.all_eq_true.1 h o (List.mem_of_getElem? hi)
  simpa [hd, Nat.blt_eq] using h1
theorem distB_spec : ∀ {ops : List Oper}, distB ops = true → ∀ {i j : Nat} {o o' : Oper}, i < j → ops[i]? = some o → ops[j]? = some o' → ∀ {d : Tmp}, o.dst = some d → o'.dst ≠ some d := by
  intro ops
  induction ops with
  | nil => intro _ i j o o' _ hi; cases hi
  | cons x xs ih =>
    intro h i j o o' hij hi hj d hd hd'
    simp only [distB, Bool.and_eq_true] at h
    obtain ⟨j, rfl⟩ : ∃ k, j = k + 1 := ⟨j - 1, by omega⟩
    cases i with
    | zero =>
      simp only [List.getElem?_cons_zero, Option.some.injEq] at hi
      subst hi
      have h1 := h.1
      simp only [hd] at h1
      have h2 := List.all_eq_true.1 h1 o' (List.mem_of_getElem? (by simpa using hj))
      simp [hd'] at h2
    | succ i =>
      rw [List.getElem?_cons_succ] at hi hj
      exact ih h.2 (by omega) hi hj hd hd'
theorem depsB_spec {an : List Nat} (h : depsB ops an = true) {i : Nat} {o : Oper} (hi : ops[i]? = some o) {t : Tmp} (ht : t ∈ o.looksAt ops.toArray) {j : Nat} {o' : Oper} (hj : ops[j]? = some o') (hd : o'.dst = some t) (hne : i ≠ j) :
    (if j < i then (an.getD i 0).testBit j else (an.getD j 0).testBit i) = true := by
  have hl : i < ops.length := (List.getElem?_eq_some_iff.1 hi).1
  have hl2 : j < ops.length := (List.getElem?_eq_some_iff.1 hj).1
  have h1 := List.all_eq_true.1 h i (List.mem_range.2 hl)
  simp only [hi] at h1
  have h2 := List.all_eq_true.1 (List.all_eq_true.1 h1 t ht) j (List.mem_range.2 hl2)
  simp only [hj, hd] at h2
  by_cases hlt : j < i
  · have hb : Nat.blt j i = true := by simpa [Nat.blt_eq] using hlt
    rw [if_pos hlt]
    simpa [hne, hb] using h2
  · have hb : Nat.blt j i = false := by
      cases hc : Nat.blt j i
      · rfl
      · rw [Nat.blt_eq] at hc; exact absurd hc hlt
    rw [if_neg hlt]
    simpa [hne, hb] using h2

theorem ancOf_bit {done : List Nat} {i : Nat} : ∀ {es : List Edge}, (ancOf done es).testBit i = true → ∃ e, e ∈ es ∧ Region.binds .any e = true ∧ (i = e.on ∨ (done.getD e.on 0).testBit i = true)
  | [], h => by simp [ancOf] at h
  | e :: es, h => by
    unfold ancOf at h
    split at h
    · rename_i hb
      rw [Nat.testBit_or, Nat.testBit_or, Bool.or_eq_true, Bool.or_eq_true, Nat.testBit_two_pow] at h
      rcases h with (h | h) | h
      · exact ⟨e, List.mem_cons_self, hb, .inl (by simpa using (of_decide_eq_true h).symm)⟩
      · exact ⟨e, List.mem_cons_self, hb, .inr h⟩
      · obtain ⟨e', h1, h2⟩ := ancOf_bit h
        exact ⟨e', List.mem_cons_of_mem _ h1, h2⟩
    · obtain ⟨e', h1, h2⟩ := ancOf_bit h
      exact ⟨e', List.mem_cons_of_mem _ h1, h2⟩
theorem ancsGo_in {L : Nat → Prop} (hL : ∀ (j : Nat) (o : Oper), ops[j]? = some o → L j → ∀ e ∈ o.after, Region.binds .any e = true → L e.on) {i : Nat} : ∀ (rest : List Oper) (done : List Nat), (∀ j : Nat, rest[j]? = ops[done.length + j]?) →
    (∀ j, L j → (done.getD j 0).testBit i = true → L i) → ∀ j, L j → ((ancsGo rest done).getD j 0).testBit i = true → L i
  | [], _, _, h => h
  | o :: rest, done, hr, h => by
    unfold ancsGo
    refine ancsGo_in hL rest _ (fun j => ?_) (fun j hj hb => ?_)
    · have := hr (j + 1)
      rw [List.getElem?_cons_succ] at this
      rw [this]
      congr 1
      simp only [List.length_append, List.length_cons, List.length_nil]
      omega
    · have h0 : ops[done.length]? = some o := by simpa using (hr 0).symm
      rcases Nat.lt_trichotomy j done.length with hlt | heq | hgt
      · rw [List.getD_eq_getElem?_getD, List.getElem?_append_left hlt, ← List.getD_eq_getElem?_getD] at hb
        exact h j hj hb
      · subst heq
        rw [List.getD_eq_getElem?_getD, List.getElem?_append_right (Nat.le_refl _)] at hb
        simp only [Nat.sub_self, List.getElem?_cons_zero, Option.getD_some] at hb
        obtain ⟨e, he, hbd, hcase⟩ := ancOf_bit hb
        have hLe := hL _ o h0 hj e (by simpa using he) hbd
        rcases hcase with rfl | hc
        · exact hLe
        · exact h e.on hLe hc
      · rw [List.getD_eq_getElem?_getD, List.getElem?_eq_none (by simp only [List.length_append, List.length_cons, List.length_nil]; omega)] at hb
        simp at hb
theorem ancs_in {L : Nat → Prop} (hL : ∀ (j : Nat) (o : Oper), ops[j]? = some o → L j → ∀ e ∈ o.after, Region.binds .any e = true → L e.on) {i j : Nat} (hj : L j) (hb : ((ancs ops).getD j 0).testBit i = true) : L i :=
  ancsGo_in hL ops [] (fun j => by simp) (fun j _ hb => by simp at hb) j hj hb

/-- What is said by the operations that have a fact in Φ. -/
def tab : List Oper → List Fact → Said
  | o :: os, φ :: Φ => tab os Φ ++ [(o.dst, φ)]
  | _, _ => []
theorem tab_snoc : ∀ (ops : List Oper) (Φ : List Fact) (o : Oper) (φ : Fact), ops[Φ.length]? = some o → tab ops (Φ ++ [φ]) = (o.dst, φ) :: tab ops Φ
  | [], Φ, o, φ, h => by simp at h
  | x :: os, [], o, φ, h => by
    simp only [List.length_nil, List.getElem?_cons_zero, Option.some.injEq] at h
    subst h
    cases os <;> rfl
  | x :: os, ψ :: Φ, o, φ, h => by
    have := tab_snoc os Φ o φ (by simpa using h)
    simp only [List.cons_append, tab, this]
theorem look_app (F G : Said) (t : Tmp) : look (F ++ G) t = (look F t).or (look G t) := by
  induction F with
  | nil => rfl
  | cons x F ih =>
    obtain ⟨d, φ⟩ := x
    simp only [List.cons_append, look]
    split
    · rfl
    · exact ih
theorem seek_some : ∀ {ops : List Oper} {Φ : List Fact} {t : Tmp} {φ : Fact}, look (tab ops Φ) t = some φ → ∃ (j : Nat) (o : Oper), ops[j]? = some o ∧ o.dst = some t ∧ Φ[j]? = some φ := by
  intro ops
  induction ops with
  | nil => intro Φ t φ h; simp [tab, look] at h
  | cons o os ih =>
    intro Φ t φ h
    cases Φ with
    | nil => simp [tab, look] at h
    | cons ψ Φ =>
      simp only [tab, look_app] at h
      cases h1 : look (tab os Φ) t with
      | some χ =>
        rw [h1] at h
        simp only [Option.some_or, Option.some.injEq] at h
        subst h
        obtain ⟨j, o', k1, k2, k3⟩ := ih h1
        exact ⟨j + 1, o', by simpa using k1, k2, by simpa using k3⟩
      | none =>
        rw [h1] at h
        simp only [Option.none_or, look] at h
        split at h
        · rename_i hd
          injection h with h
          subst h
          exact ⟨0, o, rfl, hd, rfl⟩
        · cases h
theorem seek_none : ∀ {ops : List Oper} {Φ : List Fact} {t : Tmp}, look (tab ops Φ) t = none → ∀ {j : Nat} {o : Oper}, j < Φ.length → ops[j]? = some o → o.dst ≠ some t := by
  intro ops
  induction ops with
  | nil => intro Φ t _ j o _ h; simp at h
  | cons x os ih =>
    intro Φ t h j o hj ho
    cases Φ with
    | nil => simp at hj
    | cons ψ Φ =>
      simp only [tab, look_app, Option.or_eq_none_iff] at h
      cases j with
      | zero =>
        simp only [List.getElem?_cons_zero, Option.some.injEq] at ho
        subst ho
        intro hd
        have h2 := h.2
        simp [look, hd] at h2
      | succ j => exact ih h.1 (by simpa using hj) (by simpa using ho)

/-- The operations and what is said of them. -/
theorem flow_all {Φ : List Fact} {rest : List Oper} (hrest : ∀ j : Nat, rest[j]? = ops[Φ.length + j]?) (h : Flow P T w0 a0 ops Q (tab ops Φ) Φ.length rest) :
    ∃ Ψ : List Fact, Ψ.length = rest.length ∧ (∀ k o φ, rest[k]? = some o → Ψ[k]? = some φ → OpOk P T w0 a0 ops (tab ops (Φ ++ Ψ.take k)) (Φ.length + k) o φ) ∧ ∀ n, Flow P T w0 a0 ops Q (tab ops (Φ ++ Ψ)) n [] := by
  induction rest generalizing Φ with
  | nil => exact ⟨[], rfl, fun k o φ hk => by simp at hk, fun n => by simpa only [List.append_nil] using (show Flow P T w0 a0 ops Q (tab ops Φ) n [] from h)⟩
  | cons o rest ih =>
    obtain ⟨φ, hφ, h⟩ := h
    have h0 : ops[Φ.length]? = some o := by simpa using (hrest 0).symm
    rw [← tab_snoc ops Φ o φ h0] at h
    obtain ⟨Ψ, hl, hk, he⟩ := ih (Φ := Φ ++ [φ]) (fun j => by have := hrest (j + 1); simp only [List.getElem?_cons_succ] at this; rw [this]; congr 1; simp only [List.length_append, List.length_cons, List.length_nil]; omega) (by simpa using h)
    refine ⟨φ :: Ψ, by simp [hl], fun k o' φ' ho hφ' => ?_, fun n => by simpa using he n⟩
    cases k with
    | zero =>
      simp only [List.getElem?_cons_zero, Option.some.injEq] at ho hφ'
      subst ho hφ'
      simpa using hφ
    | succ k =>
      have := hk k o' φ' (by simpa using ho) (by simpa using hφ')
      simp only [List.length_append, List.length_cons, List.length_nil] at this
      rw [show Φ.length + (k + 1) = Φ.length + 1 + k by omega]
      simpa using this

theorem putAll_eq : ∀ (l : List Oper) (a0 a : Act), a.defers = a0.defers → a.tmps.size = a0.tmps.size →
    (∀ t, (∀ (j : Nat) (o : Oper), l[j]? = some o → o.dst ≠ some t) → a.tmps[t]? = a0.tmps[t]?) → putAll a0 l (fun t => a.eval (.tmp t)) = a
  | [], a0, a, hd, hs, ho => by
    obtain ⟨ta, da⟩ := a
    obtain ⟨tb, db⟩ := a0
    simp only at hd hs ho
    subst hd
    simp only [putAll, Act.mk.injEq, and_true]
    exact (Array.ext_getElem? fun i => (ho i (by simp))).symm
  | o :: l, a0, a, hd, hs, ho => by
    unfold putAll
    refine putAll_eq l _ a ?_ ?_ (fun t ht => ?_)
    · cases o.dst <;> exact hd
    · cases o.dst <;> simpa [Act.put] using hs
    · cases hdst : o.dst with
      | none =>
        refine ho t fun j o' hj => ?_
        cases j with
        | zero => simp only [List.getElem?_cons_zero, Option.some.injEq] at hj; subst hj; rw [hdst]; simp
        | succ j => exact ht j o' (by simpa using hj)
      | some d =>
        by_cases htd : d = t
        · subst htd
          simp only [Act.put]
          rcases Nat.lt_or_ge d a0.tmps.size with hlt | hge
          · rw [Array.getElem?_setIfInBounds_self_of_lt hlt]
            have : d < a.tmps.size := by rw [hs]; exact hlt
            simp [Act.eval, this]
          · rw [Array.getElem?_eq_none (by rw [hs]; exact hge), Array.getElem?_eq_none (by rw [Array.size_setIfInBounds]; exact hge)]
        · simp only [Act.put]
          rw [Array.getElem?_setIfInBounds_ne htd]
          refine ho t fun j o' hj => ?_
          cases j with
          | zero => simp only [List.getElem?_cons_zero, Option.some.injEq] at hj; subst hj; rw [hdst]; intro hc; injection hc with hc; exact htd hc
          | succ j => exact ht j o' (by simpa using hj)

/-- An operation reads temporary d that has not come up yet. -/
def Wanted_ (ops : List Oper) (listed : Array Bool) (d : Tmp) : Prop := ∃ (k : Nat) (o : Oper), ops[k]? = some o ∧ d ∈ o.looksAt ops.toArray ∧ listed.getD k false = false
/-- What holds while the operations of 'listed' have come up. -/
structure Midst (T : Turns) (w0 : World) (a0 : Act) (ops : List Oper) (Φ : List Fact) (listed : Array Bool) (a : Act) (W : World) : Prop where
  len : listed.size = ops.length
  rel : T.H w0 W
  early : (∀ i, T.hard.contains i = true → listed.getD i false = false) → Star T.R w0 W
  defers : a.defers = a0.defers
  size : a.tmps.size = a0.tmps.size
  out : ∀ t, (∀ (j : Nat) (o : Oper), ops[j]? = some o → listed.getD j false = true → o.dst ≠ some t) → a.tmps[t]? = a0.tmps[t]?
  fact : ∀ (j : Nat) o φ, ops[j]? = some o → Φ[j]? = some φ → listed.getD j false = true → ∀ d, o.dst = some d → (T.soft.contains j = false ∨ Wanted_ ops listed d ∨ lastB T ops j = true) → φ (a.eval (.tmp d)) W
  closed : ∀ (j : Nat) (o : Oper), ops[j]? = some o → listed.getD j false = true → ∀ e ∈ o.after, Region.binds .any e = true → listed.getD e.on false = true

theorem Midst.anc {Φ : List Fact} {listed : Array Bool} {a : Act} {W : World} (h : Midst T w0 a0 ops Φ listed a W) {i j : Nat} (hj : listed.getD j false = true) (hb : ((ancs ops).getD j 0).testBit i = true) : listed.getD i false = true :=
  ancs_in (L := fun j => listed.getD j false = true) (fun j o ho hl e he hbd => h.closed j o ho hl e he hbd) hj hb

theorem getD_ff {listed : Array Bool} {i : Nat} (h : listed.getD i true = false) : listed.getD i false = false := by
  rcases Nat.lt_or_ge i listed.size with h' | h'
  · simpa [Array.getD, h'] using h
  · simp [Array.getElem?_eq_none h']

theorem undef_no_bool (b : Bool) : undef ≠ Value.bool b := by intro h; cases h

/-- The operation that comes up sees what is said of its operands. -/
theorem midst_facts {Φ : List Fact} {listed : Array Bool} {a : Act} {W : World} (hck : depsB ops (ancs ops) = true) (hlen : Φ.length = ops.length) (h : Midst T w0 a0 ops Φ listed a W) {i : Nat} {o : Oper} (hi : ops[i]? = some o)
    (hun : listed.getD i false = false) (hall : ∀ e ∈ o.after, Region.binds .any e = true → listed.getD e.on false = true) {t : Tmp} (ht : t ∈ o.looksAt ops.toArray) :
    factOf a0 (tab ops (Φ.take i)) (.tmp t) (a.eval (.tmp t)) W := by
  show (match look (tab ops (Φ.take i)) t with | some φ => φ | none => isV (a0.eval (.tmp t))) (a.eval (.tmp t)) W
  have hil : i < ops.length := (List.getElem?_eq_some_iff.1 hi).1
  cases hs : look (tab ops (Φ.take i)) t with
  | some φ =>
    obtain ⟨j, o', hj, hd, hφ⟩ := seek_some hs
    have hji : j < i := by
      have := (List.getElem?_eq_some_iff.1 hφ).1
      rw [List.length_take] at this
      omega
    rw [List.getElem?_take_of_lt hji] at hφ
    have hdir := depsB_spec hck hi ht hj hd (by omega)
    rw [if_pos hji] at hdir
    have hl : listed.getD j false = true := by
      -- what comes ahead of i has come up
      have hL : ∀ (j : Nat) (o' : Oper), ops[j]? = some o' → (listed.getD j false = true ∨ j = i) → ∀ e ∈ o'.after, Region.binds .any e = true → (listed.getD e.on false = true ∨ e.on = i) := by
        intro j o' ho' hj e he hbd
        rcases hj with hj | rfl
        · exact .inl (h.closed j o' ho' hj e he hbd)
        · rw [hi] at ho'
          injection ho' with ho'
          subst ho'
          exact .inl (hall e he hbd)
      rcases ancs_in (L := fun j => listed.getD j false = true ∨ j = i) hL (.inr rfl) hdir with h1 | h1
      · exact h1
      · omega
    exact h.fact j o' φ hj hφ hl t hd (.inr (.inl ⟨i, o, hi, ht, hun⟩))
  | none =>
    have hno : ∀ (j : Nat) (o' : Oper), ops[j]? = some o' → listed.getD j false = true → o'.dst ≠ some t := by
      intro j o' hj hl hd
      by_cases hji : j < i
      · exact seek_none hs (by rw [List.length_take]; omega) hj hd
      · by_cases e : i = j
        · subst e; rw [hun] at hl; cases hl
        · have hdir := depsB_spec hck hi ht hj hd e
          rw [if_neg hji] at hdir
          have := h.anc hl hdir
          rw [hun] at this; cases this
    have h2 := h.out t hno
    show a.eval (.tmp t) = a0.eval (.tmp t)
    simp only [Act.eval, Array.getD_eq_getD_getElem?, h2]

theorem midst_all {Φ : List Fact} {a : Act} {W : World} {i : Nat} {o : Oper} (h : ∀ t, t ∈ o.looksAt ops.toArray → factOf a0 (tab ops (Φ.take i)) (.tmp t) (a.eval (.tmp t)) W) :
    ∀ l : List Operand, (∀ x ∈ l, x ∈ o.op.operands.toList) → allFacts a0 (tab ops (Φ.take i)) a.eval W l
  | [], _ => trivial
  | x :: l, hx => by
    refine ⟨?_, midst_all h l fun y hy => hx y (List.mem_cons_of_mem _ hy)⟩
    cases x with
    | tmp t => exact h t (List.mem_append_left _ (List.mem_filterMap.2 ⟨.tmp t, hx _ List.mem_cons_self, rfl⟩))
    | const v => rfl
    | global g => rfl
    | func f => rfl

theorem yielded_of {a : Act} {g d : Nat} {b : Bool} (hd : (ops[g]?).bind (·.dst) = some d) (hv : a.eval (.tmp d) = .bool b) : yielded ops.toArray a.tmps g = some b := by
  unfold yielded
  rw [List.getElem?_toArray, hd]
  simp only [Option.bind_some]
  simp only [Act.eval, Array.getD_eq_getD_getElem?] at hv
  cases h : a.tmps[d]? with
  | none => rw [h] at hv; exact absurd hv (undef_no_bool b)
  | some v => rw [h] at hv; simp only [Option.getD_some] at hv; subst hv; rfl

theorem guard_of {Φ : List Fact} {a : Act} {W : World} {i : Nat} {o : Oper} {b : Bool} (hg : guardIs ops (tab ops (Φ.take i)) b o) (h : ∀ t, t ∈ o.looksAt ops.toArray → factOf a0 (tab ops (Φ.take i)) (.tmp t) (a.eval (.tmp t)) W) :
    Region.wanted o (yielded ops.toArray a.tmps) = b := by
  unfold guardIs at hg
  unfold Region.wanted
  cases hgd : o.guard with
  | none => simp only [hgd] at hg; rw [hg]
  | some gw =>
    obtain ⟨g, want⟩ := gw
    simp only [hgd] at hg
    split at hg
    · rename_i d hd
      have h1 := h d (by
        refine List.mem_append_right _ ?_
        simp only [hgd, List.getElem?_toArray, hd]
        simp)
      simp only [factOf, hg] at h1
      have h2 : a.eval (.tmp d) = .bool (want == b) := h1
      simp only [yielded_of hd h2]
      cases want <;> cases b <;> rfl
    · exact hg.elim

theorem guard_says {Φ : List Fact} {a : Act} {W : World} {i : Nat} {o : Oper} {b : Bool} {φ : Fact} (hg : guardSays ops (tab ops (Φ.take i)) φ b o) (h : ∀ t, t ∈ o.looksAt ops.toArray → factOf a0 (tab ops (Φ.take i)) (.tmp t) (a.eval (.tmp t)) W) :
    Region.wanted o (yielded ops.toArray a.tmps) = b ∧ ∃ gv, φ gv W := by
  unfold guardSays at hg
  unfold Region.wanted
  cases hgd : o.guard with
  | none => simp only [hgd] at hg
  | some gw =>
    obtain ⟨g, want⟩ := gw
    simp only [hgd] at hg
    split at hg
    · rename_i d hd
      have h1 := h d (by
        refine List.mem_append_right _ ?_
        simp only [hgd, List.getElem?_toArray, hd]
        simp)
      obtain ⟨hl, hv⟩ := hg
      simp only [factOf, hl] at h1
      have h2 : a.eval (.tmp d) = .bool (want == b) := hv _ _ h1
      refine ⟨?_, _, h1⟩
      simp only [yielded_of hd h2]
      cases want <;> cases b <;> rfl
    · exact hg.elim

theorem yielded_un {a : Act} {g d : Nat} (hd : (ops[g]?).bind (·.dst) = some d) (hv : a.eval (.tmp d) = undef) : yielded ops.toArray a.tmps g = none := by
  unfold yielded
  rw [List.getElem?_toArray, hd]
  simp only [Option.bind_some]
  simp only [Act.eval, Array.getD_eq_getD_getElem?] at hv
  cases h : a.tmps[d]? with
  | none => rfl
  | some v => rw [h] at hv; simp only [Option.getD_some] at hv; subst hv; rfl
theorem guard_un {Φ : List Fact} {a : Act} {W : World} {i : Nat} {o : Oper} (hg : guardUn ops (tab ops (Φ.take i)) o) (h : ∀ t, t ∈ o.looksAt ops.toArray → factOf a0 (tab ops (Φ.take i)) (.tmp t) (a.eval (.tmp t)) W) :
    Region.wanted o (yielded ops.toArray a.tmps) = false := by
  unfold guardUn at hg
  unfold Region.wanted
  cases hgd : o.guard with
  | none => simp only [hgd] at hg
  | some gw =>
    obtain ⟨g, want⟩ := gw
    simp only [hgd] at hg
    split at hg
    · rename_i d hd
      have h1 := h d (by
        refine List.mem_append_right _ ?_
        simp only [hgd, List.getElem?_toArray, hd]
        simp)
      simp only [factOf, hg] at h1
      have h2 : a.eval (.tmp d) = undef := h1
      simp only [yielded_un hd h2]
      rfl
    · exact hg.elim

theorem midst_step {Φ : List Fact} {listed : Array Bool} {a : Act} {W W' : World} (hT : T.Ok) (hk : ∀ (j : Nat) φ, Φ[j]? = some φ → Keeps T.R φ ∧ (T.soft.contains j = true ∨ Keeps T.H φ)) (hdead : ∀ i j, T.hard.contains i = true → T.soft.contains j = true → deadB ops (ancs ops) i j = true) (hsz : sizeB ops a0.tmps.size = true) (hdi : distB ops = true)
    (h : Midst T w0 a0 ops Φ listed a W) {i : Nat} {o : Oper} {φ : Fact} (hi : ops[i]? = some o) (hun : listed.getD i false = false) (hφ : Φ[i]? = some φ) (hall : ∀ e ∈ o.after, Region.binds .any e = true → listed.getD e.on false = true)
    {v : Value} (hW : T.by_ i W W') (hv : φ v W') : Midst T w0 a0 ops Φ (listed.setIfInBounds i true) (a.put o.dst v) W' := by
  have hil : i < ops.length := (List.getElem?_eq_some_iff.1 hi).1
  have hsz2 : (a.put o.dst v).tmps.size = a.tmps.size := by cases o.dst <;> simp [Act.put]
  have hlist : ∀ j, (listed.setIfInBounds i true).getD j false = true → j = i ∨ listed.getD j false = true := by
    intro j hj
    by_cases e : i = j
    · exact .inl e.symm
    · rw [getD_set_ne false e] at hj; exact .inr hj
  have hWH : T.H W W' := by
    unfold Turns.by_ at hW
    split at hW
    · exact hW
    · exact hT.sub _ _ hW
  refine ⟨by rw [Array.size_setIfInBounds]; exact h.len, hT.trans _ _ _ h.rel hWH, fun hno => ?_, by cases o.dst <;> exact h.defers, hsz2.trans h.size, fun t ht => ?_, fun j o' ψ hj hψ hl d hd hwant => ?_, fun j o' hj hl e he hb => ?_⟩
  · have hnh : T.hard.contains i = false := by
      cases hc : T.hard.contains i with
      | false => rfl
      | true =>
        have := hno i hc
        rw [Array.getD_eq_getD_getElem?, Array.getElem?_setIfInBounds_self_of_lt (by rw [h.len]; exact hil)] at this
        cases this
    have h1 := h.early fun j hj => by
      cases hc : listed.getD j false with
      | false => rfl
      | true => have := hno j hj; rw [getD_set_true hc] at this; cases this
    unfold Turns.by_ at hW
    rw [hnh] at hW
    exact .step h1 hW
  · have hti : o.dst ≠ some t := ht i o hi (by simp [h.len, hil])
    have h1 : (a.put o.dst v).tmps[t]? = a.tmps[t]? := by
      cases hd : o.dst with
      | none => rfl
      | some d =>
        simp only [Act.put]
        exact Array.getElem?_setIfInBounds_ne fun e => hti (by rw [hd, e])
    rw [h1]
    exact h.out t fun j o' hj hl => ht j o' hj (getD_set_true hl)
  · by_cases e : j = i
    · subst e
      rw [hi] at hj
      injection hj with hj
      subst hj
      rw [hφ] at hψ
      injection hψ with hψ
      subst hψ
      have hds : d < a.tmps.size := by rw [h.size]; exact sizeB_spec hsz hi hd
      have : (a.put o.dst v).eval (.tmp d) = v := by simp [hd, Act.put, Act.eval, hds]
      rw [this]
      exact hv
    · have hl' := (hlist j hl).resolve_left e
      have hwant0 : T.soft.contains j = false ∨ Wanted_ ops listed d ∨ lastB T ops j = true := hwant.imp id fun hx => hx.imp (fun ⟨k, ok, h1, h2, h3⟩ => ⟨k, ok, h1, h2, by
        cases hc : listed.getD k false with
        | false => rfl
        | true => rw [getD_set_true hc] at h3; cases h3⟩) id
      have h1 : ψ (a.eval (.tmp d)) W' := by
        have hpre := h.fact j o' ψ hj hψ hl' d hd hwant0
        unfold Turns.by_ at hW
        split at hW
        · rename_i hhard
          rcases (hk j ψ hψ).2 with hsoft | hfirm
          · exfalso
            have hdd := hdead i j hhard hsoft
            rcases hwant with hw | ⟨k, ok, k1, k2, k3⟩ | hw
            · rw [hsoft] at hw; cases hw
            rotate_left
            · have h2 := List.all_eq_true.1 hw i (by simpa using hhard)
              rcases (Bool.or_eq_true _ _).mp h2 with h3 | h3
              · exact e (Nat.eq_of_beq_eq_true h3).symm
              · have := h.anc hl' h3
                rw [hun] at this; cases this
            · unfold deadB at hdd
              have hb1 : Nat.beq i j = false := by
                cases hc : Nat.beq i j with
                | false => rfl
                | true => exact absurd (Nat.eq_of_beq_eq_true hc).symm e
              have hb2 : ((ancs ops).getD j 0).testBit i = false := by
                cases hc : ((ancs ops).getD j 0).testBit i with
                | false => rfl
                | true =>
                  have := h.anc hl' hc
                  rw [hun] at this; cases this
              simp only [hb1, hb2, Bool.false_or, hj, Option.bind_some, hd] at hdd
              have h2 := List.all_eq_true.1 hdd k (List.mem_range.2 (List.getElem?_eq_some_iff.1 k1).1)
              simp only [k1] at h2
              have hc1 : (ok.looksAt ops.toArray).contains d = true := by simpa using k2
              have hki : k ≠ i := by
                rintro rfl
                rw [Array.getD_eq_getD_getElem?, Array.getElem?_setIfInBounds_self_of_lt (by rw [h.len]; exact hil)] at k3
                cases k3
              have hb3 : Nat.beq k i = false := by
                cases hc : Nat.beq k i with
                | false => rfl
                | true => exact absurd (Nat.eq_of_beq_eq_true hc) hki
              simp only [hc1, hb3, Bool.not_true, Bool.false_or] at h2
              -- k comes ahead of i, so it has come up
              have hL : ∀ (j : Nat) (o' : Oper), ops[j]? = some o' → (listed.getD j false = true ∨ j = i) → ∀ e ∈ o'.after, Region.binds .any e = true → (listed.getD e.on false = true ∨ e.on = i) := by
                intro j' o' ho' hj' ed he hbd
                rcases hj' with hj' | hj'
                · exact .inl (h.closed j' o' ho' hj' ed he hbd)
                · rw [hj', hi] at ho'
                  injection ho' with ho'
                  rw [← ho'] at he
                  exact .inl (hall ed he hbd)
              rcases ancs_in (L := fun j => listed.getD j false = true ∨ j = i) hL (.inr rfl) h2 with h5 | h5
              · rw [getD_set_true h5] at k3; cases k3
              · exact hki h5
          · exact hfirm _ _ _ hpre hW
        · exact (hk j ψ hψ).1 _ _ _ hpre hW
      have hne : ∀ d', o.dst = some d' → (Operand.tmp d) ≠ .tmp d' := by
        intro d' hd' hc
        injection hc with hc
        subst hc
        rcases Nat.lt_or_gt_of_ne e with hlt | hgt
        · exact distB_spec hdi hlt hj hi hd hd'
        · exact distB_spec hdi hgt hi hj hd' hd
      rw [Act.eval_put hne]
      exact h1
  · rcases hlist j hl with rfl | hl'
    · rw [hi] at hj
      injection hj with hj
      subst hj
      exact getD_set_true (hall e he hb)
    · exact getD_set_true (h.closed j o' hj hl' e he hb)

theorem midst_end {Φ : List Fact} {listed : Array Bool} {a : Act} {W : World} (hlow : lowB ops = true) (h : Midst T w0 a0 ops Φ listed a W) (hr : Region.ready .any ops.toArray listed = []) :
    ∀ j, j < ops.length → listed.getD j false = true := by
  intro j
  induction j using Nat.strongRecOn with
  | _ j ih =>
    intro hj
    cases hc : listed.getD j false with
    | true => rfl
    | false =>
      exfalso
      have ho : ops[j]? = some ops[j] := List.getElem?_eq_getElem hj
      have : j ∈ Region.ready .any ops.toArray listed := by
        rw [mem_ready]
        refine ⟨?_, ops[j], by simp, fun e he hb => ?_⟩
        · have : j < listed.size := by rw [h.len]; exact hj
          rw [Array.getD_eq_getD_getElem?, Array.getElem?_eq_getElem this] at hc ⊢
          exact hc
        · have hlt := lowB_spec hlow ho he hb
          exact ih e.on hlt (by omega)
      rw [hr] at this
      cases this

theorem noSelect_at (h : Region.noSelect ops.toArray = true) {i : Nat} {o : Oper} (hi : ops[i]? = some o) (cs : Array SelectCase) (b : Bool) : o.op ≠ .select cs b :=
  Region.noSelect_spec h i o cs b (by simpa using hi)

theorem flow_wp {Φ : List Fact} (hT : T.Ok) (hck : flowB T ops a0.tmps.size = true) (hlen : Φ.length = ops.length) (hok : ∀ (k : Nat) o φ, ops[k]? = some o → Φ[k]? = some φ → OpOk P T w0 a0 ops (tab ops (Φ.take k)) k o φ)
    (hend : Flow P T w0 a0 ops Q (tab ops Φ) 0 []) : ∀ (fuel : Nat) (listed : Array Bool) (a : Act) (W : World), Midst T w0 a0 ops Φ listed a W → (∀ j, listed.getD j true = false → j < ops.length) → (fuel = 0 → Region.ready .any ops.toArray listed = []) →
      ((listed.toList.filter (!·)).length ≤ fuel) → wpAny P .any ops.toArray Q fuel listed a W := by
  simp only [flowB, Bool.and_eq_true] at hck
  obtain ⟨hns, hlow, hsz, hdi, hdp, hdd⟩ := hck
  have hdead : ∀ i j, T.hard.contains i = true → T.soft.contains j = true → deadB ops (ancs ops) i j = true := fun i j hi hj => List.all_eq_true.1 (List.all_eq_true.1 hdd i (by simpa using hi)) j (by simpa using hj)
  have hk : ∀ (j : Nat) φ, Φ[j]? = some φ → Keeps T.R φ ∧ (T.soft.contains j = true ∨ Keeps T.H φ) := fun j φ hφ => by
    have hjl : j < ops.length := by rw [← hlen]; exact (List.getElem?_eq_some_iff.1 hφ).1
    have h1 := hok j ops[j] φ (List.getElem?_eq_getElem hjl) hφ
    exact ⟨h1.keeps, h1.firm⟩
  have fin : ∀ listed a W, Midst T w0 a0 ops Φ listed a W → Region.ready .any ops.toArray listed = [] → Q .normal a W := by
    intro listed a W h hr
    have hall := midst_end hlow h hr
    have h1 := hend (fun t => a.eval (.tmp t)) W h.rel (fun t φ ht hsoft => by
      obtain ⟨j, o, ho, hd, hφ⟩ := seek_some ht
      refine h.fact j o φ ho hφ (hall j (List.getElem?_eq_some_iff.1 ho).1) t hd ?_
      cases hc : T.soft.contains j with
      | false => exact .inl rfl
      | true =>
        cases hl : lastB T ops j with
        | true => exact .inr (.inr rfl)
        | false =>
          have : softAt T ops t = true := List.any_eq_true.2 ⟨j, by simpa using hc, by simp [ho, hd, hl]⟩
          rw [this] at hsoft; cases hsoft)
    rw [putAll_eq ops a0 a h.defers h.size (fun t ht => h.out t fun j o ho _ => ht j o ho)] at h1
    exact h1
  intro fuel
  induction fuel with
  | zero => intro listed a W h _ hf _; exact ⟨hf rfl, fin listed a W h (hf rfl)⟩
  | succ fuel ih =>
    intro listed a W h hj _ hcount
    refine ⟨fin listed a W h, fun i hi => ?_⟩
    obtain ⟨hun, o, ho, hall⟩ := mem_ready.1 hi
    have hi' : ops[i]? = some o := by simpa using ho
    have hil : i < ops.length := (List.getElem?_eq_some_iff.1 hi').1
    obtain ⟨φ, hφ⟩ : ∃ φ, Φ[i]? = some φ := ⟨Φ[i]'(by omega), List.getElem?_eq_getElem (by omega)⟩
    have hop := hok i o φ hi' hφ
    have hfs : ∀ t, t ∈ o.looksAt ops.toArray → factOf a0 (tab ops (Φ.take i)) (.tmp t) (a.eval (.tmp t)) W := fun t ht => midst_facts hdp hlen h hi' (getD_ff hun) hall ht
    have hsize : i < listed.size := by rw [h.len]; exact hil
    have hfalse : listed[i] = false := by simpa [Array.getD, hsize] using hun
    have next : ∀ v W', T.by_ i W W' → φ v W' → wpAny P .any ops.toArray Q fuel (listed.setIfInBounds i true) (a.put o.dst v) W' := by
      intro v W' hW hv
      have hm := midst_step hT hk hdead hsz hdi h hi' (getD_ff hun) hφ hall hW hv
      have hcnt : ((listed.setIfInBounds i true).toList.filter (!·)).length + 1 = (listed.toList.filter (!·)).length := by
        rw [Array.toList_setIfInBounds]
        have hli : listed.toList[i]? = some false := by simp [hsize, hfalse]
        generalize listed.toList = l at hli
        clear hcount hfalse hsize hi hil hun ho hall hi' hφ hop hfs hm hW hv
        induction l generalizing i with
        | nil => simp at hli
        | cons x xs ih =>
          cases i with
          | zero => simp only [List.getElem?_cons_zero, Option.some.injEq] at hli; subst hli; simp
          | succ i =>
            have := ih (i := i) (by simpa using hli)
            cases x <;> simp <;> omega
      refine ih _ _ _ hm (fun j hj' => ?_) (fun h0 => ?_) (by omega)
      · rcases Nat.lt_or_ge j ops.length with hlt | hge
        · exact hlt
        · have : (listed.setIfInBounds i true).size ≤ j := by rw [Array.size_setIfInBounds, h.len]; exact hge
          simp [Array.getElem?_eq_none this] at hj'
      · -- nothing is left
        have hz : ((listed.setIfInBounds i true).toList.filter (!·)).length = 0 := by omega
        rw [List.length_eq_zero_iff, List.filter_eq_nil_iff] at hz
        rw [List.eq_nil_iff_forall_not_mem]
        intro j hjr
        obtain ⟨hjun, _⟩ := mem_ready.1 hjr
        have hjs : j < (listed.setIfInBounds i true).size := by
          rcases Nat.lt_or_ge j (listed.setIfInBounds i true).size with hlt | hge
          · exact hlt
          · simp [Array.getElem?_eq_none hge] at hjun
        have hb : (listed.setIfInBounds i true)[j] = false := by
          rw [Array.getD_eq_getD_getElem?, Array.getElem?_eq_getElem hjs] at hjun
          exact hjun
        have := hz _ (Array.getElem_mem_toList hjs)
        rw [hb] at this
        simp at this
    unfold wpOp
    simp only [ho]
    rcases hop.does with ⟨hg, hdo⟩ | ⟨hg, he⟩ | ⟨φg, hg, hdo⟩ | ⟨φg, hg, he⟩ | ⟨hg, hearly, hdo⟩
    · rw [guard_of hg hfs, if_pos rfl]
      refine .inl ?_
      have hev : EvOk a.eval := ⟨fun _ => rfl, fun _ => rfl, fun _ => rfl⟩
      have h1 := hdo a.eval W hev h.rel (midst_all hfs _ fun _ hx => hx)
      unfold Oper.wp
      generalize (execOp a.eval o).run P W = r at h1
      cases r with
      | ok n w' =>
        cases n <;> simp only [Leaves] at h1 <;> simp only [Oper.upon]
        case value v => exact next v w' h1.1 h1.2
        case skip => exact next undef w' h1.1 h1.2
        case enter f args =>
          refine h1.mono fun e w'' he => ?_
          obtain ⟨v, rfl, h2, h3⟩ := he
          exact next v w'' h2 h3
      | halt x w' => exact h1.elim
    · rw [hg.elim (fun hg => guard_of hg hfs) (fun hg => guard_un hg hfs)]
      simp only [Bool.false_eq_true, if_false]
      refine next undef W ?_ (by rw [he]; rfl)
      unfold Turns.by_
      split
      · exact hT.sub _ _ (hT.refl W)
      · exact hT.refl W
    · obtain ⟨hw, gv, hgv⟩ := guard_says hg hfs
      rw [hw, if_pos rfl]
      refine .inl ?_
      have hev : EvOk a.eval := ⟨fun _ => rfl, fun _ => rfl, fun _ => rfl⟩
      have h1 := hdo a.eval W gv hev h.rel hgv (midst_all hfs _ fun _ hx => hx)
      unfold Oper.wp
      generalize (execOp a.eval o).run P W = r at h1
      cases r with
      | ok n w' =>
        cases n <;> simp only [Leaves] at h1 <;> simp only [Oper.upon]
        case value v => exact next v w' h1.1 h1.2
        case skip => exact next undef w' h1.1 h1.2
        case enter f args =>
          refine h1.mono fun e w'' he => ?_
          obtain ⟨v, rfl, h2, h3⟩ := he
          exact next v w'' h2 h3
      | halt x w' => exact h1.elim
    · rw [(guard_says hg hfs).1]
      simp only [Bool.false_eq_true, if_false]
      refine next undef W ?_ (by rw [he]; rfl)
      unfold Turns.by_
      split
      · exact hT.sub _ _ (hT.refl W)
      · exact hT.refl W
    · rw [guard_of hg hfs, if_pos rfl]
      refine .inl ?_
      have hev : EvOk a.eval := ⟨fun _ => rfl, fun _ => rfl, fun _ => rfl⟩
      have hst : Star T.R w0 W := h.early fun j hj => by
        have h2 := List.all_eq_true.1 hearly j (by simpa using hj)
        rcases (Bool.or_eq_true _ _).mp h2 with h3 | h3
        · rw [Nat.eq_of_beq_eq_true h3]; exact getD_ff hun
        · cases hc : listed.getD j false with
          | false => rfl
          | true =>
            have := h.anc hc h3
            rw [getD_ff hun] at this; cases this
      have h1 := hdo a.eval W hev hst (midst_all hfs _ fun _ hx => hx)
      unfold Oper.wp
      generalize (execOp a.eval o).run P W = r at h1
      cases r with
      | ok n w' =>
        cases n <;> simp only [Leaves] at h1 <;> simp only [Oper.upon]
        case value v => exact next v w' h1.1 h1.2
        case skip => exact next undef w' h1.1 h1.2
        case enter f args =>
          refine h1.mono fun e w'' he => ?_
          obtain ⟨v, rfl, h2, h3⟩ := he
          exact next v w'' h2 h3
      | halt x w' => exact h1.elim


/-- **A region that draws its order, operation by operation.** -/
theorem wp_flow {id : Nat} {a : Act} {w : World} {l : List Oper} {Q : Exit → Act → World → Prop} (hm : P.follows .mixedOrders = true) (T : Turns) (hT : T.Ok) (hck : flowB T l a.tmps.size = true)
    (h : Flow P T w.drew a l Q [] 0 l) : (Code.region id l.toArray true).wp P Q a w := by
  obtain ⟨Ψ, hlen, hok, hend⟩ := flow_all (ops := l) (Φ := []) (rest := l) (fun j => by simp) (by
    have : tab l [] = [] := by cases l <;> rfl
    rw [this]; exact h)
  simp only [List.nil_append, List.length_nil, Nat.zero_add] at hok hend
  refine wp_region_any hm ?_
  have hz : ∀ (n j : Nat), (Array.replicate n false).getD j false = false := fun n j => by
    rw [Array.getD_eq_getD_getElem?]
    rcases Nat.lt_or_ge j n with hlt | hge
    · rw [Array.getElem?_replicate, if_pos hlt]; rfl
    · rw [Array.getElem?_eq_none (by simpa using hge)]; rfl
  have hno : ∀ (n j : Nat) {C : Prop}, (Array.replicate n false).getD j false = true → C := fun n j C hc => by rw [hz] at hc; cases hc
  refine flow_wp (ops := l) hT hck hlen hok (hend 0) _ _ a _ ⟨by simp, hT.sub _ _ (hT.refl _), fun _ => .refl _, rfl, rfl, fun t _ => rfl, fun j o φ _ _ hl => hno _ _ hl, fun j o _ hl => hno _ _ hl⟩ (fun j hj => ?_) (fun h0 => ?_) (by simp)
  · rcases Nat.lt_or_ge j l.length with hlt | hge
    · exact hlt
    · rw [Array.getD_eq_getD_getElem?, Array.getElem?_eq_none (by simpa using hge)] at hj; cases hj
  · have hl0 : l = [] := List.eq_nil_of_length_eq_zero (by simpa using h0)
    subst hl0
    rfl

end sound

section steps
variable {P : Program} {T : Turns} {w0 : World} {a0 : Act} {ops : List Oper} {Q : Exit → Act → World → Prop} {F : Said} {k : Nat} {o : Oper} {rest : List Oper}

/-- One operation, whatever it is. -/
theorem flow_op (φ : Fact) (hk : Keeps T.R φ) (hf : T.soft.contains k = true ∨ Keeps T.H φ) (hg : guardIs ops F true o) (hd : ∀ ev W, EvOk ev → T.H w0 W → allFacts a0 F ev W o.op.operands.toList → Leaves P (T.by_ k) φ W ((execOp ev o).run P W))
    (h : Flow P T w0 a0 ops Q ((o.dst, φ) :: F) (k + 1) rest) : Flow P T w0 a0 ops Q F k (o :: rest) := ⟨φ, ⟨hk, hf, .inl ⟨hg, hd⟩⟩, h⟩
theorem flow_skip (hg : guardIs ops F false o) (h : Flow P T w0 a0 ops Q ((o.dst, isV undef) :: F) (k + 1) rest) : Flow P T w0 a0 ops Q F k (o :: rest) := ⟨isV undef, ⟨keeps_isV _, .inr (keeps_isV _), .inr (.inl ⟨.inl hg, rfl⟩)⟩, h⟩
theorem flow_skip_un (hg : guardUn ops F o) (h : Flow P T w0 a0 ops Q ((o.dst, isV undef) :: F) (k + 1) rest) : Flow P T w0 a0 ops Q F k (o :: rest) := ⟨isV undef, ⟨keeps_isV _, .inr (keeps_isV _), .inr (.inl ⟨.inr hg, rfl⟩)⟩, h⟩

/-- One operation, whatever it is, that may use what is said of its guard. -/
theorem flow_opg (φ φg : Fact) (hk : Keeps T.R φ) (hf : T.soft.contains k = true ∨ Keeps T.H φ) (hg : guardSays ops F φg true o) (hd : ∀ ev W gv, EvOk ev → T.H w0 W → φg gv W → allFacts a0 F ev W o.op.operands.toList → Leaves P (T.by_ k) φ W ((execOp ev o).run P W))
    (h : Flow P T w0 a0 ops Q ((o.dst, φ) :: F) (k + 1) rest) : Flow P T w0 a0 ops Q F k (o :: rest) := ⟨φ, ⟨hk, hf, .inr (.inr (.inl ⟨φg, hg, hd⟩))⟩, h⟩
theorem flow_skipg (φg : Fact) (hg : guardSays ops F φg false o) (h : Flow P T w0 a0 ops Q ((o.dst, isV undef) :: F) (k + 1) rest) : Flow P T w0 a0 ops Q F k (o :: rest) := ⟨isV undef, ⟨keeps_isV _, .inr (keeps_isV _), .inr (.inr (.inr (.inl ⟨φg, hg, rfl⟩)))⟩, h⟩
/-- One operation ahead of all that is hard, or the first hard one: what was there at the region's beginning is still there. -/
theorem flow_early (φ : Fact) (hk : Keeps T.R φ) (hf : T.soft.contains k = true ∨ Keeps T.H φ) (hg : guardIs ops F true o) (he : earlyB T ops k = true) (hd : ∀ ev W, EvOk ev → Star T.R w0 W → allFacts a0 F ev W o.op.operands.toList → Leaves P (T.by_ k) φ W ((execOp ev o).run P W))
    (h : Flow P T w0 a0 ops Q ((o.dst, φ) :: F) (k + 1) rest) : Flow P T w0 a0 ops Q F k (o :: rest) := ⟨φ, ⟨hk, hf, .inr (.inr (.inr (.inr ⟨hg, he, hd⟩)))⟩, h⟩

/-- The n-th of a list. -/
def nth : List Value → Nat → Option Value
  | x :: _, 0 => some x
  | _ :: xs, n + 1 => nth xs n
  | [], _ => none
theorem nth_eq : ∀ (l : List Value) (n : Nat), nth l n = l[n]?
  | [], _ => by simp [nth]
  | x :: xs, 0 => rfl
  | x :: xs, n + 1 => by simp only [nth, nth_eq xs n, List.getElem?_cons_succ]
/-- An operand whose value is known. -/
inductive Det (a0 : Act) (F : Said) : Operand → Value → Prop
  | inn {t : Tmp} {v : Value} (h : look F t = some (isV v)) : Det a0 F (.tmp t) v
  | out {t : Tmp} {v : Value} (h : look F t = none) (ht : nth a0.tmps.toList t = some v) : Det a0 F (.tmp t) v
  | const (v : Value) : Det a0 F (.const v) v
theorem Det.at {a0 : Act} {F : Said} {x : Operand} {v : Value} (h : Det a0 F x v) {u : Value} {W : World} (hf : factOf a0 F x u W) : u = v := by
  cases h with
  | inn h => simp only [factOf, h] at hf; exact hf
  | out h ht =>
    simp only [factOf, h] at hf
    have : u = a0.eval (.tmp _) := hf
    rw [this]
    rw [nth_eq, Array.getElem?_toList] at ht
    simp [Act.eval, ht]
  | const v => exact hf

theorem Turns.Ok.by_refl (hT : T.Ok) (k : Nat) (W : World) : T.by_ k W W := by
  unfold Turns.by_
  split
  · exact hT.sub _ _ (hT.refl W)
  · exact hT.refl W

/-- What is moved or assigned keeps what is said of it. -/
theorem flow_move {d : Option Tmp} {ty : TypeId} {pos : String} {af : Array Edge} {g : Option (Nat × Bool)} {t : Tmp} {φ : Fact} (hT : T.Ok) (hs : look F t = some φ) (hk : Keeps T.R φ) (hf : T.soft.contains k = true ∨ Keeps T.H φ)
    (hg : guardIs ops F true ⟨d, .move (.tmp t), ty, pos, af, g⟩) (h : Flow P T w0 a0 ops Q ((d, φ) :: F) (k + 1) rest) : Flow P T w0 a0 ops Q F k (⟨d, .move (.tmp t), ty, pos, af, g⟩ :: rest) := by
  refine ⟨φ, ⟨hk, hf, .inl ⟨hg, fun ev W _ _ hf => ?_⟩⟩, h⟩
  have h1 : φ (ev (.tmp t)) W := by
    have : factOf a0 F (.tmp t) (ev (.tmp t)) W := hf.1
    simpa only [factOf, hs] using this
  exact ⟨hT.by_refl k W, h1⟩
theorem flow_assign {d : Option Tmp} {ty : TypeId} {pos : String} {af : Array Edge} {g : Option (Nat × Bool)} {t : Tmp} {φ : Fact} (hT : T.Ok) (hs : look F t = some φ) (hk : Keeps T.R φ) (hf : T.soft.contains k = true ∨ Keeps T.H φ)
    (hg : guardIs ops F true ⟨d, .assign (.tmp t), ty, pos, af, g⟩) (h : Flow P T w0 a0 ops Q ((d, φ) :: F) (k + 1) rest) : Flow P T w0 a0 ops Q F k (⟨d, .assign (.tmp t), ty, pos, af, g⟩ :: rest) := by
  refine ⟨φ, ⟨hk, hf, .inl ⟨hg, fun ev W _ _ hf => ?_⟩⟩, h⟩
  have h1 : φ (ev (.tmp t)) W := by
    have : factOf a0 F (.tmp t) (ev (.tmp t)) W := hf.1
    simpa only [factOf, hs] using this
  exact ⟨hT.by_refl k W, h1⟩

/-- An operation over one, two, three known operands that leaves the world alone. -/
theorem flow1 {x : Operand} {v r : Value} (hT : T.Ok) (hop : o.op.operands = #[x]) (hx : Det a0 F x v) (hg : guardIs ops F true o) (hrun : ∀ ev W, EvOk ev → ev x = v → (execOp ev o).run P W = .ok (.value r) W)
    (h : Flow P T w0 a0 ops Q ((o.dst, isV r) :: F) (k + 1) rest) : Flow P T w0 a0 ops Q F k (o :: rest) :=
  flow_op (isV r) (keeps_isV r) (.inr (keeps_isV r)) hg (fun ev W he _ hf => by
    rw [hop] at hf
    rw [hrun ev W he (hx.at hf.1)]
    exact ⟨hT.by_refl k W, rfl⟩) h
theorem flow2 {x y : Operand} {v u r : Value} (hT : T.Ok) (hop : o.op.operands = #[x, y]) (hx : Det a0 F x v) (hy : Det a0 F y u) (hg : guardIs ops F true o) (hrun : ∀ ev W, EvOk ev → ev x = v → ev y = u → (execOp ev o).run P W = .ok (.value r) W)
    (h : Flow P T w0 a0 ops Q ((o.dst, isV r) :: F) (k + 1) rest) : Flow P T w0 a0 ops Q F k (o :: rest) :=
  flow_op (isV r) (keeps_isV r) (.inr (keeps_isV r)) hg (fun ev W he _ hf => by
    rw [hop] at hf
    rw [hrun ev W he (hx.at hf.1) (hy.at hf.2.1)]
    exact ⟨hT.by_refl k W, rfl⟩) h
theorem flow3 {x y z : Operand} {v u s r : Value} (hT : T.Ok) (hop : o.op.operands = #[x, y, z]) (hx : Det a0 F x v) (hy : Det a0 F y u) (hz : Det a0 F z s) (hg : guardIs ops F true o) (hrun : ∀ ev W, EvOk ev → ev x = v → ev y = u → ev z = s → (execOp ev o).run P W = .ok (.value r) W)
    (h : Flow P T w0 a0 ops Q ((o.dst, isV r) :: F) (k + 1) rest) : Flow P T w0 a0 ops Q F k (o :: rest) :=
  flow_op (isV r) (keeps_isV r) (.inr (keeps_isV r)) hg (fun ev W he _ hf => by
    rw [hop] at hf
    rw [hrun ev W he (hx.at hf.1) (hy.at hf.2.1) (hz.at hf.2.2.1)]
    exact ⟨hT.by_refl k W, rfl⟩) h

/-- .. and that looks at the world. -/
theorem flow1h {x : Operand} {v r : Value} (hT : T.Ok) (hop : o.op.operands = #[x]) (hx : Det a0 F x v) (hg : guardIs ops F true o) (hrun : ∀ ev W, EvOk ev → T.H w0 W → ev x = v → (execOp ev o).run P W = .ok (.value r) W)
    (h : Flow P T w0 a0 ops Q ((o.dst, isV r) :: F) (k + 1) rest) : Flow P T w0 a0 ops Q F k (o :: rest) :=
  flow_op (isV r) (keeps_isV r) (.inr (keeps_isV r)) hg (fun ev W he hW hf => by
    rw [hop] at hf
    rw [hrun ev W he hW (hx.at hf.1)]
    exact ⟨hT.by_refl k W, rfl⟩) h
theorem flow2h {x y : Operand} {v u r : Value} (hT : T.Ok) (hop : o.op.operands = #[x, y]) (hx : Det a0 F x v) (hy : Det a0 F y u) (hg : guardIs ops F true o) (hrun : ∀ ev W, EvOk ev → T.H w0 W → ev x = v → ev y = u → (execOp ev o).run P W = .ok (.value r) W)
    (h : Flow P T w0 a0 ops Q ((o.dst, isV r) :: F) (k + 1) rest) : Flow P T w0 a0 ops Q F k (o :: rest) :=
  flow_op (isV r) (keeps_isV r) (.inr (keeps_isV r)) hg (fun ev W he hW hf => by
    rw [hop] at hf
    rw [hrun ev W he hW (hx.at hf.1) (hy.at hf.2.1)]
    exact ⟨hT.by_refl k W, rfl⟩) h

/-- A Go function with a body. -/
def callsB (P : Program) (f : FuncId) : Bool := match P.funcs[f]? with
  | some fn => !(fn.name == "runtime.NumGoroutine") && fn.body.isSome
  | none => false
theorem run_call {ev : Operand → Value} (he : EvOk ev) {d : Option Tmp} {f : FuncId} (hf : callsB P f = true) {args : Array Operand} {ats : Array TypeId} {ty : TypeId} {pos : String} {af : Array Edge} {g : Option (Nat × Bool)} {W : World} :
    (execOp ev ⟨d, .call { callee := .value (.func f), args := args, argTypes := ats }, ty, pos, af, g⟩).run P W = .ok (.enter f (args.map ev)) W := by
  unfold callsB at hf
  cases hfn : P.funcs[f]? with
  | none => rw [hfn] at hf; cases hf
  | some fn =>
    rw [hfn] at hf
    simp only [Bool.and_eq_true, Bool.not_eq_true', beq_eq_false_iff_ne, ne_eq] at hf
    obtain ⟨h1, h2⟩ := hf
    obtain ⟨b, hb⟩ := Option.isSome_iff_exists.1 h2
    simp [execOp, resolve, he.func, Deferred.ofValue, invoke, callFunc, go_sem, hfn, h1, hb]
/-- A call of a Go function. -/
theorem flow_call {d : Option Tmp} {f : FuncId} {args : Array Operand} {ats : Array TypeId} {ty : TypeId} {pos : String} {af : Array Edge} {g : Option (Nat × Bool)} (φ : Fact) (hk : Keeps T.R φ) (hfm : T.soft.contains k = true ∨ Keeps T.H φ) (hf : callsB P f = true)
    (hg : guardIs ops F true ⟨d, .call { callee := .value (.func f), args := args, argTypes := ats }, ty, pos, af, g⟩)
    (hd : ∀ ev W, EvOk ev → T.H w0 W → allFacts a0 F ev W args.toList → Calls P f (args.toList.map ev).toArray W (fun e w'' => ∃ v, e = .returned v ∧ T.by_ k W w'' ∧ φ v w''))
    (h : Flow P T w0 a0 ops Q ((d, φ) :: F) (k + 1) rest) : Flow P T w0 a0 ops Q F k (⟨d, .call { callee := .value (.func f), args := args, argTypes := ats }, ty, pos, af, g⟩ :: rest) := by
  refine flow_op φ hk hfm hg (fun ev W he hW hfs => ?_) h
  rw [run_call he hf]
  have e0 : args.map ev = (args.toList.map ev).toArray := by cases args; rw [List.map_toArray]
  rw [e0]
  refine hd ev W he hW ?_
  have : allFacts a0 F ev W ((.func f : Operand) :: args.toList) := by
    have e : (Op.call { callee := .value (.func f), args := args, argTypes := ats }).operands.toList = (.func f : Operand) :: args.toList := by
      simp [Op.operands, Call.operands]
    rw [← e]; exact hfs
  exact this.2
/-- Operands that are all known. -/
inductive Dets (a0 : Act) (F : Said) : List Operand → List Value → Prop
  | nil : Dets a0 F [] []
  | cons {x : Operand} {v : Value} {xs : List Operand} {vs : List Value} (h : Det a0 F x v) (t : Dets a0 F xs vs) : Dets a0 F (x :: xs) (v :: vs)
theorem Dets.at {a0 : Act} {F : Said} {ev : Operand → Value} {W : World} : ∀ {xs : List Operand} {vs : List Value}, Dets a0 F xs vs → allFacts a0 F ev W xs → xs.map ev = vs
  | _, _, .nil, _ => rfl
  | _, _, .cons h t, hf => by rw [List.map_cons, h.at hf.1, t.at hf.2]
/-- A call whose arguments are known. -/
theorem flow_calld {d : Option Tmp} {f : FuncId} {args : Array Operand} {ats : Array TypeId} {ty : TypeId} {pos : String} {af : Array Edge} {g : Option (Nat × Bool)} {vals : List Value} (φ : Fact) (hk : Keeps T.R φ) (hfm : T.soft.contains k = true ∨ Keeps T.H φ) (hf : callsB P f = true)
    (hg : guardIs ops F true ⟨d, .call { callee := .value (.func f), args := args, argTypes := ats }, ty, pos, af, g⟩) (hargs : Dets a0 F args.toList vals)
    (hd : ∀ W, T.H w0 W → Calls P f vals.toArray W (fun e w'' => ∃ v, e = .returned v ∧ T.by_ k W w'' ∧ φ v w''))
    (h : Flow P T w0 a0 ops Q ((d, φ) :: F) (k + 1) rest) : Flow P T w0 a0 ops Q F k (⟨d, .call { callee := .value (.func f), args := args, argTypes := ats }, ty, pos, af, g⟩ :: rest) :=
  flow_call φ hk hfm hf hg (fun ev W _ hW hfs => by rw [hargs.at hfs]; exact hd W hW) h
/-- .. and whose answer is, too. -/
theorem flow_callv {d : Option Tmp} {f : FuncId} {args : Array Operand} {ats : Array TypeId} {ty : TypeId} {pos : String} {af : Array Edge} {g : Option (Nat × Bool)} {vals : List Value} (r : Value) (hf : callsB P f = true)
    (hg : guardIs ops F true ⟨d, .call { callee := .value (.func f), args := args, argTypes := ats }, ty, pos, af, g⟩) (hargs : Dets a0 F args.toList vals)
    (hd : ∀ W, T.H w0 W → Calls P f vals.toArray W (fun e w'' => e = .returned r ∧ T.by_ k W w''))
    (h : Flow P T w0 a0 ops Q ((d, isV r) :: F) (k + 1) rest) : Flow P T w0 a0 ops Q F k (⟨d, .call { callee := .value (.func f), args := args, argTypes := ats }, ty, pos, af, g⟩ :: rest) :=
  flow_calld (isV r) (keeps_isV r) (.inr (keeps_isV r)) hf hg hargs (fun W hW => (hd W hW).mono fun _ _ ⟨h1, h2⟩ => ⟨r, h1, h2, rfl⟩) h

/-- Moves of what came from ahead of the region. -/
theorem flow_move_out {d : Option Tmp} {ty : TypeId} {pos : String} {af : Array Edge} {g : Option (Nat × Bool)} {t : Tmp} {v : Value} (hT : T.Ok) (hs : look F t = none) (ht : nth a0.tmps.toList t = some v)
    (hg : guardIs ops F true ⟨d, .move (.tmp t), ty, pos, af, g⟩) (h : Flow P T w0 a0 ops Q ((d, isV v) :: F) (k + 1) rest) : Flow P T w0 a0 ops Q F k (⟨d, .move (.tmp t), ty, pos, af, g⟩ :: rest) :=
  flow1 (v := v) (r := v) hT rfl (.out hs ht) hg (fun ev W _ e => by simp [execOp, e, go_sem]) h
theorem flow_move_const {d : Option Tmp} {ty : TypeId} {pos : String} {af : Array Edge} {g : Option (Nat × Bool)} {v : Value} (hT : T.Ok)
    (hg : guardIs ops F true ⟨d, .move (.const v), ty, pos, af, g⟩) (h : Flow P T w0 a0 ops Q ((d, isV v) :: F) (k + 1) rest) : Flow P T w0 a0 ops Q F k (⟨d, .move (.const v), ty, pos, af, g⟩ :: rest) :=
  flow1 (v := v) (r := v) hT rfl (.const v) hg (fun ev W _ e => by simp [execOp, e, go_sem]) h
/-- 'a && b' behind a true a: b. -/
theorem flow_and {d : Option Tmp} {c t : Tmp} {z : Value} {ty : TypeId} {pos : String} {af : Array Edge} {g : Option (Nat × Bool)} {v : Value} (hT : T.Ok) (hc : look F c = some (isV (.bool true))) (ht : look F t = some (isV v))
    (hg : guardIs ops F true ⟨d, .pick (.tmp c) (.tmp t) (.const z), ty, pos, af, g⟩) (h : Flow P T w0 a0 ops Q ((d, isV v) :: F) (k + 1) rest) : Flow P T w0 a0 ops Q F k (⟨d, .pick (.tmp c) (.tmp t) (.const z), ty, pos, af, g⟩ :: rest) :=
  flow3 (v := .bool true) (u := v) (s := z) (r := v) hT rfl (.inn hc) (.inn ht) (.const z) hg (fun ev W _ e1 e2 e3 => by simp [execOp, e1, e2, e3, asBool, go_sem]) h
/-- 'a && b' behind a false a, 'a || b' behind a true one: the constant. -/
theorem flow_and_false {d : Option Tmp} {c t : Tmp} {z : Value} {ty : TypeId} {pos : String} {af : Array Edge} {g : Option (Nat × Bool)} {v : Value} (hT : T.Ok) (hc : look F c = some (isV (.bool false))) (ht : look F t = some (isV v))
    (hg : guardIs ops F true ⟨d, .pick (.tmp c) (.tmp t) (.const z), ty, pos, af, g⟩) (h : Flow P T w0 a0 ops Q ((d, isV z) :: F) (k + 1) rest) : Flow P T w0 a0 ops Q F k (⟨d, .pick (.tmp c) (.tmp t) (.const z), ty, pos, af, g⟩ :: rest) :=
  flow3 (v := .bool false) (u := v) (s := z) (r := z) hT rfl (.inn hc) (.inn ht) (.const z) hg (fun ev W _ e1 e2 e3 => by simp [execOp, e1, e2, e3, asBool, go_sem]) h
theorem flow_or_true {d : Option Tmp} {c t : Tmp} {z : Value} {ty : TypeId} {pos : String} {af : Array Edge} {g : Option (Nat × Bool)} {v : Value} (hT : T.Ok) (hc : look F c = some (isV (.bool true))) (ht : look F t = some (isV v))
    (hg : guardIs ops F true ⟨d, .pick (.tmp c) (.const z) (.tmp t), ty, pos, af, g⟩) (h : Flow P T w0 a0 ops Q ((d, isV z) :: F) (k + 1) rest) : Flow P T w0 a0 ops Q F k (⟨d, .pick (.tmp c) (.const z) (.tmp t), ty, pos, af, g⟩ :: rest) :=
  flow3 (v := .bool true) (u := z) (s := v) (r := z) hT rfl (.inn hc) (.const z) (.inn ht) hg (fun ev W _ e1 e2 e3 => by simp [execOp, e1, e2, e3, asBool, go_sem]) h
theorem flow_or_false {d : Option Tmp} {c t : Tmp} {z : Value} {ty : TypeId} {pos : String} {af : Array Edge} {g : Option (Nat × Bool)} {v : Value} (hT : T.Ok) (hc : look F c = some (isV (.bool false))) (ht : look F t = some (isV v))
    (hg : guardIs ops F true ⟨d, .pick (.tmp c) (.const z) (.tmp t), ty, pos, af, g⟩) (h : Flow P T w0 a0 ops Q ((d, isV v) :: F) (k + 1) rest) : Flow P T w0 a0 ops Q F k (⟨d, .pick (.tmp c) (.const z) (.tmp t), ty, pos, af, g⟩ :: rest) :=
  flow3 (v := .bool false) (u := z) (s := v) (r := v) hT rfl (.inn hc) (.const z) (.inn ht) hg (fun ev W _ e1 e2 e3 => by simp [execOp, e1, e2, e3, asBool, go_sem]) h
/-- '==' of what is the same. -/
theorem flow_eql {d : Option Tmp} {x y : Operand} {T1 T2 : TypeId} {ty : TypeId} {pos : String} {af : Array Edge} {g : Option (Nat × Bool)} {v : Value} (hT : T.Ok) (hx : Det a0 F x v) (hy : Det a0 F y v)
    (hrun : ∀ ev W, EvOk ev → ev x = v → ev y = v → (execOp ev ⟨d, .binOp .eql T1 x y T2, ty, pos, af, g⟩).run P W = .ok (.value (.bool true)) W)
    (hg : guardIs ops F true ⟨d, .binOp .eql T1 x y T2, ty, pos, af, g⟩) (h : Flow P T w0 a0 ops Q ((d, isV (.bool true)) :: F) (k + 1) rest) : Flow P T w0 a0 ops Q F k (⟨d, .binOp .eql T1 x y T2, ty, pos, af, g⟩ :: rest) :=
  flow2 (v := v) (u := v) (r := .bool true) hT rfl hx hy hg hrun h
/-- 'x[:hi]', 'x[lo:]', 'x[lo:hi]' of what is known. -/
theorem flow_slice_hi {d : Option Tmp} {t : TypeId} {x y : Operand} {ty : TypeId} {pos : String} {af : Array Edge} {g : Option (Nat × Bool)} {v u r : Value} (hT : T.Ok) (hx : Det a0 F x v) (hy : Det a0 F y u)
    (hrun : ∀ ev W, EvOk ev → ev x = v → ev y = u → (execOp ev ⟨d, .slice t x none (some y) none, ty, pos, af, g⟩).run P W = .ok (.value r) W)
    (hg : guardIs ops F true ⟨d, .slice t x none (some y) none, ty, pos, af, g⟩) (h : Flow P T w0 a0 ops Q ((d, isV r) :: F) (k + 1) rest) : Flow P T w0 a0 ops Q F k (⟨d, .slice t x none (some y) none, ty, pos, af, g⟩ :: rest) :=
  flow2 (x := x) (y := y) hT (by simp [Op.operands]) hx hy hg hrun h
theorem flow_slice_lo {d : Option Tmp} {t : TypeId} {x y : Operand} {ty : TypeId} {pos : String} {af : Array Edge} {g : Option (Nat × Bool)} {v u r : Value} (hT : T.Ok) (hx : Det a0 F x v) (hy : Det a0 F y u)
    (hrun : ∀ ev W, EvOk ev → ev x = v → ev y = u → (execOp ev ⟨d, .slice t x (some y) none none, ty, pos, af, g⟩).run P W = .ok (.value r) W)
    (hg : guardIs ops F true ⟨d, .slice t x (some y) none none, ty, pos, af, g⟩) (h : Flow P T w0 a0 ops Q ((d, isV r) :: F) (k + 1) rest) : Flow P T w0 a0 ops Q F k (⟨d, .slice t x (some y) none none, ty, pos, af, g⟩ :: rest) :=
  flow2 (x := x) (y := y) hT (by simp [Op.operands]) hx hy hg hrun h
theorem flow_slice_both {d : Option Tmp} {t : TypeId} {x y z : Operand} {ty : TypeId} {pos : String} {af : Array Edge} {g : Option (Nat × Bool)} {v u s r : Value} (hT : T.Ok) (hx : Det a0 F x v) (hy : Det a0 F y u) (hz : Det a0 F z s)
    (hrun : ∀ ev W, EvOk ev → ev x = v → ev y = u → ev z = s → (execOp ev ⟨d, .slice t x (some y) (some z) none, ty, pos, af, g⟩).run P W = .ok (.value r) W)
    (hg : guardIs ops F true ⟨d, .slice t x (some y) (some z) none, ty, pos, af, g⟩) (h : Flow P T w0 a0 ops Q ((d, isV r) :: F) (k + 1) rest) : Flow P T w0 a0 ops Q F k (⟨d, .slice t x (some y) (some z) none, ty, pos, af, g⟩ :: rest) :=
  flow3 (x := x) (y := y) (z := z) hT (by simp [Op.operands]) hx hy hz hg hrun h
end steps
end Go.Proofs.Ytafgpmempgoikaa
namespace Go.Proofs.Ytafgpmempgoikaa
open Go.RowKit
/-- What a law says of a call: true, and nothing old has turned. -/
def LawPost (w : World) (e : Ending) (w' : World) : Prop := e = .returned (.bool true) ∧ Chg [] w w'
/-- Every operation makes new blocks at most. -/
def plainT : Turns := ⟨Chg [], Chg [], [], []⟩
theorem plainT_ok : plainT.Ok := ⟨Chg.refl [], fun _ _ h => h, fun _ _ _ h k => h.trans k⟩
theorem plain_by (k : Nat) : plainT.by_ k = Chg [] := by unfold Turns.by_; split <;> rfl

/-- A value that is a row of the call's own. -/
def ownF (B : Nat) (e : TypeId) (xs : List Value) : Fact := fun v W => W.ownsRow B e 1 v xs.length xs
theorem keeps_own (B : Nat) (e : TypeId) (xs : List Value) : Keeps (Chg []) (ownF B e xs) := fun _ _ _ h hc => own_keep h hc

section
variable {P : Program} {T : Turns} {w0 : World} {a0 : Act} {ops : List Oper} {Q : Exit → Act → World → Prop} {F : Said} {k : Nat} {rest : List Oper}
  {d : Option Tmp} {ty : TypeId} {pos : String} {af : Array Edge} {g : Option (Nat × Bool)}
/-- 'string(b)' of an own row. -/
theorem flow_str {t : Tmp} {B : Nat} {e src dst : TypeId} {l : List UInt8} (hT : T.Ok) (hs : look F t = some (ownF B e (bts l))) (h1 : P.underlying src = some (.slice e)) (h2 : P.underlying e = some (.int .u8)) (h3 : P.underlying dst = some .string)
    (hg : guardIs ops F true ⟨d, .convert src dst (.tmp t), ty, pos, af, g⟩) (h : Flow P T w0 a0 ops Q ((d, isV (.string (strOf l))) :: F) (k + 1) rest) : Flow P T w0 a0 ops Q F k (⟨d, .convert src dst (.tmp t), ty, pos, af, g⟩ :: rest) := by
  refine flow_op _ (keeps_isV _) (.inr (keeps_isV _)) hg (fun ev W he hW hf => ?_) h
  have hf1 : factOf a0 F (.tmp t) (ev (.tmp t)) W := hf.1
  simp only [factOf, hs] at hf1
  obtain ⟨A, c, e1, hB, _⟩ := Bs.of_own (n := (bts l).length) hf1
  have hr := hB.str (P := P) src e dst h1 h2 h3
  simp only [execOp, e1, Sem.run_bind, hr, Result.andThen_ok, Sem.run_pure]
  exact ⟨hT.by_refl k W, rfl⟩
/-- .. of a slice that is known. -/
theorem flow_strd {x : Operand} {A : Option Addr} {n c : Nat} {e src dst : TypeId} {l : List UInt8} (hT : T.Ok) (hx : Det a0 F x (.slice A n c)) (hb : ∀ W, T.H w0 W → Bs W A n c l) (h1 : P.underlying src = some (.slice e)) (h2 : P.underlying e = some (.int .u8)) (h3 : P.underlying dst = some .string)
    (hg : guardIs ops F true ⟨d, .convert src dst x, ty, pos, af, g⟩) (h : Flow P T w0 a0 ops Q ((d, isV (.string (strOf l))) :: F) (k + 1) rest) : Flow P T w0 a0 ops Q F k (⟨d, .convert src dst x, ty, pos, af, g⟩ :: rest) := by
  refine flow_op _ (keeps_isV _) (.inr (keeps_isV _)) hg (fun ev W he hW hf => ?_) h
  have e1 := hx.at (show factOf a0 F x (ev x) W from hf.1)
  have hr := (hb W hW).str (P := P) src e dst h1 h2 h3
  simp only [execOp, e1, Sem.run_bind, hr, Result.andThen_ok, Sem.run_pure]
  exact ⟨hT.by_refl k W, rfl⟩
/-- len of a slice that is known. -/
theorem flow_lend {x : Operand} {A : Option Addr} {n c : Nat} {ats : Array TypeId} (hT : T.Ok) (hx : Det a0 F x (.slice A n c)) (hrun : ∀ ev W, EvOk ev → ev x = .slice A n c → (execOp ev ⟨d, .call { callee := .builtin .len, args := #[x], argTypes := ats }, ty, pos, af, g⟩).run P W = .ok (.value (.int .i64 (n : Int))) W)
    (hg : guardIs ops F true ⟨d, .call { callee := .builtin .len, args := #[x], argTypes := ats }, ty, pos, af, g⟩) (h : Flow P T w0 a0 ops Q ((d, isV (.int .i64 (n : Int))) :: F) (k + 1) rest) :
    Flow P T w0 a0 ops Q F k (⟨d, .call { callee := .builtin .len, args := #[x], argTypes := ats }, ty, pos, af, g⟩ :: rest) :=
  flow1 hT rfl hx hg hrun h
end
end Go.Proofs.Ytafgpmempgoikaa
namespace Go.Proofs.Ytafgpmempgoikaa
open Go.RowKit
theorem arg_u32 {a : Int} (h : (Lit.int .u32 a).wf = true) : ∃ k : Nat, a = k ∧ k < 4294967296 := by
  have hb : 0 ≤ a ∧ a ≤ 4294967295 := by simpa [Lit.wf, IntKind.min, IntKind.max, IntKind.signed, IntKind.bits] using h
  exact ⟨a.toNat, by omega, by omega⟩
theorem arg_u8 {a : Int} (h : (Lit.int .u8 a).wf = true) : ∃ x : UInt8, a = (x.toNat : Int) := by
  have hb : 0 ≤ a ∧ a ≤ 255 := by simpa [Lit.wf, IntKind.min, IntKind.max, IntKind.signed, IntKind.bits] using h
  exact ⟨UInt8.ofNat a.toNat, by rw [UInt8.toNat_ofNat']; omega⟩
theorem arg_i64 {a : Int} (h : (Lit.int .i64 a).wf = true) : -9223372036854775808 ≤ a ∧ a ≤ 9223372036854775807 := by
  simpa [Lit.wf, IntKind.min, IntKind.max, IntKind.signed, IntKind.bits] using h
theorem law_below {w : World} {e : Ending} {w' : World} (h : LawPost w e w') : e = .returned (.bool true) ∧ Below w.heap.size w w' := ⟨h.1, h.2.below0⟩
end Go.Proofs.Ytafgpmempgoikaa
namespace Go.Proofs.Ytafgpmempgoikaa
/-- An if or a loop that is open. -/
structure NPart where
  loop : Bool
  at_ : Nat
  waits : Nat
  left : List Nat
/-- The program's state: the innermost part first. -/
structure NSt where
  to : List Int
  deep : Nat
  op : List NPart
/-- The part that a ~ waits in. -/
def leaveP (i : Nat) : List NPart → Option (List NPart)
  | [] => none
  | p :: r => if p.loop = true then some (⟨p.loop, p.at_, p.waits, p.left ++ [i]⟩ :: r) else (leaveP i r).map (p :: ·)
def setAll (v : Int) : List Nat → List Int → List Int
  | [], t => t
  | j :: r, t => setAll v r (t.set j v)
def nTake (i : Nat) (s : Int) (m : NSt) : Option NSt :=
  if s = 63 ∨ s = 91 then
    if m.op.length + 1 ≤ 16 then some ⟨m.to, max m.deep (m.op.length + 1), ⟨decide (s = 91), i, i, []⟩ :: m.op⟩ else none
  else if s = 58 then match m.op with
    | p :: r => if p.loop = false ∧ p.waits = p.at_ then some ⟨m.to.set p.at_ ((i : Int) + 1), m.deep, ⟨p.loop, p.at_, i, p.left⟩ :: r⟩ else none
    | [] => none
  else if s = 59 then match m.op with
    | p :: r => if p.loop = false then some ⟨m.to.set p.waits (i : Int), m.deep, r⟩ else none
    | [] => none
  else if s = 93 then match m.op with
    | p :: r => if p.loop = true then some ⟨setAll ((i : Int) + 1) p.left (m.to.set i (p.at_ : Int)), m.deep, r⟩ else none
    | [] => none
  else if s = 126 then (leaveP i m.op).map fun o => ⟨m.to, m.deep, o⟩
  else some m
def nRun : Nat → List Int → NSt → Option NSt
  | _, [], m => some m
  | i, s :: r, m => (nTake i s ⟨m.to.set i (-1), m.deep, m.op⟩).bind (nRun (i + 1) r)
/-- The reference's state: where each open part's last sign lies. -/
structure RSt where
  to : List Int
  deep : Nat
  op : List Nat
def rTake (ss : List Int) (i : Nat) (s : Int) (m : RSt) : Option RSt :=
  if s = 63 ∨ s = 91 then
    if m.op.length + 1 ≤ 16 then some ⟨m.to, max m.deep (m.op.length + 1), i :: m.op⟩ else none
  else if s = 58 then match m.op with
    | p :: r => if ss[p]? = some 63 then some ⟨m.to.set p ((i : Int) + 1), m.deep, i :: r⟩ else none
    | [] => none
  else if s = 59 then match m.op with
    | p :: r => if ss[p]? = some 91 then none else some ⟨m.to.set p (i : Int), m.deep, r⟩
    | [] => none
  else if s = 93 then match m.op with
    | p :: r => if ss[p]? = some 91 then some ⟨m.to.set i (p : Int), m.deep, r⟩ else none
    | [] => none
  else some m
def rRun (ss : List Int) : Nat → List Int → RSt → Option RSt
  | _, [], m => some m
  | i, s :: r, m => (rTake ss i s ⟨m.to.set i (-1), m.deep, m.op⟩).bind (rRun ss (i + 1) r)
/-- What is open for the program, and for the reference. -/
structure Part (ss : List Int) (n : Nat) (p : NPart) : Prop where
  lt : p.at_ < n
  ltw : p.waits < n
  le : p.at_ ≤ p.waits
  loop : p.loop = true → p.waits = p.at_ ∧ ss[p.at_]? = some 91
  if_ : p.loop = false → ss[p.at_]? = some 63 ∧ (p.waits = p.at_ ∨ ss[p.waits]? = some 58)
theorem Part.more {ss : List Int} {n k : Nat} {p : NPart} (h : Part ss n p) (hk : n ≤ k) : Part ss k p := ⟨by have := h.lt; omega, by have := h.ltw; omega, h.le, h.loop, h.if_⟩
theorem Part.is_loop {ss : List Int} {n : Nat} {p : NPart} (h : Part ss n p) : ss[p.waits]? = some 91 ↔ p.loop = true := by
  constructor
  · intro h1
    cases hl : p.loop with
    | true => rfl
    | false =>
      obtain ⟨a, b | b⟩ := h.if_ hl
      · rw [b, a] at h1; cases h1
      · rw [b] at h1; cases h1
  · intro hl
    obtain ⟨a, b⟩ := h.loop hl
    rw [a, b]
theorem Part.is_if {ss : List Int} {n : Nat} {p : NPart} (h : Part ss n p) : ss[p.waits]? = some 63 ↔ (p.loop = false ∧ p.waits = p.at_) := by
  constructor
  · intro h1
    cases hl : p.loop with
    | true =>
      obtain ⟨a, b⟩ := h.loop hl
      rw [a, b] at h1; cases h1
    | false =>
      obtain ⟨a, b | b⟩ := h.if_ hl
      · exact ⟨rfl, b⟩
      · rw [b] at h1; cases h1
  · rintro ⟨hl, e⟩
    rw [e]; exact (h.if_ hl).1
theorem leaveP_some {i : Nat} : ∀ {l : List NPart}, (∃ p ∈ l, p.loop = true) → ∃ o, leaveP i l = some o := by
  intro l
  induction l with
  | nil => rintro ⟨p, h, _⟩; cases h
  | cons p r ih =>
    rintro ⟨q, hq, hl⟩
    unfold leaveP
    by_cases h : p.loop = true
    · exact ⟨_, if_pos h⟩
    · rw [if_neg h]
      have : ∃ q ∈ r, q.loop = true := by
        rcases List.mem_cons.1 hq with rfl | hq
        · exact absurd hl h
        · exact ⟨q, hq, hl⟩
      obtain ⟨o, ho⟩ := ih this
      exact ⟨p :: o, by rw [ho]; rfl⟩
theorem leaveP_split {i : Nat} : ∀ {l o : List NPart}, leaveP i l = some o → ∃ a p r, l = a ++ p :: r ∧ (∀ q ∈ a, q.loop = false) ∧ p.loop = true ∧ o = a ++ ⟨p.loop, p.at_, p.waits, p.left ++ [i]⟩ :: r := by
  intro l
  induction l with
  | nil => intro o h; cases h
  | cons p r ih =>
    intro o h
    unfold leaveP at h
    by_cases hp : p.loop = true
    · rw [if_pos hp] at h
      injection h with h
      exact ⟨[], p, r, rfl, (fun q hq => by cases hq), hp, h.symm⟩
    · rw [if_neg hp] at h
      cases hr : leaveP i r with
      | none => rw [hr] at h; cases h
      | some o' =>
        rw [hr] at h
        injection h with h
        obtain ⟨a, q, r', e1, e2, e3, e4⟩ := ih hr
        exact ⟨p :: a, q, r', by rw [e1]; rfl, fun x hx => by rcases List.mem_cons.1 hx with rfl | hx; exact (Bool.not_eq_true _).mp hp; exact e2 x hx, e3, by rw [← h, e4]; rfl⟩
theorem leaveP_none {i : Nat} : ∀ {l : List NPart}, leaveP i l = none → ∀ p ∈ l, p.loop = false := by
  intro l h p hp
  cases hl : p.loop with
  | false => rfl
  | true =>
    obtain ⟨o, ho⟩ := leaveP_some (i := i) ⟨p, hp, hl⟩
    rw [h] at ho; cases ho
/-- A ] whose part was opened ahead of place j, or not. -/
def Behind (ss : List Int) (t : List Int) (j a b : Nat) : Prop := ∀ k, j ≤ k → a ≤ k → k < b → ss[k]? = some 93 → ∃ v, t[k]? = some v ∧ (j : Int) ≤ v
structure Sim (ss : List Int) (n : Nat) (m : NSt) (r : RSt) : Prop where
  deep : m.deep = r.deep
  op : m.op.map (·.waits) = r.op
  lenM : m.to.length = ss.length
  lenR : r.to.length = ss.length
  parts : ∀ p ∈ m.op, Part ss n p
  desc : m.op.Pairwise fun p q => q.waits < p.at_
  same : ∀ j : Nat, ss[j]? ≠ some 126 → m.to[j]? = r.to[j]?
  pend : ∀ p ∈ m.op, ∀ j ∈ p.left, p.loop = true ∧ ss[j]? = some 126 ∧ p.waits < j ∧ j < n ∧ Behind ss r.to j 0 n ∧ ∀ q ∈ m.op, q.loop = true → p.at_ < q.at_ → j < q.at_
  done : ∀ j : Nat, j < n → ss[j]? = some 126 → (∃ p ∈ m.op, j ∈ p.left) ∨ ∃ k : Nat, j < k ∧ k < n ∧ m.to[j]? = some ((k : Int) + 1) ∧ ss[k]? = some 93 ∧ (∃ v, r.to[k]? = some v ∧ v < (j : Int)) ∧ Behind ss r.to j 0 k
theorem Behind.keep {ss t u : List Int} {j a b : Nat} (h : Behind ss t j a b) (hu : ∀ k : Nat, k < b → ss[k]? = some 93 → u[k]? = t[k]?) : Behind ss u j a b := fun k h1 h2 h3 h4 => by rw [hu k h3 h4]; exact h k h1 h2 h3 h4
theorem Behind.next {ss t : List Int} {j b : Nat} (h : Behind ss t j 0 b) (hb : ss[b]? = some 93 → ∃ v, t[b]? = some v ∧ (j : Int) ≤ v) : Behind ss t j 0 (b + 1) := fun k h1 h2 h3 h4 => by
  rcases Nat.lt_or_ge k b with hk | hk
  · exact h k h1 h2 hk h4
  · obtain rfl : k = b := by omega
    exact hb h4
/-- What no sign but ] changes. -/
theorem Sim.plain {ss : List Int} {n : Nat} {m : NSt} {r : RSt} (h : Sim ss n m r) {tm tr : List Int} {dm : Nat} {om : List NPart} (hn : ss[n]? ≠ some 93) (hn2 : ss[n]? ≠ some 126) (lm : tm.length = ss.length) (lr : tr.length = ss.length)
    (hsame : ∀ j : Nat, ss[j]? ≠ some 126 → tm[j]? = tr[j]?) (h9 : ∀ k : Nat, k < n → ss[k]? = some 93 → tr[k]? = r.to[k]?) (h6 : ∀ j : Nat, j < n → ss[j]? = some 126 → tm[j]? = m.to[j]?)
    (hparts : ∀ p ∈ om, Part ss (n + 1) p) (hdesc : om.Pairwise fun p q => q.waits < p.at_)
    (hleft : ∀ p ∈ om, p.left = [] ∨ ∃ p0 ∈ m.op, p0.left = p.left ∧ p0.loop = p.loop ∧ p0.at_ = p.at_ ∧ p0.waits = p.waits)
    (hleft2 : ∀ p ∈ m.op, p.left ≠ [] → ∃ p0 ∈ om, p0.left = p.left)
    (hloop : ∀ q ∈ om, q.loop = true → q.at_ = n ∨ ∃ q0 ∈ m.op, q0.loop = true ∧ q0.at_ = q.at_) :
    Sim ss (n + 1) ⟨tm, dm, om⟩ ⟨tr, dm, om.map (·.waits)⟩ where
  deep := rfl
  op := rfl
  lenM := lm
  lenR := lr
  parts := hparts
  desc := hdesc
  same := hsame
  pend := fun p hp j hj => by
    rcases hleft p hp with e | ⟨p0, hp0, e1, e2, e3, e4⟩
    · rw [e] at hj; cases hj
    · rw [← e1] at hj
      obtain ⟨a1, a2, a3, a4, a5, a6⟩ := h.pend p0 hp0 j hj
      refine ⟨by rw [← e2]; exact a1, a2, by omega, by omega, (a5.keep h9).next (fun h9' => absurd h9' hn), fun q hq hl hlt => ?_⟩
      rcases hloop q hq hl with e | ⟨q0, hq0, l0, e0⟩
      · omega
      · rw [← e0] at hlt ⊢
        exact a6 q0 hq0 l0 (by omega)
  done := fun j hj hs => by
    have hjn : j < n := by
      rcases Nat.lt_or_ge j n with hk | hk
      · exact hk
      · obtain rfl : j = n := by omega
        exact absurd hs hn2
    rcases h.done j hjn hs with ⟨p, hp, hj2⟩ | ⟨k, b1, b2, b3, b4, ⟨v, b5, b6⟩, b7⟩
    · obtain ⟨p0, hp0, e⟩ := hleft2 p hp (fun e => by rw [e] at hj2; cases hj2)
      exact .inl ⟨p0, hp0, by rw [e]; exact hj2⟩
    · exact .inr ⟨k, b1, by omega, by rw [h6 j hjn hs]; exact b3, b4, ⟨v, by rw [h9 k b2 b4]; exact b5, b6⟩, b7.keep (fun k' hk' h9' => h9 k' (by omega) h9')⟩
theorem setAll_len (v : Int) : ∀ (l : List Nat) (t : List Int), (setAll v l t).length = t.length
  | [], _ => rfl
  | j :: r, t => by show (setAll v r (t.set j v)).length = _; rw [setAll_len v r, List.length_set]
theorem setAll_not (v : Int) (j : Nat) : ∀ (l : List Nat) (t : List Int), j ∉ l → (setAll v l t)[j]? = t[j]?
  | [], _, _ => rfl
  | i :: r, t, h => by
    show (setAll v r (t.set i v))[j]? = _
    rw [setAll_not v j r _ (fun e => h (List.mem_cons_of_mem _ e)), List.getElem?_set_ne (fun e => h (by rw [e]; exact List.mem_cons_self ..))]
theorem setAll_mem (v : Int) (j : Nat) : ∀ (l : List Nat) (t : List Int), j ∈ l → j < t.length → (setAll v l t)[j]? = some v
  | i :: r, t, h, ht => by
    show (setAll v r (t.set i v))[j]? = _
    by_cases hr : j ∈ r
    · exact setAll_mem v j r _ hr (by rw [List.length_set]; exact ht)
    · rw [setAll_not v j r _ hr]
      rcases List.mem_cons.1 h with e | e
      · rw [e, List.getElem?_set_self (by rw [← e]; exact ht)]
      · exact absurd e hr
theorem same_set {ss a b : List Int} (h : ∀ j : Nat, ss[j]? ≠ some 126 → a[j]? = b[j]?) (hl : a.length = b.length) (i : Nat) (v : Int) : ∀ j : Nat, ss[j]? ≠ some 126 → (a.set i v)[j]? = (b.set i v)[j]? := fun j hj => by
  rw [List.getElem?_set, List.getElem?_set, hl, h j hj]
theorem keep_set {ss a : List Int} {i : Nat} {s v x : Int} (hi : ss[i]? = some x) (hx : x ≠ s) : ∀ k : Nat, ss[k]? = some s → (a.set i v)[k]? = a[k]? := fun k hk => by
  rw [List.getElem?_set_ne (fun e => by subst e; rw [hi] at hk; injection hk with hk; exact hx hk)]
theorem sim_step {ss : List Int} {n : Nat} {m : NSt} {r : RSt} {s : Int} (h : Sim ss n m r) (hs : ss[n]? = some s) :
    (∃ m' r', nTake n s ⟨m.to.set n (-1), m.deep, m.op⟩ = some m' ∧ rTake ss n s ⟨r.to.set n (-1), r.deep, r.op⟩ = some r' ∧ Sim ss (n + 1) m' r') ∨
    (nTake n s ⟨m.to.set n (-1), m.deep, m.op⟩ = none ∧ rTake ss n s ⟨r.to.set n (-1), r.deep, r.op⟩ = none) ∨
    (s = 126 ∧ nTake n s ⟨m.to.set n (-1), m.deep, m.op⟩ = none ∧ ∀ p ∈ m.op, p.loop = false) := by
  have hop := h.op
  have hln : n < ss.length := by
    rcases Nat.lt_or_ge n ss.length with hk | hk
    · exact hk
    · rw [List.getElem?_eq_none hk] at hs; cases hs
  have hlen : r.op.length = m.op.length := by rw [← hop, List.length_map]
  have lmr : m.to.length = r.to.length := by rw [h.lenM, h.lenR]
  have hs0 := same_set h.same lmr n (-1)
  have lm0 : (m.to.set n (-1)).length = ss.length := by rw [List.length_set, h.lenM]
  have lr0 : (r.to.set n (-1)).length = ss.length := by rw [List.length_set, h.lenR]
  have k0 : ∀ (t : List Int) (k : Nat), k < n → (t.set n (-1))[k]? = t[k]? := fun t k hk => List.getElem?_set_ne (by omega)
  have hdp := h.deep
  obtain ⟨mt, md, mo⟩ := m
  obtain ⟨rt, rd, ro⟩ := r
  simp only at *
  subst hdp hop
  unfold nTake rTake
  simp only
  by_cases c1 : s = 63 ∨ s = 91
  · rw [if_pos c1, if_pos c1, hlen]
    by_cases c2 : mo.length + 1 ≤ 16
    · rw [if_pos c2, if_pos c2]
      refine .inl ⟨_, _, rfl, rfl, ?_⟩
      have h93 : ss[n]? ≠ some 93 := by rw [hs]; intro e; injection e with e; omega
      have h126 : ss[n]? ≠ some 126 := by rw [hs]; intro e; injection e with e; omega
      refine h.plain h93 h126 lm0 lr0 hs0 (fun k hk _ => k0 rt k hk) (fun j hj _ => k0 mt j hj) ?_ ?_ ?_ ?_ ?_
      · intro p hp
        rcases List.mem_cons.1 hp with rfl | hp
        · refine ⟨by simp only; omega, by simp only; omega, Nat.le_refl _, fun hl => ⟨rfl, ?_⟩, fun hl => ⟨?_, .inl rfl⟩⟩
          · have : s = 91 := of_decide_eq_true hl
            rw [hs, this]
          · have : ¬ s = 91 := of_decide_eq_false hl
            have : s = 63 := by omega
            rw [hs, this]
        · exact (h.parts p hp).more (by omega)
      · refine List.pairwise_cons.2 ⟨fun q hq => ?_, h.desc⟩
        exact (h.parts q hq).ltw
      · intro p hp
        rcases List.mem_cons.1 hp with rfl | hp
        · exact .inl rfl
        · exact .inr ⟨p, hp, rfl, rfl, rfl, rfl⟩
      · exact fun p hp _ => ⟨p, List.mem_cons_of_mem _ hp, rfl⟩
      · intro q hq hl
        rcases List.mem_cons.1 hq with rfl | hq
        · exact .inl rfl
        · exact .inr ⟨q, hq, hl, rfl⟩
    · rw [if_neg c2, if_neg c2]
      exact .inr (.inl ⟨rfl, rfl⟩)
  · rw [if_neg c1, if_neg c1]
    by_cases c3 : s = 58
    · rw [if_pos c3, if_pos c3]
      subst c3
      cases mo with
      | nil => exact .inr (.inl ⟨rfl, rfl⟩)
      | cons p o =>
        have hP := h.parts p (List.mem_cons_self ..)
        simp only [List.map_cons]
        by_cases c4 : p.loop = false ∧ p.waits = p.at_
        · rw [if_pos c4, if_pos (hP.is_if.2 c4), c4.2]
          refine .inl ⟨_, _, rfl, rfl, ?_⟩
          have hp63 := (hP.if_ c4.1).1
          refine h.plain (by rw [hs]; decide) (by rw [hs]; decide) (by rw [List.length_set]; exact lm0) (by rw [List.length_set]; exact lr0) (same_set hs0 (by rw [lm0, lr0]) _ _) (fun k hk h9 => by rw [keep_set hp63 (by decide) k h9, k0 rt k hk]) (fun j hj h6 => by rw [keep_set hp63 (by decide) j h6, k0 mt j hj]) ?_ ?_ ?_ ?_ ?_
          · intro q hq
            rcases List.mem_cons.1 hq with rfl | hq
            · exact ⟨by have := hP.lt; simp only; omega, by simp only; omega, by have := hP.lt; simp only; omega, (fun hl => by simp only at hl; rw [c4.1] at hl; cases hl), fun _ => ⟨hp63, .inr hs⟩⟩
            · exact (h.parts q (List.mem_cons_of_mem _ hq)).more (by omega)
          · have := List.pairwise_cons.1 h.desc
            exact List.pairwise_cons.2 ⟨fun q hq => this.1 q hq, this.2⟩
          · intro q hq
            rcases List.mem_cons.1 hq with rfl | hq
            · refine .inl ?_
              simp only
              cases hl : p.left with
              | nil => rfl
              | cons j l =>
                have := (h.pend p (List.mem_cons_self ..) j (by rw [hl]; exact List.mem_cons_self ..)).1
                rw [c4.1] at this; cases this
            · exact .inr ⟨q, List.mem_cons_of_mem _ hq, rfl, rfl, rfl, rfl⟩
          · intro q hq _
            rcases List.mem_cons.1 hq with rfl | hq
            · exact ⟨_, List.mem_cons_self .., rfl⟩
            · exact ⟨q, List.mem_cons_of_mem _ hq, rfl⟩
          · intro q hq hl
            rcases List.mem_cons.1 hq with rfl | hq
            · simp only at hl; rw [c4.1] at hl; cases hl
            · exact .inr ⟨q, List.mem_cons_of_mem _ hq, hl, rfl⟩
        · rw [if_neg c4, if_neg (fun e => c4 (hP.is_if.1 e))]
          exact .inr (.inl ⟨rfl, rfl⟩)
    · rw [if_neg c3, if_neg c3]
      by_cases c5 : s = 59
      · rw [if_pos c5, if_pos c5]
        subst c5
        cases mo with
        | nil => exact .inr (.inl ⟨rfl, rfl⟩)
        | cons p o =>
          have hP := h.parts p (List.mem_cons_self ..)
          simp only [List.map_cons]
          by_cases c6 : p.loop = false
          · rw [if_pos c6, if_neg (fun e => by have := hP.is_loop.1 e; rw [c6] at this; cases this)]
            refine .inl ⟨_, _, rfl, rfl, ?_⟩
            have hw : ∃ x, ss[p.waits]? = some x ∧ x ≠ 93 ∧ x ≠ 126 := by
              obtain ⟨a, b | b⟩ := hP.if_ c6
              · exact ⟨63, by rw [b, a], by decide, by decide⟩
              · exact ⟨58, b, by decide, by decide⟩
            obtain ⟨x, hw, x1, x2⟩ := hw
            refine h.plain (by rw [hs]; decide) (by rw [hs]; decide) (by rw [List.length_set]; exact lm0) (by rw [List.length_set]; exact lr0) (same_set hs0 (by rw [lm0, lr0]) _ _) (fun k hk h9 => by rw [keep_set hw x1 k h9, k0 rt k hk]) (fun j hj h6 => by rw [keep_set hw x2 j h6, k0 mt j hj]) ?_ ?_ ?_ ?_ ?_
            · exact fun q hq => (h.parts q (List.mem_cons_of_mem _ hq)).more (by omega)
            · exact (List.pairwise_cons.1 h.desc).2
            · exact fun q hq => .inr ⟨q, List.mem_cons_of_mem _ hq, rfl, rfl, rfl, rfl⟩
            · intro q hq hne
              rcases List.mem_cons.1 hq with rfl | hq
              · exfalso
                cases hl : q.left with
                | nil => exact hne hl
                | cons j l =>
                  have := (h.pend q (List.mem_cons_self ..) j (by rw [hl]; exact List.mem_cons_self ..)).1
                  rw [c6] at this; cases this
              · exact ⟨q, hq, rfl⟩
            · exact fun q hq hl => .inr ⟨q, List.mem_cons_of_mem _ hq, hl, rfl⟩
          · have c7 : p.loop = true := (Bool.not_eq_false _).mp c6
            rw [if_neg c6, if_pos (hP.is_loop.2 c7)]
            exact .inr (.inl ⟨rfl, rfl⟩)
      · rw [if_neg c5, if_neg c5]
        by_cases c8 : s = 93
        · rw [if_pos c8, if_pos c8]
          subst c8
          cases mo with
          | nil => exact .inr (.inl ⟨rfl, rfl⟩)
          | cons p o =>
            have hP := h.parts p (List.mem_cons_self ..)
            simp only [List.map_cons]
            by_cases c9 : p.loop = true
            · rw [if_pos c9, if_pos (hP.is_loop.2 c9), (hP.loop c9).1]
              refine .inl ⟨_, _, rfl, rfl, ?_⟩
              have hd := List.pairwise_cons.1 h.desc
              have hpl := fun j hj => h.pend p (List.mem_cons_self ..) j hj
              have hr9 : ∀ k : Nat, k < n → ss[k]? = some 93 → ((rt.set n (-1)).set n (p.at_ : Int))[k]? = rt[k]? := fun k hk _ => by
                rw [List.getElem?_set_ne (by omega), k0 rt k hk]
              have hrn : ((rt.set n (-1)).set n (p.at_ : Int))[n]? = some (p.at_ : Int) := List.getElem?_set_self (by rw [lr0]; exact hln)
              refine ⟨rfl, rfl, by rw [setAll_len, List.length_set]; exact lm0, by rw [List.length_set]; exact lr0, fun q hq => (h.parts q (List.mem_cons_of_mem _ hq)).more (by omega), hd.2, fun j hj => ?_, fun q hq j hj => ?_, fun j hj hj6 => ?_⟩
              · rw [setAll_not _ _ _ _ (fun e => hj (hpl j e).2.1)]
                exact same_set hs0 (by rw [lm0, lr0]) _ _ j hj
              · obtain ⟨a1, a2, a3, a4, a5, a6⟩ := h.pend q (List.mem_cons_of_mem _ hq) j hj
                have hqp := hd.1 q hq
                have hqle := (h.parts q (List.mem_cons_of_mem _ hq)).le
                have := a6 p (List.mem_cons_self ..) c9 (by omega)
                exact ⟨a1, a2, a3, by omega, (a5.keep hr9).next (fun _ => ⟨_, hrn, by omega⟩), fun q' hq' hl' hlt' => a6 q' (List.mem_cons_of_mem _ hq') hl' hlt'⟩
              · have hjn : j < n := by
                  rcases Nat.lt_or_ge j n with hk | hk
                  · exact hk
                  · obtain rfl : j = n := by omega
                    rw [hs] at hj6; cases hj6
                by_cases hjp : j ∈ p.left
                · obtain ⟨a1, a2, a3, a4, a5, a6⟩ := hpl j hjp
                  have hle := hP.le
                  exact .inr ⟨n, hjn, by omega, setAll_mem _ _ _ _ hjp (by rw [List.length_set, lm0]; omega), hs, ⟨_, hrn, by omega⟩, a5.keep hr9⟩
                · rcases h.done j hjn hj6 with ⟨q, hq, hj2⟩ | ⟨k, b1, b2, b3, b4, ⟨v, b5, b6⟩, b7⟩
                  · rcases List.mem_cons.1 hq with rfl | hq
                    · exact absurd hj2 hjp
                    · exact .inl ⟨q, hq, hj2⟩
                  · refine .inr ⟨k, b1, by omega, ?_, b4, ⟨v, by rw [hr9 k b2 b4]; exact b5, b6⟩, b7.keep (fun k' hk' h9' => hr9 k' (by omega) h9')⟩
                    rw [setAll_not _ _ _ _ hjp, List.getElem?_set_ne (by omega), k0 mt j hjn]
                    exact b3
            · rw [if_neg c9, if_neg (fun e => c9 (hP.is_loop.1 e))]
              exact .inr (.inl ⟨rfl, rfl⟩)
        · rw [if_neg c8, if_neg c8]
          by_cases c10 : s = 126
          · rw [if_pos c10]
            subst c10
            cases hlv : leaveP n mo with
            | none => exact .inr (.inr ⟨rfl, rfl, leaveP_none hlv⟩)
            | some o =>
              obtain ⟨a, p, r0, e1, e2, e3, e4⟩ := leaveP_split hlv
              have hw : o.map (·.waits) = mo.map (·.waits) := by rw [e1, e4]; simp
              have hf : o.map (fun p => (p.at_, p.waits)) = mo.map (fun p => (p.at_, p.waits)) := by rw [e1, e4]; simp
              have hpm : p ∈ mo := by rw [e1]; simp
              have hP := h.parts p hpm
              have hin : ∀ q ∈ o, q = ⟨p.loop, p.at_, p.waits, p.left ++ [n]⟩ ∨ q ∈ mo := fun q hq => by
                rw [e4] at hq
                rw [e1]
                simp only [List.mem_append, List.mem_cons] at hq ⊢
                rcases hq with hq | hq | hq
                · exact .inr (.inl hq)
                · exact .inl hq
                · exact .inr (.inr (.inr hq))
              have hback : ∀ q ∈ mo, q = p ∨ q ∈ o := fun q hq => by
                rw [e1] at hq
                rw [e4]
                simp only [List.mem_append, List.mem_cons] at hq ⊢
                rcases hq with hq | hq | hq
                · exact .inr (.inl hq)
                · exact .inl hq
                · exact .inr (.inr (.inr hq))
              have hself : (⟨p.loop, p.at_, p.waits, p.left ++ [n]⟩ : NPart) ∈ o := by rw [e4]; simp
              have hr9 : ∀ k : Nat, k < n → ss[k]? = some 93 → (rt.set n (-1))[k]? = rt[k]? := fun k hk _ => k0 rt k hk
              have hn9 : ss[n]? ≠ some 93 := by rw [hs]; decide
              have hold : ∀ q ∈ o, q.loop = true → ∃ q0 ∈ mo, q0.loop = true ∧ q0.at_ = q.at_ := fun q hq hl => by
                rcases hin q hq with rfl | hq
                · exact ⟨p, hpm, e3, rfl⟩
                · exact ⟨q, hq, hl, rfl⟩
              have hpend : ∀ p0 ∈ mo, ∀ j ∈ p0.left, p0.loop = true ∧ ss[j]? = some 126 ∧ p0.waits < j ∧ j < n + 1 ∧ Behind ss (rt.set n (-1)) j 0 (n + 1) ∧ ∀ q ∈ o, q.loop = true → p0.at_ < q.at_ → j < q.at_ := fun p0 hp0 j hj => by
                obtain ⟨a1, a2, a3, a4, a5, a6⟩ := h.pend p0 hp0 j hj
                refine ⟨a1, a2, a3, by omega, (a5.keep hr9).next (fun h9 => absurd h9 hn9), fun q hq hl hlt => ?_⟩
                obtain ⟨q0, hq0, l0, e0⟩ := hold q hq hl
                rw [← e0] at hlt ⊢
                exact a6 q0 hq0 l0 hlt
              refine .inl ⟨⟨mt.set n (-1), md, o⟩, ⟨rt.set n (-1), md, mo.map (·.waits)⟩, rfl, rfl, ⟨rfl, hw, lm0, lr0, fun q hq => ?_, ?_, hs0, fun q hq j hj => ?_, fun j hj hj6 => ?_⟩⟩
              · rcases hin q hq with rfl | hq
                · have := hP.more (k := n + 1) (by omega)
                  exact ⟨this.lt, this.ltw, this.le, this.loop, this.if_⟩
                · exact (h.parts q hq).more (by omega)
              · have := h.desc
                have hR : (mo.map (fun p => (p.at_, p.waits))).Pairwise (fun a b => b.2 < a.1) := List.pairwise_map.2 this
                rw [← hf] at hR
                exact List.pairwise_map.1 hR
              · rcases hin q hq with rfl | hq
                · simp only [List.mem_append, List.mem_cons, List.not_mem_nil, or_false] at hj
                  rcases hj with hj | rfl
                  · exact hpend p hpm j hj
                  · refine ⟨e3, hs, hP.ltw, by omega, fun k h1 _ h3 h9 => ?_, fun q hq hl hlt => ?_⟩
                    · obtain rfl : k = j := by omega
                      exact absurd h9 hn9
                    · exfalso
                      rw [e4] at hq
                      simp only [List.mem_append, List.mem_cons] at hq
                      simp only at hlt
                      rcases hq with hq | rfl | hq
                      · rw [e2 q hq] at hl; cases hl
                      · simp only at hlt; omega
                      · have hd := h.desc
                        rw [e1] at hd
                        have := (List.pairwise_cons.1 (List.pairwise_append.1 hd).2.1).1 q hq
                        have hle := (h.parts q (by rw [e1]; simp [hq])).le
                        omega
                · exact hpend q hq j hj
              · rcases Nat.lt_or_ge j n with hjn | hjn
                · rcases h.done j hjn hj6 with ⟨q, hq, hj2⟩ | ⟨k, b1, b2, b3, b4, ⟨v, b5, b6⟩, b7⟩
                  · rcases hback q hq with rfl | hq
                    · exact .inl ⟨_, hself, by simp [hj2]⟩
                    · exact .inl ⟨q, hq, hj2⟩
                  · exact .inr ⟨k, b1, by omega, by rw [k0 mt j hjn]; exact b3, b4, ⟨v, by rw [hr9 k b2 b4]; exact b5, b6⟩, b7.keep (fun k' hk' h9' => hr9 k' (by omega) h9')⟩
                · obtain rfl : j = n := by omega
                  exact .inl ⟨_, hself, by simp⟩
          · rw [if_neg c10]
            refine .inl ⟨_, _, rfl, rfl, ?_⟩
            have h93 : ss[n]? ≠ some 93 := by rw [hs]; intro e; injection e with e; exact c8 e
            have h126 : ss[n]? ≠ some 126 := by rw [hs]; intro e; injection e with e; exact c10 e
            exact h.plain h93 h126 lm0 lr0 hs0 (fun k hk _ => k0 rt k hk) (fun j hj _ => k0 mt j hj) (fun q hq => (h.parts q hq).more (by omega)) h.desc (fun q hq => .inr ⟨q, hq, rfl, rfl, rfl, rfl⟩) (fun q hq _ => ⟨q, hq, rfl⟩) (fun q hq hl => .inr ⟨q, hq, hl, rfl⟩)
/-- A ~ at j that no loop is round: whatever comes, no ] behind it goes back ahead of it. -/
structure Dead (ss : List Int) (j n : Nat) (r : RSt) : Prop where
  lt : j < n
  len : r.to.length = ss.length
  open_ : ∀ w ∈ r.op, w < n ∧ (ss[w]? = some 63 ∨ ss[w]? = some 58 ∨ (ss[w]? = some 91 ∧ j < w))
  behind : Behind ss r.to j 0 n
theorem dead_step {ss : List Int} {j n : Nat} {r r' : RSt} {s : Int} (h : Dead ss j n r) (hs : ss[n]? = some s) (hr : rTake ss n s ⟨r.to.set n (-1), r.deep, r.op⟩ = some r') : Dead ss j (n + 1) r' := by
  have hln : n < ss.length := by
    rcases Nat.lt_or_ge n ss.length with hk | hk
    · exact hk
    · rw [List.getElem?_eq_none hk] at hs; cases hs
  have hjn := h.lt
  obtain ⟨rt, rd, ro⟩ := r
  have hlen := h.len
  have hop := h.open_
  have hb := h.behind
  simp only at hlen hop hb hr
  have k0 : ∀ (k : Nat), k < n → (rt.set n (-1))[k]? = rt[k]? := fun k hk => List.getElem?_set_ne (by omega)
  have l0 : (rt.set n (-1)).length = ss.length := by rw [List.length_set]; exact hlen
  unfold rTake at hr
  simp only at hr
  by_cases c1 : s = 63 ∨ s = 91
  · rw [if_pos c1] at hr
    by_cases c2 : ro.length + 1 ≤ 16
    · rw [if_pos c2] at hr
      injection hr with hr
      subst hr
      refine ⟨by omega, l0, fun w hw => ?_, (hb.keep fun k hk _ => k0 k hk).next fun h9 => ?_⟩
      · rcases List.mem_cons.1 hw with rfl | hw
        · refine ⟨by omega, ?_⟩
          rw [hs]
          rcases c1 with rfl | rfl
          · exact .inl rfl
          · exact .inr (.inr ⟨rfl, hjn⟩)
        · exact ⟨by have := (hop w hw).1; omega, (hop w hw).2⟩
      · rw [hs] at h9; injection h9 with h9; omega
    · rw [if_neg c2] at hr; cases hr
  · rw [if_neg c1] at hr
    by_cases c3 : s = 58
    · rw [if_pos c3] at hr
      subst c3
      cases ro with
      | nil => cases hr
      | cons p o =>
        simp only at hr
        by_cases c4 : ss[p]? = some 63
        · rw [if_pos c4] at hr
          injection hr with hr
          subst hr
          refine ⟨by omega, by rw [List.length_set]; exact l0, fun w hw => ?_, (hb.keep fun k hk h9 => ?_).next fun h9 => ?_⟩
          · rcases List.mem_cons.1 hw with rfl | hw
            · exact ⟨by omega, .inr (.inl hs)⟩
            · have := hop w (List.mem_cons_of_mem _ hw); exact ⟨by have := this.1; omega, this.2⟩
          · rw [keep_set c4 (by decide) k h9, k0 k hk]
          · rw [hs] at h9; cases h9
        · rw [if_neg c4] at hr; cases hr
    · rw [if_neg c3] at hr
      by_cases c5 : s = 59
      · rw [if_pos c5] at hr
        subst c5
        cases ro with
        | nil => cases hr
        | cons p o =>
          simp only at hr
          by_cases c6 : ss[p]? = some 91
          · rw [if_pos c6] at hr; cases hr
          · rw [if_neg c6] at hr
            injection hr with hr
            subst hr
            have hw : ∃ x, ss[p]? = some x ∧ x ≠ 93 := by
              rcases (hop p (List.mem_cons_self ..)).2 with e | e | ⟨e, _⟩
              · exact ⟨_, e, by decide⟩
              · exact ⟨_, e, by decide⟩
              · exact absurd e c6
            obtain ⟨x, hw, x1⟩ := hw
            refine ⟨by omega, by rw [List.length_set]; exact l0, fun w hw => ?_, (hb.keep fun k hk h9 => ?_).next fun h9 => ?_⟩
            · have := hop w (List.mem_cons_of_mem _ hw); exact ⟨by have := this.1; omega, this.2⟩
            · rw [keep_set hw x1 k h9, k0 k hk]
            · rw [hs] at h9; cases h9
      · rw [if_neg c5] at hr
        by_cases c8 : s = 93
        · rw [if_pos c8] at hr
          cases ro with
          | nil => cases hr
          | cons p o =>
            simp only at hr
            by_cases c9 : ss[p]? = some 91
            · rw [if_pos c9] at hr
              injection hr with hr
              subst hr
              have hjp : j < p := by
                rcases (hop p (List.mem_cons_self ..)).2 with e | e | ⟨_, e⟩
                · rw [c9] at e; cases e
                · rw [c9] at e; cases e
                · exact e
              refine ⟨by omega, by rw [List.length_set]; exact l0, fun w hw => ?_, (hb.keep fun k hk h9 => ?_).next fun h9 => ?_⟩
              · have := hop w (List.mem_cons_of_mem _ hw); exact ⟨by have := this.1; omega, this.2⟩
              · rw [List.getElem?_set_ne (by omega), k0 k hk]
              · exact ⟨_, List.getElem?_set_self (by rw [l0]; exact hln), by omega⟩
            · rw [if_neg c9] at hr; cases hr
        · rw [if_neg c8] at hr
          injection hr with hr
          subst hr
          refine ⟨by omega, l0, fun w hw => ⟨by have := (hop w hw).1; omega, (hop w hw).2⟩, (hb.keep fun k hk _ => k0 k hk).next fun h9 => ?_⟩
          rw [hs] at h9; injection h9 with h9; exact absurd h9 c8
theorem dead_run {ss : List Int} {j : Nat} : ∀ (rest : List Int) (n : Nat) (r : RSt), n + rest.length = ss.length → (∀ i : Nat, rest[i]? = ss[n + i]?) → Dead ss j n r → rRun ss n rest r = none ∨ ∃ r', rRun ss n rest r = some r' ∧ Dead ss j ss.length r'
  | [], n, r, hl, _, h => .inr ⟨r, rfl, by rw [← hl]; exact h⟩
  | s :: rest, n, r, hl, hi, h => by
    have hs : ss[n]? = some s := by have := hi 0; simpa using this.symm
    unfold rRun
    cases hr : rTake ss n s ⟨r.to.set n (-1), r.deep, r.op⟩ with
    | none => exact .inl rfl
    | some r' => exact dead_run rest (n + 1) r' (by rw [← hl]; simp only [List.length_cons]; omega) (fun i => by have := hi (i + 1); simpa [Nat.add_assoc, Nat.add_comm 1 i] using this) (dead_step h hs hr)
theorem sim_run {ss : List Int} : ∀ (rest : List Int) (n : Nat) (m : NSt) (r : RSt), n + rest.length = ss.length → (∀ i : Nat, rest[i]? = ss[n + i]?) → Sim ss n m r →
    (∃ m' r', nRun n rest m = some m' ∧ rRun ss n rest r = some r' ∧ Sim ss ss.length m' r') ∨
    (nRun n rest m = none ∧ (rRun ss n rest r = none ∨ ∃ r' j, rRun ss n rest r = some r' ∧ ss[j]? = some 126 ∧ Dead ss j ss.length r'))
  | [], n, m, r, hl, _, h => .inl ⟨m, r, rfl, rfl, by rw [← hl]; exact h⟩
  | s :: rest, n, m, r, hl, hi, h => by
    have hs : ss[n]? = some s := by have := hi 0; simpa using this.symm
    have hl' : n + 1 + rest.length = ss.length := by rw [← hl]; simp only [List.length_cons]; omega
    have hi' : ∀ i : Nat, rest[i]? = ss[n + 1 + i]? := fun i => by have := hi (i + 1); simpa [Nat.add_assoc, Nat.add_comm 1 i] using this
    rcases sim_step h hs with ⟨m', r', e1, e2, h'⟩ | ⟨e1, e2⟩ | ⟨e0, e1, e2⟩
    · unfold nRun rRun
      rw [e1, e2]
      exact sim_run rest (n + 1) m' r' hl' hi' h'
    · unfold nRun rRun
      rw [e1, e2]
      exact .inr ⟨rfl, .inl rfl⟩
    · subst e0
      unfold nRun rRun
      rw [e1]
      have er : rTake ss n 126 ⟨r.to.set n (-1), r.deep, r.op⟩ = some ⟨r.to.set n (-1), r.deep, r.op⟩ := rfl
      rw [er]
      have hd : Dead ss n (n + 1) ⟨r.to.set n (-1), r.deep, r.op⟩ := by
        refine ⟨by omega, by rw [List.length_set]; exact h.lenR, fun w hw => ?_, fun k h1 _ h3 h9 => ?_⟩
        · simp only at hw
          rw [← h.op, List.mem_map] at hw
          obtain ⟨p, hp, rfl⟩ := hw
          have hP := h.parts p hp
          obtain ⟨a, b | b⟩ := hP.if_ (e2 p hp)
          · exact ⟨by have := hP.ltw; omega, .inl (by rw [b]; exact a)⟩
          · exact ⟨by have := hP.ltw; omega, .inr (.inl b)⟩
        · obtain rfl : k = n := by omega
          rw [hs] at h9; cases h9
      refine .inr ⟨rfl, ?_⟩
      rcases dead_run rest (n + 1) _ hl' hi' hd with e | ⟨r', e, hd'⟩
      · exact .inl e
      · exact .inr ⟨r', n, e, hs, hd'⟩
/-- Both at once, from nothing. -/
theorem sim_start (ss : List Int) : Sim ss 0 ⟨List.replicate ss.length 0, 0, []⟩ ⟨List.replicate ss.length 0, 0, []⟩ :=
  ⟨rfl, rfl, List.length_replicate, List.length_replicate, fun p hp => (by cases hp), List.Pairwise.nil, fun _ _ => rfl, fun p hp => (by cases hp), fun j hj => absurd hj (by omega)⟩
theorem nest_both (ss : List Int) : (∃ m r, nRun 0 ss ⟨List.replicate ss.length 0, 0, []⟩ = some m ∧ rRun ss 0 ss ⟨List.replicate ss.length 0, 0, []⟩ = some r ∧ Sim ss ss.length m r) ∨
    (nRun 0 ss ⟨List.replicate ss.length 0, 0, []⟩ = none ∧ (rRun ss 0 ss ⟨List.replicate ss.length 0, 0, []⟩ = none ∨ ∃ r' j, rRun ss 0 ss ⟨List.replicate ss.length 0, 0, []⟩ = some r' ∧ ss[j]? = some 126 ∧ Dead ss j ss.length r')) :=
  sim_run ss 0 _ _ (by omega) (fun i => by rw [Nat.zero_add]) (sim_start ss)
/-- With nothing open at the end, each ~ has its place behind the first ] that goes back ahead of it. -/
theorem Sim.leaves {ss : List Int} {m : NSt} {r : RSt} (h : Sim ss ss.length m r) (ho : m.op = []) (j : Nat) (hj : ss[j]? = some 126) :
    ∃ k : Nat, j < k ∧ k < ss.length ∧ m.to[j]? = some ((k : Int) + 1) ∧ ss[k]? = some 93 ∧ (∃ v, r.to[k]? = some v ∧ v < (j : Int)) ∧ Behind ss r.to j 0 k := by
  have hln : j < ss.length := by
    rcases Nat.lt_or_ge j ss.length with hk | hk
    · exact hk
    · rw [List.getElem?_eq_none hk] at hj; cases hj
  rcases h.done j hln hj with ⟨p, hp, _⟩ | hd
  · rw [ho] at hp; cases hp
  · exact hd
/-- The reference's search for the place behind a ~'s loop. -/
def leavesV (ss t : List Int) (j : Nat) : Nat → Nat → Int
  | 0, _ => -1
  | f + 1, i => if ss[i]? = some 93 ∧ t.getD i 0 < (j : Int) then (i : Int) + 1 else leavesV ss t j f (i + 1)
theorem leavesV_found {ss t : List Int} {j k : Nat} (hk : ss[k]? = some 93) (hv : ∃ v, t[k]? = some v ∧ v < (j : Int)) (hb : Behind ss t j 0 k) : ∀ (f i : Nat), j ≤ i → i ≤ k → k < i + f → leavesV ss t j f i = (k : Int) + 1
  | 0, i, _, h1, h2 => absurd h1 (by omega)
  | f + 1, i, h0, h1, h2 => by
    unfold leavesV
    by_cases e : i = k
    · subst e
      obtain ⟨v, e1, e2⟩ := hv
      rw [if_pos ⟨hk, by rw [List.getD_eq_getElem?_getD, e1]; exact e2⟩]
    · rw [if_neg, leavesV_found hk hv hb f (i + 1) (by omega) (by omega) (by omega)]
      rintro ⟨a, b⟩
      obtain ⟨v, e1, e2⟩ := hb i h0 (by omega) (by omega) a
      rw [List.getD_eq_getElem?_getD, e1] at b
      simp only [Option.getD_some] at b
      omega
theorem leavesV_none {ss t : List Int} {j n : Nat} (hb : Behind ss t j 0 n) : ∀ (f i : Nat), j ≤ i → i + f ≤ n → leavesV ss t j f i = -1
  | 0, i, _, _ => rfl
  | f + 1, i, h0, h1 => by
    unfold leavesV
    rw [if_neg, leavesV_none hb f (i + 1) (by omega) (by omega)]
    rintro ⟨a, b⟩
    obtain ⟨v, e1, e2⟩ := hb i h0 (by omega) (by omega) a
    rw [List.getD_eq_getElem?_getD, e1] at b
    simp only [Option.getD_some] at b
    omega
/-- The reference's second pass. -/
def fillR (ss : List Int) : Nat → List Int → List Int → Option (List Int)
  | _, [], t => some t
  | i, s :: r, t => if s = 126 then (if leavesV ss t i (ss.length - i) i < 0 then none else fillR ss (i + 1) r (t.set i (leavesV ss t i (ss.length - i) i))) else fillR ss (i + 1) r t
def rNest (ss : List Int) : Option (List Int × Nat) :=
  (rRun ss 0 ss ⟨List.replicate ss.length 0, 0, []⟩).bind fun r => if r.op = [] then (fillR ss 0 ss r.to).map fun t => (t, r.deep) else none
def nNest (ss : List Int) : Option (List Int × Nat) :=
  (nRun 0 ss ⟨List.replicate ss.length 0, 0, []⟩).bind fun m => if m.op = [] then some (m.to, m.deep) else none
theorem fill_yes {ss : List Int} {m : NSt} {r : RSt} (h : Sim ss ss.length m r) (ho : m.op = []) : ∀ (rest : List Int) (n : Nat) (t : List Int), n + rest.length = ss.length → (∀ i : Nat, rest[i]? = ss[n + i]?) → t.length = ss.length →
    (∀ j : Nat, ss[j]? ≠ some 126 ∨ j < n → t[j]? = m.to[j]?) → fillR ss n rest t = some m.to
  | [], n, t, hl, _, hlt, ha => by
    show some t = _
    congr 1
    apply List.ext_getElem?
    intro j
    rcases Nat.lt_or_ge j n with hj | hj
    · exact ha j (.inr hj)
    · have hl' : n = ss.length := hl
      rw [List.getElem?_eq_none (by omega), List.getElem?_eq_none (by rw [h.lenM]; omega)]
  | s :: rest, n, t, hl, hi, hlt, ha => by
    have hs : ss[n]? = some s := by have := hi 0; simpa using this.symm
    have hl' : n + 1 + rest.length = ss.length := by rw [← hl]; simp only [List.length_cons]; omega
    have hi' : ∀ i : Nat, rest[i]? = ss[n + 1 + i]? := fun i => by have := hi (i + 1); simpa [Nat.add_assoc, Nat.add_comm 1 i] using this
    unfold fillR
    by_cases c : s = 126
    · rw [if_pos c]
      subst c
      obtain ⟨k, k1, k2, k3, k4, ⟨v, k5, k6⟩, k7⟩ := h.leaves ho n hs
      have h9 : ∀ k : Nat, ss[k]? = some 93 → t[k]? = r.to[k]? := fun k hk => by
        have hne : ss[k]? ≠ some 126 := by rw [hk]; decide
        rw [ha k (.inl hne), h.same k hne]
      have hv : leavesV ss t n (ss.length - n) n = (k : Int) + 1 := leavesV_found k4 ⟨v, by rw [h9 k k4]; exact k5, k6⟩ (k7.keep fun k' _ hk' => h9 k' hk') _ n (Nat.le_refl _) (by omega) (by omega)
      rw [hv, if_neg (by omega)]
      refine fill_yes h ho rest (n + 1) _ hl' hi' (by rw [List.length_set]; exact hlt) (fun j hj => ?_)
      by_cases e : n = j
      · subst e
        rw [List.getElem?_set_self (by omega), k3]
      · rw [List.getElem?_set_ne e]
        exact ha j (hj.imp id fun h => by omega)
    · rw [if_neg c]
      refine fill_yes h ho rest (n + 1) t hl' hi' hlt (fun j hj => ?_)
      rcases hj with hj | hj
      · exact ha j (.inl hj)
      · by_cases e : j = n
        · subst e
          exact ha j (.inl (by rw [hs]; intro e; injection e with e; exact c e))
        · exact ha j (.inr (by omega))
theorem fill_no {ss : List Int} {r : RSt} {d : Nat} (hd : Dead ss d ss.length r) (h6 : ss[d]? = some 126) : ∀ (rest : List Int) (n : Nat) (t : List Int), n + rest.length = ss.length → (∀ i : Nat, rest[i]? = ss[n + i]?) → n ≤ d →
    (∀ k : Nat, ss[k]? = some 93 → t[k]? = r.to[k]?) → fillR ss n rest t = none
  | [], n, t, hl, _, hn, _ => absurd hd.lt (by have : n = ss.length := hl; omega)
  | s :: rest, n, t, hl, hi, hn, ha => by
    have hs : ss[n]? = some s := by have := hi 0; simpa using this.symm
    have hl' : n + 1 + rest.length = ss.length := by rw [← hl]; simp only [List.length_cons]; omega
    have hi' : ∀ i : Nat, rest[i]? = ss[n + 1 + i]? := fun i => by have := hi (i + 1); simpa [Nat.add_assoc, Nat.add_comm 1 i] using this
    unfold fillR
    by_cases c : s = 126
    · rw [if_pos c]
      subst c
      by_cases e : n = d
      · subst e
        rw [leavesV_none (hd.behind.keep fun k _ hk => ha k hk) _ n (Nat.le_refl _) (by omega), if_pos (by omega)]
      · split
        · rfl
        · exact fill_no hd h6 rest (n + 1) _ hl' hi' (by omega) (fun k hk => by rw [List.getElem?_set_ne (fun e => by subst e; rw [hs] at hk; cases hk)]; exact ha k hk)
    · rw [if_neg c]
      have : n ≠ d := fun e => by subst e; rw [hs] at h6; injection h6 with h6; exact c h6
      exact fill_no hd h6 rest (n + 1) t hl' hi' (by omega) ha
/-- **The program's matching and the reference's are the same.** -/
theorem nest_same (ss : List Int) : nNest ss = rNest ss := by
  unfold nNest rNest
  rcases nest_both ss with ⟨m, r, e1, e2, h⟩ | ⟨e1, e2 | ⟨r, d, e2, h6, hd⟩⟩
  · rw [e1, e2]
    show (if m.op = [] then some (m.to, m.deep) else none) = if r.op = [] then (fillR ss 0 ss r.to).map fun t => (t, r.deep) else none
    by_cases ho : m.op = []
    · have hr : r.op = [] := by rw [← h.op, ho]; rfl
      rw [if_pos ho, if_pos hr, fill_yes h ho ss 0 r.to (by omega) (fun i => by rw [Nat.zero_add]) h.lenR (fun j hj => (h.same j (hj.resolve_right (by omega))).symm), h.deep]
      rfl
    · have hr : ¬ r.op = [] := fun e => ho (by rw [← h.op] at e; exact List.map_eq_nil_iff.1 e)
      rw [if_neg ho, if_neg hr]
  · rw [e1, e2]; rfl
  · rw [e1, e2]
    show none = if r.op = [] then (fillR ss 0 ss r.to).map fun t => (t, r.deep) else none
    rw [fill_no hd h6 ss 0 r.to (by omega) (fun i => by rw [Nat.zero_add]) (by omega) (fun _ _ => rfl)]
    split <;> rfl
end Go.Proofs.Ytafgpmempgoikaa
