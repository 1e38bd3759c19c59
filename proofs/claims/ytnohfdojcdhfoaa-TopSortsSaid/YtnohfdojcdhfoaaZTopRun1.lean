/-
  TopRun, part 1: Mem, Own, Read, Bs, Flow, Law, LawB, Share, Reply, ReplyMust, Fresh, Dsk, Sect, Waits, ReplyAll, Rown.
-/
import Derived.WalkKit
import Derived.WalkSpells
import Derived.WalkLawsBesides
import Derived.Laws.CopyOwn
import Derived.Laws.Rows
import Derived.Laws.MakeOwn
import Derived.Deep.Draws
import Derived.Lib.SlBytesRow
import Derived.Lib.Hide
import Derived.Deep.RegionLaw
import Derived.Maps.AppendAt
import Derived.OwnWalk
import Derived.Laws.BytesArg
import Derived.Orders
import Derived.Test.YtnohfdojcdhfoaaChecked
import Derived.Laws.RangeString
import Derived.Laws.RangeAny
import Derived.LoopTactic
import Derived.Defers
import Derived.Recover
import Derived.Laws.Pointers
import Derived.Deep.QuietTactic
import Derived.BigQuiet
import Derived.BigRegion
import Derived.Deep.RegionWith
import Derived.Deep.DeepCutAuto
namespace Go.Proofs.Ytnohfdojcdhfoaa
open Go.RowKit

/-- From w to w' nothing has turned but the listed blocks, and what is new. -/
structure Chg (T : List Nat) (w w' : World) : Prop where
  os : w'.os = w.os
  tape : w'.tape = w.tape
  output : w'.output = w.output
  size : w.heap.size ≤ w'.heap.size
  block : ∀ k, k < w.heap.size → k ∉ T → w'.heap[k]? = w.heap[k]?

theorem Chg.refl (T : List Nat) (w : World) : Chg T w w := ⟨rfl, rfl, rfl, Nat.le_refl _, fun _ _ _ => rfl⟩

/-- Two steps; the second one's list may name blocks that were not there at the beginning. -/
theorem Chg.then_ {T T' : List Nat} {a b c : World} (h : Chg T a b) (k : Chg T' b c) (hs : ∀ i, i ∈ T' → i < a.heap.size → i ∈ T) : Chg T a c :=
  ⟨k.os.trans h.os, k.tape.trans h.tape, k.output.trans h.output, Nat.le_trans h.size k.size, fun i hi hn =>
    (k.block i (Nat.lt_of_lt_of_le hi h.size) (fun hm => hn (hs i hm hi))).trans (h.block i hi hn)⟩

theorem Chg.trans {T : List Nat} {a b c : World} (h : Chg T a b) (k : Chg T b c) : Chg T a c := h.then_ k fun _ h _ => h
theorem Chg.new {T : List Nat} {a b c : World} (h : Chg T a b) (k : Chg [] b c) : Chg T a c := h.then_ k fun _ h _ => by cases h
theorem Chg.sub {T T' : List Nat} {a b : World} (h : Chg T a b) (hs : ∀ i, i ∈ T → i ∈ T') : Chg T' a b := ⟨h.os, h.tape, h.output, h.size, fun i hi hn => h.block i hi fun hm => hn (hs i hm)⟩

theorem Chg.alloc {T : List Nat} {a w : World} (h : Chg T a w) (o : Obj) : Chg T a (w.alloc o) :=
  h.new ⟨rfl, rfl, rfl, by simp, fun k hk _ => Below.heap_alloc w o k hk⟩
theorem Chg.drew {T : List Nat} {a w : World} (h : Chg T a w) : Chg T a w.drew := ⟨h.os, h.tape, h.output, h.size, h.block⟩
theorem Chg.drewN {T : List Nat} {a w : World} (h : Chg T a w) (n : Nat) : Chg T a (w.drewN n) := ⟨h.os, h.tape, h.output, h.size, h.block⟩
theorem Chg.setCell {T : List Nat} {a w : World} (h : Chg T a w) {p : Addr} (hp : p.block < a.heap.size → p.block ∈ T) (u : Value) : Chg T a (w.setCell p u) :=
  h.then_ (T' := [p.block]) ⟨rfl, rfl, rfl, by simp [World.setCell], fun k _ hn => Below.heap_setCell w p u k (by simpa using hn)⟩ fun i hi hlt => by
    simp only [List.mem_cons, List.not_mem_nil, or_false] at hi
    subst hi
    exact hp hlt
theorem Chg.setRow {T : List Nat} {a w : World} (h : Chg T a w) {g : Nat} (hp : g < a.heap.size → g ∈ T) (cs : Array Value) : Chg T a (w.setRow g cs) :=
  h.then_ (T' := [g]) ⟨rfl, rfl, rfl, by simp, fun k _ hn => setRow_other w g k cs (by simpa using hn)⟩ fun i hi hlt => by
    simp only [List.mem_cons, List.not_mem_nil, or_false] at hi
    subst hi
    exact hp hlt
theorem Chg.of_below {a w : World} (h : Below a.heap.size a w) : Chg [] a w := ⟨h.os, h.tape, h.output, h.size, fun k hk _ => h.block k hk⟩
theorem Chg.of_grown {a w : World} {row : Option Nat} {T : List Nat} (h : a.grownBy w row) (hr : ∀ g, row = some g → g < a.heap.size → g ∈ T) : Chg T a w :=
  ⟨h.os, h.tape, h.output, h.size, fun k hk hn => h.block k hk fun e => hn (hr k e.symm hk)⟩
/-- All that has turned lies from B on. -/
theorem Chg.below {T : List Nat} {a w : World} (h : Chg T a w) {B : Nat} (hB : B ≤ a.heap.size) (hT : ∀ i, i ∈ T → B ≤ i) : Below B a w :=
  ⟨h.os, h.tape, h.output, h.size, fun k hk => h.block k (by omega) fun hm => by have := hT k hm; omega⟩
theorem Chg.below0 {a w : World} (h : Chg [] a w) : Below a.heap.size a w := h.below (Nat.le_refl _) (by simp)

/-- Block g is known whole: the cells cs of element type t, none of them frozen. -/
def Whole (w : World) (g t : Nat) (cs : List Value) : Prop := w.heap[g]? = some (.cells cs.toArray t (0, 0))

section
variable {w w' : World} {g t : Nat} {cs : List Value}
theorem Whole.lt (h : Whole w g t cs) : g < w.heap.size := by
  rcases Nat.lt_or_ge g w.heap.size with hlt | hge
  · exact hlt
  · unfold Whole at h; rw [Array.getElem?_eq_none hge] at h; cases h
theorem Whole.cell (h : Whole w g t cs) (i : Nat) : w.cell? ⟨g, i, none⟩ = cs[i]? := by
  have := cell_of_row w g i cs.toArray t (0, 0) h
  simpa using this
theorem Whole.frozen (h : Whole w g t cs) (i : Nat) : w.frozen? ⟨g, i, none⟩ = false := frozen_of_row w g i cs.toArray t h
theorem Whole.chg {T : List Nat} (h : Whole w g t cs) (hc : Chg T w w') (hg : g ∉ T) : Whole w' g t cs := (hc.block g h.lt hg).trans h
theorem Whole.keep (h : Whole w g t cs) (hc : Chg [] w w') : Whole w' g t cs := h.chg hc (by simp)
theorem Whole.drew (h : Whole w g t cs) : Whole w.drew g t cs := h
theorem Whole.drewN (h : Whole w g t cs) (n : Nat) : Whole (w.drewN n) g t cs := h
theorem Whole.set_ (h : Whole w g t cs) (i : Nat) (u : Value) : Whole (w.setCell ⟨g, i, none⟩ u) g t (cs.set i u) := by
  have := heap_setCell_same w g i cs.toArray t u h
  unfold Whole
  rw [this]
  simp
theorem Whole.far (h : Whole w g t cs) {p : Addr} (hp : g ≠ p.block) (u : Value) : Whole (w.setCell p u) g t cs := (Below.heap_setCell w p u g hp).trans h
theorem Whole.new (w : World) (t : Nat) (cs : List Value) : Whole (w.alloc (.cells cs.toArray t)) w.heap.size t cs := heap_alloc_new w _
theorem Whole.ne_ {g' t' : Nat} {cs' : List Value} (h : Whole w g t cs) (h' : Whole w g' t' cs') (hne : t ≠ t') : g ≠ g' := by
  rintro rfl
  unfold Whole at h h'
  rw [h] at h'
  injection h' with h'
  injection h' with _ ht
  exact hne ht
end

theorem add_plain (g o j : Nat) : (⟨g, o, none⟩ : Addr).add j = ⟨g, o + j, none⟩ := by unfold Addr.add; split <;> simp_all

/-- The slice value at A of length n reads as the cells xs. -/
def Src (w : World) (A : Option Addr) (xs : List Value) : Prop := 0 < xs.length → ∃ ad, A = some ad ∧ ad.block < w.heap.size ∧ ∀ j v, xs[j]? = some v → w.cell? (ad.add j) = some v
theorem Src.nil (w : World) (A : Option Addr) : Src w A [] := fun h => absurd h (by simp)
theorem Src.drew {w : World} {A : Option Addr} {xs : List Value} (h : Src w A xs) : Src w.drew A xs := h
theorem Src.drewN {w : World} {A : Option Addr} {xs : List Value} (h : Src w A xs) (n : Nat) : Src (w.drewN n) A xs := h
theorem Src.of_whole {w : World} {g t : Nat} {cs : List Value} (h : Whole w g t cs) (o n : Nat) : Src w (some ⟨g, o, none⟩) ((cs.drop o).take n) := fun _ =>
  ⟨_, rfl, h.lt, fun j v hj => by
    rw [add_plain, h.cell]
    rw [List.getElem?_take] at hj
    split at hj
    · rwa [List.getElem?_drop] at hj
    · cases hj⟩
theorem Src.of_all {w : World} {g t : Nat} {cs : List Value} (h : Whole w g t cs) : Src w (some ⟨g, 0, none⟩) cs := by
  have := Src.of_whole h 0 cs.length
  simpa using this
theorem Src.keep {w w' : World} {A : Option Addr} {xs : List Value} (h : Src w A xs) (hc : Chg [] w w') : Src w' A xs := fun hp => by
  obtain ⟨ad, e, hb, hx⟩ := h hp
  refine ⟨ad, e, Nat.lt_of_lt_of_le hb hc.size, fun j v hj => ?_⟩
  have := hx j v hj
  rw [← this]
  refine World.cell?_of_block (w := w) (hc.block _ ?_ (by simp))
  have e2 : (ad.add j).block = ad.block := by unfold Addr.add; split <;> rfl
  rw [e2]; exact hb

/-- A byte, a truth, as cells hold them. -/
def B8 (c : UInt8) : Value := .int .u8 (c.toNat : Int)
def bts (l : List UInt8) : List Value := l.map B8
def bls (l : List Bool) : List Value := l.map Value.bool
def nms (l : List Int) : List Value := l.map (Value.int .i64)
theorem bts_one (l : List UInt8) : ∀ v ∈ bts l, v.oneCell' = true := by
  intro v hv
  simp only [bts, List.mem_map] at hv
  obtain ⟨c, _, rfl⟩ := hv
  rfl
theorem bts_len (l : List UInt8) : (bts l).length = l.length := by simp [bts]
theorem bts_get (l : List UInt8) (i : Nat) (h : i < l.length) : (bts l)[i]? = some (B8 l[i]) := by simp [bts, h]
theorem bts_set (l : List UInt8) (i : Nat) (c : UInt8) : (bts l).set i (B8 c) = bts (l.set i c) := by simp [bts]
theorem bls_len (l : List Bool) : (bls l).length = l.length := by simp [bls]
theorem bls_get (l : List Bool) (i : Nat) (h : i < l.length) : (bls l)[i]? = some (.bool l[i]) := by simp [bls, h]
theorem bls_set (l : List Bool) (i : Nat) (c : Bool) : (bls l).set i (.bool c) = bls (l.set i c) := by simp [bls]

def zeros (n : Nat) : List UInt8 := List.replicate n 0
def falses (n : Nat) : List Bool := List.replicate n false
theorem zeros_len (n : Nat) : (zeros n).length = n := by simp [zeros]
theorem falses_len (n : Nat) : (falses n).length = n := by simp [falses]
theorem bts_zeros (n : Nat) : bts (zeros n) = List.replicate n (.int .u8 0) := by simp [bts, zeros, B8]
theorem bls_falses (n : Nat) : bls (falses n) = List.replicate n (.bool false) := by simp [bls, falses]

theorem made_one (z : Value) (n : Nat) : madeCells #[z] n = (List.replicate n z).toArray := by
  apply Array.ext
  · simp [madeCells]
  · intro i h1 h2
    simp [madeCells, Nat.mod_one]
theorem splice_all {α : Type} (L cs : List α) (h : cs.length = L.length) : splice L 0 cs = cs := by
  simp [splice, h]

/-- 'make([]T, n)': one cell a place. -/
theorem run_make1 {P : Program} (t e : TypeId) (i : TypeInfo) (z : Value) (hz1 : z.cells = #[z]) (ht : P.underlying t = some (.slice e)) (hi : P.info? e = some i) (hz : i.zero = some z) (hs : i.size = 1)
    (n : Nat) (hb : i.bytes * n ≤ 281474976710656) (h63 : n ≤ 9223372036854775807) (w : World) :
    (Instr.makeSlice t (.int .i64 (n : Int)) (.int .i64 (n : Int))).run P w = .ok (.slice (some ⟨w.heap.size, 0, none⟩) n n) (w.alloc (.cells (List.replicate n z).toArray e)) := by
  have hb' : (i.bytes : Int) * (n : Int) ≤ 281474976710656 := by
    have h : ((i.bytes * n : Nat) : Int) ≤ 281474976710656 := by omega
    rwa [Int.natCast_mul] at h
  have h := run_make (P := P) w t e i z ht hi hz .i64 .i64 (n : Int) (n : Int) (by omega) (Int.le_refl _) hb' (by omega)
  rw [h, hs, hz1, made_one]
  simp

/-- 'copy(dst, src)' into a block that is known whole: which block has turned is told. -/
theorem run_copy_chg {P : Program} {w : World} {g off t : Nat} {cur cs : List Value} (dT sT ty elem : TypeId) (hu : P.underlying dT = some (.slice elem)) (hsz : (P.info? elem).map (·.size) = some 1)
    (dp sp : Option Addr) (dLen dCap sLen sCap : Nat) (hg : Whole w g t cur) (hn : cs.length = Nat.min sLen dLen) (hd : 0 < cs.length → dp = some ⟨g, off, none⟩) (hs : Src w sp cs)
    (hfit : off + cs.length ≤ cur.length) (h1 : ∀ v ∈ cs, v.oneCell' = true) :
    ∃ w', (Builtin.copy_ #[dT, sT] ty #[.slice dp dLen dCap, .slice sp sLen sCap]).run P w = .ok (goInt cs.length) w' ∧ Whole w' g t (splice cur off cs) ∧ Chg [g] w w' := by
  rcases Nat.eq_zero_or_pos cs.length with h0 | h0
  · obtain rfl : cs = [] := List.eq_nil_of_length_eq_zero h0
    refine ⟨w, run_copy_none (P := P) w dT sT ty elem dp sp dLen dCap sLen sCap hu hsz (by simpa using hn.symm), ?_, Chg.refl _ _⟩
    simpa [splice] using hg
  · obtain ⟨ad, rfl, _, hx⟩ := hs h0
    obtain rfl := hd h0
    refine ⟨_, run_copy_row (P := P) w dT sT ty elem g off dLen dCap ad sLen sCap cur.toArray t cs hu hsz hg hn hx (by simpa using hfit) h1, ?_, (Chg.refl [g] w).setRow (by simp) _⟩
    have := setRow_heap w g _ (splice cur off cs).toArray t _ hg
    simpa [Whole, splice, List.append_assoc] using this

theorem wpList_copy_chg {P : Program} {w : World} {ops : Array Oper} {rest : List Oper} {o : Oper} {a : Act} {Q : Exit → Act → World → Prop} (hgd : o.guard = none) (d s : Operand) (dT sT : TypeId)
    (ho : o.op = .call { callee := .builtin .copy, args := #[d, s], argTypes := #[dT, sT] }) (elem : TypeId) (hu : P.underlying dT = some (.slice elem)) (hsz : (P.info? elem).map (·.size) = some 1)
    (dp sp : Option Addr) (dLen dCap sLen sCap : Nat) (hde : a.eval d = .slice dp dLen dCap) (hse : a.eval s = .slice sp sLen sCap)
    (g off t : Nat) (cur cs : List Value) (hg : Whole w g t cur) (hn : cs.length = Nat.min sLen dLen) (hd : 0 < cs.length → dp = some ⟨g, off, none⟩) (hs : Src w sp cs)
    (hfit : off + cs.length ≤ cur.length) (h1 : ∀ v ∈ cs, v.oneCell' = true)
    (h : ∀ w', Whole w' g t (splice cur off cs) → Chg [g] w w' → wpList P ops Q rest (a.put o.dst (goInt cs.length)) w') : wpList P ops Q (o :: rest) a w := by
  refine wpList_plain hgd fun K hK => ?_
  obtain ⟨w', hrun, h2, h3⟩ := run_copy_chg (P := P) dT sT o.type elem hu hsz dp sp dLen dCap sLen sCap hg hn hd hs hfit h1
  unfold Oper.wp
  simp [execOp, ho, resolve, invoke, builtin, hde, hse, hrun, Result.andThen]
  exact hK _ _ (h w' h2 h3)

theorem step_copy_chg {P : Program} {w : World} {ops : Array Oper} {o : Oper} {a : Act} {K : Act → World → Prop} {Q : Exit → Act → World → Prop} {E : Prop} (hgd : o.guard = none) (d s : Operand) (dT sT : TypeId)
    (ho : o.op = .call { callee := .builtin .copy, args := #[d, s], argTypes := #[dT, sT] }) (elem : TypeId) (hu : P.underlying dT = some (.slice elem)) (hsz : (P.info? elem).map (·.size) = some 1)
    (dp sp : Option Addr) (dLen dCap sLen sCap : Nat) (hde : a.eval d = .slice dp dLen dCap) (hse : a.eval s = .slice sp sLen sCap)
    (g off t : Nat) (cur cs : List Value) (hg : Whole w g t cur) (hn : cs.length = Nat.min sLen dLen) (hd : 0 < cs.length → dp = some ⟨g, off, none⟩) (hs : Src w sp cs)
    (hfit : off + cs.length ≤ cur.length) (h1 : ∀ v ∈ cs, v.oneCell' = true)
    (h : ∀ w', Whole w' g t (splice cur off cs) → Chg [g] w w' → K (a.put o.dst (goInt cs.length)) w') :
    if Region.wanted o (yielded ops a.tmps) = true then Oper.wp P o a w K Q else E := by
  have hw : Region.wanted o (yielded ops a.tmps) = true := by simp [Region.wanted, hgd]
  rw [if_pos hw]
  obtain ⟨w', hrun, h2, h3⟩ := run_copy_chg (P := P) dT sT o.type elem hu hsz dp sp dLen dCap sLen sCap hg hn hd hs hfit h1
  unfold Oper.wp
  simp [execOp, ho, resolve, invoke, builtin, hde, hse, hrun, Result.andThen]
  exact h w' h2 h3

theorem step_copy_none {P : Program} {w : World} {ops : Array Oper} {o : Oper} {a : Act} {K : Act → World → Prop} {Q : Exit → Act → World → Prop} {E : Prop} (hgd : o.guard = none) (d s : Operand) (dT sT : TypeId)
    (ho : o.op = .call { callee := .builtin .copy, args := #[d, s], argTypes := #[dT, sT] }) (elem : TypeId) (hu : P.underlying dT = some (.slice elem)) (hsz : (P.info? elem).map (·.size) = some 1)
    (dp sp : Option Addr) (dLen dCap sLen sCap : Nat) (hde : a.eval d = .slice dp dLen dCap) (hse : a.eval s = .slice sp sLen sCap) (hn : Nat.min sLen dLen = 0)
    (h : K (a.put o.dst (goInt 0)) w) :
    if Region.wanted o (yielded ops a.tmps) = true then Oper.wp P o a w K Q else E := by
  have hw : Region.wanted o (yielded ops a.tmps) = true := by simp [Region.wanted, hgd]
  rw [if_pos hw]
  have hrun := run_copy_none (P := P) w dT sT o.type elem dp sp dLen dCap sLen sCap hu hsz hn
  unfold Oper.wp
  simp [execOp, ho, resolve, invoke, builtin, hde, hse, hrun, Result.andThen]
  exact h

theorem bts_splice (l m : List UInt8) (o : Nat) : splice (bts l) o (bts m) = bts (splice l o m) := by simp [splice, bts]
theorem bts_cut (l : List UInt8) (o n : Nat) : ((bts l).drop o).take n = bts ((l.drop o).take n) := by simp [bts]

/-- 'string(b)'. -/
def strOf (l : List UInt8) : ByteArray := ⟨l.toArray⟩
theorem run_str {P : Program} (src e dst : TypeId) (hs : P.underlying src = some (.slice e)) (he : P.underlying e = some (.int .u8)) (hd : P.underlying dst = some .string)
    (A : Option Addr) (l : List UInt8) (cap : Nat) (w : World) (h : Src w A (bts l)) (hp : ∀ ad, A = some ad → ad.spot = none) :
    (convert src dst (.slice A l.length cap)).run P w = .ok (.string (strOf l)) w := by
  rcases Nat.eq_zero_or_pos l.length with h0 | h0
  · obtain rfl : l = [] := List.eq_nil_of_length_eq_zero h0
    rcases A with _ | ad
    · exact run_convert_bytes_nil (P := P) w src e hs he 0 cap dst hd
    · obtain ⟨b, o, s⟩ := ad
      obtain rfl : s = none := hp _ rfl
      exact Lib.run_convert_whole (P := P) w src e dst hs he hd b o (strOf []) (fun i hi => absurd hi (by simp [strOf, ByteArray.size])) cap
  · obtain ⟨ad, rfl, _, hx⟩ := h (by simpa [bts] using h0)
    obtain ⟨b, o, s⟩ := ad
    obtain rfl : s = none := hp _ rfl
    have := Lib.run_convert_whole (P := P) w src e dst hs he hd b o (strOf l) (fun i hi => by
      have hi' : i < l.length := by simpa [strOf, ByteArray.size] using hi
      have h1 := hx i _ (bts_get l i hi')
      rw [add_plain] at h1
      rw [h1]
      rfl) cap
    simpa [strOf, ByteArray.size] using this
theorem strOf_inj {l m : List UInt8} (h : strOf l = strOf m) : l = m := by
  injection h with h
  simpa using h

end Go.Proofs.Ytnohfdojcdhfoaa
namespace Go.Proofs.Ytnohfdojcdhfoaa
open Go.RowKit

section
variable {w w' : World} {B n : Nat} {e : TypeId} {v : Value} {xs : List Value}
theorem own_keep (h : w.ownsRow B e 1 v n xs) (hc : Chg [] w w') : w'.ownsRow B e 1 v n xs := by
  refine ⟨h.1, h.2.imp id ?_⟩
  rintro ⟨g, cap, cur, rfl, hb, hg, r⟩
  refine ⟨g, cap, cur, rfl, hb, ?_, r⟩
  rw [hc.block g ?_ (by simp)]
  · exact hg
  · rcases Nat.lt_or_ge g w.heap.size with hlt | hge
    · exact hlt
    · rw [Array.getElem?_eq_none hge] at hg; cases hg
theorem own_drew (h : w.ownsRow B e 1 v n xs) : w.drew.ownsRow B e 1 v n xs := h
theorem own_more {B' : Nat} (h : w.ownsRow B e 1 v n xs) (hB : B' ≤ B) : w.ownsRow B' e 1 v n xs := by
  refine ⟨h.1, h.2.imp id ?_⟩
  rintro ⟨g, cap, cur, rfl, hb, r⟩
  exact ⟨g, cap, cur, rfl, Nat.le_trans hB hb, r⟩
/-- As a slice value. -/
theorem own_slice (h : w.ownsRow B e 1 v n xs) : ∃ A c, v = .slice A n c ∧ xs.length = n ∧ n ≤ c ∧ Src w A xs ∧ (∀ ad, A = some ad → ad.spot = none ∧ B ≤ ad.block ∧ ad.off = 0 ∧ ad.block < w.heap.size) := by
  have hl : xs.length = n := by simpa using h.1
  rcases h.2 with ⟨rfl, rfl⟩ | ⟨g, cap, cur, rfl, hb, hg, hn, hc, hs, ht⟩
  · exact ⟨none, 0, rfl, hl, Nat.le_refl _, fun hp => absurd hp (by omega), fun ad h => by cases h⟩
  · have hgl : g < w.heap.size := by
      rcases Nat.lt_or_ge g w.heap.size with hlt | hge
      · exact hlt
      · rw [Array.getElem?_eq_none hge] at hg; cases hg
    refine ⟨some ⟨g, 0, none⟩, cap, rfl, hl, hn, fun _ => ⟨_, rfl, hgl, fun j u hj => ?_⟩, fun ad h => by injection h with h; subst h; exact ⟨rfl, hb, rfl, hgl⟩⟩
    rw [add_plain, Nat.zero_add, cell_of_row w g j cur e (0, 0) hg]
    have hjl : j < n := by rw [← hl]; exact (List.getElem?_eq_some_iff.1 hj).1
    rw [← ht, List.getElem?_take_of_lt (by omega)] at hj
    simpa using hj
theorem own_le (h : w.ownsRow B e 1 v n xs) : n ≤ maxLen := by
  rcases h.2 with ⟨_, rfl⟩ | ⟨g, cap, cur, _, _, _, hn, hc, _⟩
  · exact Nat.zero_le _
  · omega
/-- A block that is known whole, as an own row of its first n cells. -/
theorem own_of_whole {g c : Nat} {cs : List Value} (h : Whole w g e cs) (hB : B ≤ g) (hc : cs.length = c) (hn : n ≤ c) (hm : c ≤ maxLen) : w.ownsRow B e 1 (.slice (some ⟨g, 0, none⟩) n c) n (cs.take n) := by
  refine ⟨by rw [List.length_take]; omega, .inr ⟨g, c, cs.toArray, rfl, hB, h, hn, hm, by simpa using hc, by simp⟩⟩
theorem own_nil (w : World) (B : Nat) (e : TypeId) : w.ownsRow B e 1 (.slice none 0 0) 0 [] := ⟨rfl, .inl ⟨rfl, rfl⟩⟩
/-- What was appended to is the caller's own: nothing that was there has turned. -/
theorem Chg.own {T : List Nat} {a : World} (h : Chg T a w) (ho : w.ownsRow B e 1 v n xs) (hB : a.heap.size ≤ B) (hg : w.grownBy w' v.ownBlock) : Chg T a w' := by
  refine h.then_ (T' := match v.ownBlock with | some g => [g] | none => []) ?_ ?_
  · refine Chg.of_grown hg fun g hr _ => ?_
    rw [hr]; simp
  · intro i hi hlt
    exfalso
    rcases ho.2 with ⟨rfl, _⟩ | ⟨g, cap, cur, rfl, hb, _⟩
    · simp [Value.ownBlock] at hi
    · simp [Value.ownBlock] at hi; omega
end

section
variable {P : Program} (w : World)
theorem run_append_src (base : Nat) (t ty e : TypeId) (i : TypeInfo) (z : Value) (bytes : Nat) (ht : P.underlying t = some (.slice e)) (hi : P.info? e = some i) (hz : i.zero = some z)
    (hsize : i.size = 1) (hby : i.bytes = bytes) (hzs : z.cells.size = 1)
    (v : Value) (n : Nat) (xs : List Value) (hown : w.ownsRow base e 1 v n xs)
    (A : Option Addr) (m c : Nat) (news : List Value) (hl : news.length = m) (hs : Src w A news) (h1 : ∀ u ∈ news, u.oneCell' = true)
    (h63 : n + m ≤ maxLen) (hbytes : (n + m) * bytes ≤ 140737488355328) (hbase : base ≤ w.heap.size) :
    ∃ v' w', (Builtin.append_ #[t, t] ty #[v, .slice A m c]).run P w = .ok v' w' ∧ w'.ownsRow base e 1 v' (n + m) (xs ++ news) ∧ w.grownBy w' v.ownBlock ∧
      (v'.ownBlock = v.ownBlock ∨ v'.ownBlock = some w.heap.size) := by
  have hnil : m = 0 → news = [] := fun h => List.eq_nil_of_length_eq_zero (by omega)
  rcases A with _ | ad
  · have hm : m = 0 := by
      rcases Nat.eq_zero_or_pos m with h0 | h0
      · exact h0
      · obtain ⟨ad, h, _⟩ := hs (by omega)
        cases h
    subst hm
    obtain rfl := hnil rfl
    refine ⟨v, w, ?_, by simpa using hown, World.grownBy.refl w _, .inl rfl⟩
    rcases hown.2 with ⟨rfl, rfl⟩ | ⟨g, cap, cur, rfl, _, _, hnc, _⟩
    · simp [Builtin.append_, run_underlying ht, sizeOf, typeInfo, hi, Builtin.lenOf, Builtin.firstCells]
    · simp [Builtin.append_, run_underlying ht, sizeOf, typeInfo, hi, Builtin.lenOf, Builtin.firstCells, hnc, storeCells]
  · have hcells : ∀ j u, news[j]? = some u → w.cell? (ad.add j) = some u := by
      intro j u hu
      obtain ⟨ad', h, _, hc⟩ := hs (by have := (List.getElem?_eq_some_iff.1 hu).1; omega)
      injection h with h
      subst h
      exact hc j u hu
    obtain ⟨v', w', hrun, h2, h3, _, h5⟩ := run_append_own_at (P := P) w base t ty e i z 1 bytes ht hi hz hsize hby hzs (by omega) v n xs hown ad m c news (by omega) hcells h1 h63 hbytes hbase
    exact ⟨v', w', hrun, h2, h3, h5⟩

theorem wpList_append_src {w : World} {ops : Array Oper} {rest : List Oper} {o : Oper} {a : Act} {Q : Exit → Act → World → Prop} (hgd : o.guard = none) (s x : Operand) (t : TypeId)
    (ho : o.op = .call { callee := .builtin .append, args := #[s, x], argTypes := #[t, t] })
    (base : Nat) (e : TypeId) (i : TypeInfo) (z : Value) (bytes : Nat) (ht : P.underlying t = some (.slice e)) (hi : P.info? e = some i) (hz : i.zero = some z)
    (hsize : i.size = 1) (hby : i.bytes = bytes) (hzs : z.cells.size = 1)
    (v : Value) (n : Nat) (xs : List Value) (hse : a.eval s = v) (hown : w.ownsRow base e 1 v n xs)
    (A : Option Addr) (m c : Nat) (news : List Value) (hxe : a.eval x = .slice A m c) (hl : news.length = m) (hs : Src w A news) (h1 : ∀ u ∈ news, u.oneCell' = true)
    (h63 : n + m ≤ maxLen) (hbytes : (n + m) * bytes ≤ 140737488355328) (hbase : base ≤ w.heap.size)
    (h : ∀ v' w', w'.ownsRow base e 1 v' (n + m) (xs ++ news) → w.grownBy w' v.ownBlock → (v'.ownBlock = v.ownBlock ∨ v'.ownBlock = some w.heap.size) → wpList P ops Q rest (a.put o.dst v') w') : wpList P ops Q (o :: rest) a w := by
  refine wpList_plain hgd fun K hK => ?_
  obtain ⟨v', w', hrun, h2, h3, h4⟩ := run_append_src (P := P) w base t o.type e i z bytes ht hi hz hsize hby hzs v n xs hown A m c news hl hs h1 h63 hbytes hbase
  unfold Oper.wp execOp
  simp only [ho, resolve, invoke, builtin, Sem.run_bind, Sem.run_pure, Result.andThen_ok, List.map_toArray, List.map_cons, List.map_nil, hse, hxe, hrun]
  exact hK _ _ (h v' w' h2 h3 h4)

/-- Behind a guard. -/
theorem wpList_append_src_g {w : World} {ops : Array Oper} {rest : List Oper} {o : Oper} {a : Act} {Q : Exit → Act → World → Prop} (hgd : Region.wanted o (yielded ops a.tmps) = true) (s x : Operand) (t : TypeId)
    (ho : o.op = .call { callee := .builtin .append, args := #[s, x], argTypes := #[t, t] })
    (base : Nat) (e : TypeId) (i : TypeInfo) (z : Value) (bytes : Nat) (ht : P.underlying t = some (.slice e)) (hi : P.info? e = some i) (hz : i.zero = some z)
    (hsize : i.size = 1) (hby : i.bytes = bytes) (hzs : z.cells.size = 1)
    (v : Value) (n : Nat) (xs : List Value) (hse : a.eval s = v) (hown : w.ownsRow base e 1 v n xs)
    (A : Option Addr) (m c : Nat) (news : List Value) (hxe : a.eval x = .slice A m c) (hl : news.length = m) (hs : Src w A news) (h1 : ∀ u ∈ news, u.oneCell' = true)
    (h63 : n + m ≤ maxLen) (hbytes : (n + m) * bytes ≤ 140737488355328) (hbase : base ≤ w.heap.size)
    (h : ∀ v' w', w'.ownsRow base e 1 v' (n + m) (xs ++ news) → w.grownBy w' v.ownBlock → (v'.ownBlock = v.ownBlock ∨ v'.ownBlock = some w.heap.size) → wpList P ops Q rest (a.put o.dst v') w') : wpList P ops Q (o :: rest) a w := by
  refine wpList_step fun K hK => ?_
  rw [if_pos hgd]
  obtain ⟨v', w', hrun, h2, h3, h4⟩ := run_append_src (P := P) w base t o.type e i z bytes ht hi hz hsize hby hzs v n xs hown A m c news hl hs h1 h63 hbytes hbase
  unfold Oper.wp execOp
  simp only [ho, resolve, invoke, builtin, Sem.run_bind, Sem.run_pure, Result.andThen_ok, List.map_toArray, List.map_cons, List.map_nil, hse, hxe, hrun]
  exact hK _ _ (h v' w' h2 h3 h4)

/-- The same as an operation's run. -/
theorem exec_append_src {w : World} {ev : Operand → Value} {d : Option Tmp} {ty : TypeId} {pos : String} {af : Array Edge} {g : Option (Nat × Bool)} {s x : Operand} {t : TypeId}
    (base : Nat) (e : TypeId) (i : TypeInfo) (z : Value) (bytes : Nat) (ht : P.underlying t = some (.slice e)) (hi : P.info? e = some i) (hz : i.zero = some z)
    (hsize : i.size = 1) (hby : i.bytes = bytes) (hzs : z.cells.size = 1)
    {v : Value} {n : Nat} {xs : List Value} (hse : ev s = v) (hown : w.ownsRow base e 1 v n xs)
    {A : Option Addr} {m c : Nat} {news : List Value} (hxe : ev x = .slice A m c) (hl : news.length = m) (hs : Src w A news) (h1 : ∀ u ∈ news, u.oneCell' = true)
    (h63 : n + m ≤ maxLen) (hbytes : (n + m) * bytes ≤ 140737488355328) (hbase : base ≤ w.heap.size) :
    ∃ v' w', (execOp ev ⟨d, .call { callee := .builtin .append, args := #[s, x], argTypes := #[t, t] }, ty, pos, af, g⟩).run P w = .ok (.value v') w' ∧ w'.ownsRow base e 1 v' (n + m) (xs ++ news) ∧ w.grownBy w' v.ownBlock ∧
      (v'.ownBlock = v.ownBlock ∨ v'.ownBlock = some w.heap.size) := by
  obtain ⟨v', w', hrun, h2, h3, h4⟩ := run_append_src (P := P) w base t ty e i z bytes ht hi hz hsize hby hzs v n xs hown A m c news hl hs h1 h63 hbytes hbase
  refine ⟨v', w', ?_, h2, h3, h4⟩
  unfold execOp
  simp only [resolve, invoke, builtin, Sem.run_bind, Sem.run_pure, Result.andThen_ok, List.map_toArray, List.map_cons, List.map_nil, hse, hxe, hrun]
end

/-- 'make([]T, 0, n)'. -/
theorem run_make0 {P : Program} (t e : TypeId) (i : TypeInfo) (z : Value) (hz1 : z.cells = #[z]) (ht : P.underlying t = some (.slice e)) (hi : P.info? e = some i) (hz : i.zero = some z) (hs : i.size = 1)
    (n : Nat) (hb : i.bytes * n ≤ 281474976710656) (h63 : n ≤ 9223372036854775807) (w : World) :
    (Instr.makeSlice t (.int .i64 0) (.int .i64 (n : Int))).run P w = .ok (.slice (some ⟨w.heap.size, 0, none⟩) 0 n) (w.alloc (.cells (List.replicate n z).toArray e)) := by
  have hb' : (i.bytes : Int) * (n : Int) ≤ 281474976710656 := by
    have h : ((i.bytes * n : Nat) : Int) ≤ 281474976710656 := by omega
    rwa [Int.natCast_mul] at h
  have h := run_make (P := P) w t e i z ht hi hz .i64 .i64 0 (n : Int) (by omega) (by omega) hb' (by omega)
  rw [h, hs, hz1, made_one]
  simp
end Go.Proofs.Ytnohfdojcdhfoaa
namespace Go.Proofs.Ytnohfdojcdhfoaa
open Go.RowKit

/-- A slice of integers that came in: nil, or a row of cells. -/
def IsRow (k : IntKind) (w : World) (a : Option Addr) (len cap : Nat) (zs : List Int) : Prop :=
  (a = none ∧ len = 0 ∧ cap = 0 ∧ zs = []) ∨
  ∃ x, a = some x ∧ len ≤ cap ∧ cap ≤ maxLen ∧ zs.length = cap ∧ (∀ i, i < zs.length → w.cell? (x.add i) = some (.int k (zs.getD i 0))) ∧ ∀ n ∈ zs, (Lit.int k n).wf = true

theorem row_src {k : IntKind} {w : World} {a : Option Addr} {len cap : Nat} {zs : List Int} (h : IsRow k w a len cap zs) : (zs.take len).length = len ∧ Src w a ((zs.take len).map (Value.int k)) ∧ ∀ n ∈ zs.take len, (Lit.int k n).wf = true := by
  rcases h with ⟨rfl, rfl, rfl, rfl⟩ | ⟨x, rfl, hlc, _, hz, hcell, hwf⟩
  · exact ⟨rfl, fun hp => absurd hp (by simp), by simp⟩
  · refine ⟨by rw [List.length_take]; omega, fun hp => ?_, fun n hn => hwf n (List.mem_of_mem_take hn)⟩
    have h0 : 0 < zs.length := by
      simp only [List.length_map, List.length_take] at hp
      omega
    have hb : (x.add 0).block = x.block := by unfold Addr.add; split <;> rfl
    refine ⟨x, rfl, by rw [← hb]; exact block_lt_of_cell (hcell 0 h0), fun j v hj => ?_⟩
    simp only [List.getElem?_map, List.getElem?_take] at hj
    split at hj
    · have hjl : j < zs.length := by omega
      rw [List.getElem?_eq_getElem hjl] at hj
      simp only [Option.map_some, Option.some.injEq] at hj
      rw [hcell j hjl, ← hj]
      simp [List.getD, hjl]
    · simp at hj

theorem row_len {k : IntKind} {w : World} {a : Option Addr} {len cap : Nat} {zs : List Int} (h : IsRow k w a len cap zs) : len ≤ maxLen := by
  rcases h with ⟨_, rfl, _, _⟩ | ⟨_, _, hlc, hm, _⟩
  · exact Nat.zero_le _
  · omega

theorem row_spot {k : IntKind} {w : World} {a : Option Addr} {len cap : Nat} {zs : List Int} (h : IsRow k w a len cap zs) (h0 : 0 < len) : ∀ ad, a = some ad → ad.spot = none ∧ ad.block < w.heap.size := by
  rcases h with ⟨_, rfl, _, _⟩ | ⟨x, rfl, hlc, _, hz, hcell, _⟩
  · exact absurd h0 (by omega)
  · intro ad e
    injection e with e
    subst e
    have hc := hcell 0 (by omega)
    have hb : (x.add 0).block = x.block := by unfold Addr.add; split <;> rfl
    refine ⟨?_, by rw [← hb]; exact block_lt_of_cell hc⟩
    have h1 : x.add 0 = x := by simp [Addr.add]
    rw [h1] at hc
    cases hs : x.spot with
    | none => rfl
    | some v =>
      exfalso
      unfold World.cell? at hc
      rw [hs] at hc
      split at hc
      · simp at hc
      · cases hc

/-- Bytes. -/
theorem row_bytes {w : World} {a : Option Addr} {len cap : Nat} {zs : List Int} (h : IsRow .u8 w a len cap zs) : ∃ l : List UInt8, l.length = len ∧ Src w a (bts l) := by
  obtain ⟨h1, h2, h3⟩ := row_src h
  refine ⟨(zs.take len).map fun z => UInt8.ofNat z.toNat, by rw [List.length_map]; exact h1, ?_⟩
  have e : bts ((zs.take len).map fun z => UInt8.ofNat z.toNat) = (zs.take len).map (Value.int .u8) := by
    unfold bts
    rw [List.map_map]
    refine List.map_congr_left fun z hz => ?_
    have hw := h3 z hz
    have hb : 0 ≤ z ∧ z ≤ 255 := by simpa [Lit.wf, IntKind.min, IntKind.max, IntKind.signed, IntKind.bits] using hw
    show Value.int .u8 ((UInt8.ofNat z.toNat).toNat : Int) = Value.int .u8 z
    rw [UInt8.toNat_ofNat']
    congr 1
    omega
  rw [e]
  exact h2

/-- Numbers. -/
theorem row_nums {w : World} {a : Option Addr} {len cap : Nat} {zs : List Int} (h : IsRow .i64 w a len cap zs) :
    ∃ l : List Int, l.length = len ∧ Src w a (nms l) ∧ ∀ n ∈ l, -9223372036854775808 ≤ n ∧ n ≤ 9223372036854775807 := by
  obtain ⟨h1, h2, h3⟩ := row_src h
  refine ⟨zs.take len, h1, h2, fun n hn => ?_⟩
  simpa [Lit.wf, IntKind.min, IntKind.max, IntKind.signed, IntKind.bits] using h3 n hn

end Go.Proofs.Ytnohfdojcdhfoaa
namespace Go.Proofs.Ytnohfdojcdhfoaa
open Go.RowKit

/-- The slice value '.slice A n c' is the bytes l. -/
structure Bs (w : World) (A : Option Addr) (n c : Nat) (l : List UInt8) : Prop where
  len : l.length = n
  src : Src w A (bts l)
  cap : n ≤ c
  max : c ≤ 9223372036854775807
  spot : 0 < n → ∀ ad, A = some ad → ad.spot = none

section
variable {w w' : World} {A : Option Addr} {n c : Nat} {l : List UInt8}
theorem Bs.keep (h : Bs w A n c l) (hc : Chg [] w w') : Bs w' A n c l := ⟨h.len, h.src.keep hc, h.cap, h.max, h.spot⟩
theorem Bs.drew (h : Bs w A n c l) : Bs w.drew A n c l := ⟨h.len, h.src, h.cap, h.max, h.spot⟩
theorem Bs.le (h : Bs w A n c l) : n ≤ 9223372036854775807 := Nat.le_trans h.cap h.max
theorem Bs.nil (w : World) : Bs w none 0 0 [] := ⟨rfl, Src.nil _ _, Nat.le_refl _, by omega, fun h => absurd h (by omega)⟩
theorem Bs.of_whole {g t cap : Nat} {cs : List Value} (h : Whole w g t cs) (hn : l.length = n) (hc : cs.take n = bts l) (hcap : n ≤ cap) (hm : cap ≤ 9223372036854775807) : Bs w (some ⟨g, 0, none⟩) n cap l := by
  refine ⟨hn, ?_, hcap, hm, fun _ ad e => by injection e with e; subst e; rfl⟩
  have := Src.of_whole h 0 n
  rwa [List.drop_zero, hc] at this
theorem Bs.of_all {g t : Nat} (h : Whole w g t (bts l)) (hm : l.length ≤ 9223372036854775807) : Bs w (some ⟨g, 0, none⟩) l.length l.length l :=
  Bs.of_whole h rfl (by rw [List.take_of_length_le (by rw [bts_len]; exact Nat.le_refl _)]) (Nat.le_refl _) hm
/-- An own row of bytes. -/
theorem Bs.of_own {B : Nat} {e : TypeId} {v : Value} (h : w.ownsRow B e 1 v n (bts l)) : ∃ A c, v = .slice A n c ∧ Bs w A n c l ∧ (∀ ad, A = some ad → ad.spot = none ∧ B ≤ ad.block ∧ ad.off = 0 ∧ ad.block < w.heap.size) := by
  obtain ⟨A, c, rfl, hl, hn, hs, hA⟩ := own_slice h
  have hm : c ≤ 9223372036854775807 := by
    rcases h.2 with ⟨h, _⟩ | ⟨g, cap, cur, h, _, _, _, hc, _⟩
    · injection h with _ _ h; omega
    · injection h with _ _ h; subst h; simpa [maxLen] using hc
  exact ⟨A, c, rfl, ⟨by rw [bts_len] at hl; exact hl, hs, hn, hm, fun _ ad e => (hA ad e).1⟩, hA⟩
theorem Bs.of_row {cap : Nat} {zs : List Int} (h : IsRow .u8 w A n cap zs) : ∃ l, Bs w A n cap l := by
  obtain ⟨l, hl, hs⟩ := row_bytes h
  have hc : n ≤ cap ∧ cap ≤ 9223372036854775807 := by
    rcases h with ⟨_, rfl, rfl, _⟩ | ⟨_, _, h1, h2, _⟩
    · exact ⟨Nat.le_refl _, by omega⟩
    · exact ⟨h1, by simpa [maxLen] using h2⟩
  exact ⟨l, hl, hs, hc.1, hc.2, fun h0 ad e => (row_spot h h0 ad e).1⟩

/-- 's[lo:hi]' keeps the model's own 'if' on the address. -/
theorem Bs.cut (h : Bs w A n c l) {lo hi : Nat} (h1 : lo ≤ hi) (h2 : hi ≤ n) : Bs w (if c = lo then A else A.map (·.add lo)) (hi - lo) (c - lo) ((l.drop lo).take (hi - lo)) := by
  have hl := h.len
  refine ⟨by rw [List.length_take, List.length_drop]; omega, fun hp => ?_, by have := h.cap; omega, by have := h.max; omega, fun h0 ad e => ?_⟩
  · have hp' : 0 < hi - lo := by rw [bts_len, List.length_take, List.length_drop] at hp; omega
    rw [if_neg (by have := h.cap; omega)]
    obtain ⟨ad, rfl, hb, hx⟩ := h.src (by rw [bts_len]; omega)
    obtain ⟨b, o, s⟩ := ad
    obtain rfl : s = none := h.spot (by omega) _ rfl
    refine ⟨_, rfl, by simp only [add_plain]; exact hb, fun j v hj => ?_⟩
    simp only [add_plain]
    have h3 := hx (lo + j) v (by
      rw [← hj]
      unfold bts
      rw [List.getElem?_map, List.getElem?_map, List.getElem?_take]
      have : j < hi - lo := by have := (List.getElem?_eq_some_iff.1 hj).1; rw [bts_len, List.length_take] at this; omega
      rw [if_pos this, List.getElem?_drop])
    rw [add_plain] at h3
    rw [← h3, Nat.add_assoc]
  · rw [if_neg (by have := h.cap; omega)] at e
    cases hA : A with
    | none => rw [hA] at e; cases e
    | some ad0 =>
      obtain ⟨b, o, s⟩ := ad0
      obtain rfl : s = none := h.spot (by omega) _ hA
      rw [hA] at e
      simp only [Option.map_some, Option.some.injEq] at e
      subst e
      rw [add_plain]

theorem run_str0 {P : Program} (src e dst : TypeId) (hs : P.underlying src = some (.slice e)) (he : P.underlying e = some (.int .u8)) (hd : P.underlying dst = some .string) (A : Option Addr) (cap : Nat) (w : World) :
    (convert src dst (.slice A 0 cap)).run P w = .ok (.string (strOf [])) w := by
  rcases A with _ | ad
  · exact run_convert_bytes_nil (P := P) w src e hs he 0 cap dst hd
  · rw [run_convert_bytes_string w src dst e _ 0 cap hs he hd]
    simp [Conv.bytesToString, strOf, go_sem]
    rfl
theorem Bs.str {P : Program} (h : Bs w A n c l) (src e dst : TypeId) (hs : P.underlying src = some (.slice e)) (he : P.underlying e = some (.int .u8)) (hd : P.underlying dst = some .string) :
    (convert src dst (.slice A n c)).run P w = .ok (.string (strOf l)) w := by
  rcases Nat.eq_zero_or_pos n with h0 | h0
  · subst h0
    obtain rfl : l = [] := List.eq_nil_of_length_eq_zero h.len
    exact run_str0 src e dst hs he hd A c w
  · have hl := h.len
    subst hl
    exact run_str src e dst hs he hd A l c w h.src (h.spot h0)
end
end Go.Proofs.Ytnohfdojcdhfoaa
namespace Go.Proofs.Ytnohfdojcdhfoaa
open Go.RowKit

/-- What is said of a value, in a world. -/
abbrev Fact := Value → World → Prop
def isV (c : Value) : Fact := fun v _ => v = c
def Keeps (R : World → World → Prop) (φ : Fact) : Prop := ∀ v W W', φ v W → R W W' → φ v W'
theorem keeps_isV {R : World → World → Prop} (c : Value) : Keeps R (isV c) := fun _ _ _ h _ => h

/-- What is said of the temporaries so far, the latest first. -/
abbrev Said := List (Option Tmp × Fact)
def look : Said → Tmp → Option Fact
  | (d, φ) :: F, t => if d = some t then some φ else look F t
  | [], _ => none
def factOf (a0 : Act) (F : Said) : Operand → Fact
  | .tmp t => match look F t with
    | some φ => φ
    | none => isV (a0.eval (.tmp t))
  | x => isV (a0.eval x)
def allFacts (a0 : Act) (F : Said) (ev : Operand → Value) (W : World) : List Operand → Prop
  | [] => True
  | x :: xs => factOf a0 F x (ev x) W ∧ allFacts a0 F ev W xs
/-- Constants and functions are what they are. -/
structure EvOk (ev : Operand → Value) : Prop where
  const : ∀ v, ev (.const v) = v
  func : ∀ f, ev (.func f) = .func (.func f) #[] #[]
  global : ∀ g, ev (.global g) = .pointer (some ⟨g, 0, none⟩)

/-- An operation that has been carried out in world W has left a value of which φ holds. -/
def Leaves (P : Program) (R : World → World → Prop) (φ : Fact) (W : World) : Result Next → Prop
  | .ok (.value v) w' => R W w' ∧ φ v w'
  | .ok .skip w' => R W w' ∧ φ undef w'
  | .ok (.enter f args) w' => Calls P f args w' (fun e w'' => ∃ v, e = .returned v ∧ R W w'' ∧ φ v w'')
  | _ => False

/-- Is the operation wanted, as its guard's fact says? -/
def guardIs (ops : List Oper) (F : Said) (b : Bool) (o : Oper) : Prop :=
  match o.guard with
  | none => b = true
  | some (g, want) => match (ops[g]?).bind (·.dst) with
    | some d => look F d = some (isV (.bool (want == b)))
    | none => False

/-- The same by a fact that says more of what decides. -/
def guardSays (ops : List Oper) (F : Said) (φ : Fact) (b : Bool) (o : Oper) : Prop :=
  match o.guard with
  | none => False
  | some (g, want) => match (ops[g]?).bind (·.dst) with
    | some d => look F d = some φ ∧ ∀ v W, φ v W → v = .bool (want == b)
    | none => False
/-- Was what decides whether the operation is wanted itself not wanted? -/
def guardUn (ops : List Oper) (F : Said) (o : Oper) : Prop :=
  match o.guard with
  | none => False
  | some (g, _) => match (ops[g]?).bind (·.dst) with
    | some d => look F d = some (isV undef)
    | none => False

/-- How a region's worlds may turn: by most operations as R says, by those of 'hard' as H says; what is said by those of 'soft' need not outlast a hard one. -/
structure Turns where
  R : World → World → Prop
  H : World → World → Prop
  hard : List Nat
  soft : List Nat
structure Turns.Ok (T : Turns) : Prop where
  refl : ∀ a, T.R a a
  sub : ∀ a b, T.R a b → T.H a b
  trans : ∀ a b c, T.H a b → T.H b c → T.H a c
def Turns.by_ (T : Turns) (k : Nat) : World → World → Prop := if T.hard.contains k then T.H else T.R

/-- Some steps of R. -/
inductive Star (R : World → World → Prop) : World → World → Prop
  | refl (a : World) : Star R a a
  | step {a b c : World} (h : Star R a b) (k : R b c) : Star R a c
theorem Star.fold {R S : World → World → Prop} (hr : ∀ a, S a a) (ht : ∀ a b c, S a b → R b c → S a c) {a b : World} (h : Star R a b) : S a b := by
  induction h with
  | refl => exact hr _
  | step _ k ih => exact ht _ _ _ ih k

/-- Which operations come ahead of one, as bits. -/
def ancOf (done : List Nat) : List Edge → Nat
  | [] => 0
  | e :: es => if Region.binds .any e then (2 ^ e.on ||| done.getD e.on 0) ||| ancOf done es else ancOf done es
def ancsGo : List Oper → List Nat → List Nat
  | [], done => done
  | o :: os, done => ancsGo os (done ++ [ancOf done o.after.toList])
def ancs (ops : List Oper) : List Nat := ancsGo ops []
/-- Does all that is hard come behind operation k? -/
def earlyB (T : Turns) (ops : List Oper) (k : Nat) : Bool := T.hard.all fun i => Nat.beq i k || ((ancs ops).getD i 0).testBit k
/-- Operation number k. -/
structure OpOk (P : Program) (T : Turns) (w0 : World) (a0 : Act) (ops : List Oper) (F : Said) (k : Nat) (o : Oper) (φ : Fact) : Prop where
  keeps : Keeps T.R φ
  firm : T.soft.contains k = true ∨ Keeps T.H φ
  does : (guardIs ops F true o ∧ ∀ ev W, EvOk ev → T.H w0 W → allFacts a0 F ev W o.op.operands.toList → Leaves P (T.by_ k) φ W ((execOp ev o).run P W)) ∨ ((guardIs ops F false o ∨ guardUn ops F o) ∧ φ = isV undef) ∨ (∃ φg, guardSays ops F φg true o ∧ ∀ ev W gv, EvOk ev → T.H w0 W → φg gv W → allFacts a0 F ev W o.op.operands.toList → Leaves P (T.by_ k) φ W ((execOp ev o).run P W)) ∨ (∃ φg, guardSays ops F φg false o ∧ φ = isV undef) ∨ (guardIs ops F true o ∧ earlyB T ops k = true ∧ ∀ ev W, EvOk ev → Star T.R w0 W → allFacts a0 F ev W o.op.operands.toList → Leaves P (T.by_ k) φ W ((execOp ev o).run P W))

def putAll (a : Act) : List Oper → (Tmp → Value) → Act
  | [], _ => a
  | o :: os, vs => putAll (match o.dst with | some d => a.put (some d) (vs d) | none => a) os vs

/-! ### What is asked of the region itself -/
/-- Does all that is hard come ahead of operation j? -/
def lastB (T : Turns) (ops : List Oper) (j : Nat) : Bool := T.hard.all fun i => Nat.beq i j || ((ancs ops).getD j 0).testBit i
/-- Does a soft operation write this temporary, ahead of a hard one? -/
def softAt (T : Turns) (ops : List Oper) (t : Tmp) : Bool := T.soft.any fun k => ((ops[k]?).bind (·.dst)) == some t && !lastB T ops k
/-- The walk of the operations in their order, from number k on. -/
def Flow (P : Program) (T : Turns) (w0 : World) (a0 : Act) (ops : List Oper) (Q : Exit → Act → World → Prop) : Said → Nat → List Oper → Prop
  | F, _, [] => ∀ (vs : Tmp → Value) W, T.H w0 W → (∀ t φ, look F t = some φ → softAt T ops t = false → φ (vs t) W) → Q .normal (putAll a0 ops vs) W
  | F, k, o :: rest => ∃ φ, OpOk P T w0 a0 ops F k o φ ∧ Flow P T w0 a0 ops Q ((o.dst, φ) :: F) (k + 1) rest

def lowB (ops : List Oper) : Bool := (List.range ops.length).all fun i => match ops[i]? with
  | some o => o.after.toList.all fun e => !Region.binds .any e || Nat.blt e.on i
  | none => true
def sizeB (ops : List Oper) (n : Nat) : Bool := ops.all fun o => match o.dst with | some d => Nat.blt d n | none => true
def distB : List Oper → Bool
  | [] => true
  | o :: os => (match o.dst with | some d => (os.all fun o' => match o'.dst with | some d' => !(Nat.beq d d') | none => true) | none => true) && distB os
def depsB (ops : List Oper) (an : List Nat) : Bool := (List.range ops.length).all fun i => match ops[i]? with
  | some o => (o.looksAt ops.toArray).all fun t => (List.range ops.length).all fun j => match ops[j]? with
    | some o' => (match o'.dst with | some d => !(Nat.beq d t) | none => true) || Nat.beq i j || (if Nat.blt j i then (an.getD i 0).testBit j else (an.getD j 0).testBit i)
    | none => true
  | none => true
/-- What a soft operation j says is no longer asked behind the hard one i, or is said behind it alone. -/
def deadB (ops : List Oper) (an : List Nat) (i j : Nat) : Bool := Nat.beq i j || (an.getD j 0).testBit i || match (ops[j]?).bind (·.dst) with
  | some d => (List.range ops.length).all fun k => match ops[k]? with
    | some o => !((o.looksAt ops.toArray).contains d) || Nat.beq k i || (an.getD i 0).testBit k
    | none => true
  | none => true
def flowB (T : Turns) (ops : List Oper) (n : Nat) : Bool := Region.noSelect ops.toArray && (lowB ops && (sizeB ops n && (distB ops && (depsB ops (ancs ops) && T.hard.all fun i => T.soft.all fun j => deadB ops (ancs ops) i j))))

section sound
variable {P : Program} {T : Turns} {w0 : World} {a0 : Act} {ops : List Oper} {Q : Exit → Act → World → Prop}

theorem lowB_spec (h : lowB ops = true) {i : Nat} {o : Oper} (hi : ops[i]? = some o) {e : Edge} (he : e ∈ o.after) (hb : Region.binds .any e = true) : e.on < i := by
  have hl : i < ops.length := (List.getElem?_eq_some_iff.1 hi).1
  have h1 := List.all_eq_true.1 h i (List.mem_range.2 hl)
  simp only [hi] at h1
  have h2 := List.all_eq_true.1 h1 e (by simpa using he)
  simpa [hb, Nat.blt_eq] using h2
theorem sizeB_spec {n : Nat} (h : sizeB ops n = true) {i : Nat} {o : Oper} (hi : ops[i]? = some o) {d : Tmp} (hd : o.dst = some d) : d < n := by
  have h1 := List.all_eq_true.1 h o (List.mem_of_getElem? hi)
  simpa [hd, Nat.blt_eq] using h1
theorem distB_spec : ∀ {ops : List Oper}, distB ops = true → ∀ {i j : Nat} {o o' : Oper}, i < j → ops[i]? = some o → ops[j]? = some o' → ∀ {d : Tmp}, o.dst = some d → o'.dst ≠ some d := by
  intro ops
  induction ops with
  | nil => intro _ i j o o' _ hi; cases hi
  | cons x xs ih =>
    intro h i j o o' hij hi hj d hd hd'
    simp only [distB, Bool.and_eq_true] at h
    obtain ⟨j, rfl⟩ : ∃ k, j = k + 1 := ⟨j - 1, by omega⟩
    cases i with
    | zero =>
      simp only [List.getElem?_cons_zero, Option.some.injEq] at hi
      subst hi
      have h1 := h.1
      simp only [hd] at h1
      have h2 := List.all_eq_true.1 h1 o' (List.mem_of_getElem? (by simpa using hj))
      simp [hd'] at h2
    | succ i =>
      rw [List.getElem?_cons_succ] at hi hj
      exact ih h.2 (by omega) hi hj hd hd'
theorem depsB_spec {an : List Nat} (h : depsB ops an = true) {i : Nat} {o : Oper} (hi : ops[i]? = some o) {t : Tmp} (ht : t ∈ o.looksAt ops.toArray) {j : Nat} {o' : Oper} (hj : ops[j]? = some o') (hd : o'.dst = some t) (hne : i ≠ j) :
    (if j < i then (an.getD i 0).testBit j else (an.getD j 0).testBit i) = true := by
  have hl : i < ops.length := (List.getElem?_eq_some_iff.1 hi).1
  have hl2 : j < ops.length := (List.getElem?_eq_some_iff.1 hj).1
  have h1 := List.all_eq_true.1 h i (List.mem_range.2 hl)
  simp only [hi] at h1
  have h2 := List.all_eq_true.1 (List.all_eq_true.1 h1 t ht) j (List.mem_range.2 hl2)
  simp only [hj, hd] at h2
  by_cases hlt : j < i
  · have hb : Nat.blt j i = true := by simpa [Nat.blt_eq] using hlt
    rw [if_pos hlt]
    simpa [hne, hb] using h2
  · have hb : Nat.blt j i = false := by
      cases hc : Nat.blt j i
      · rfl
      · rw [Nat.blt_eq] at hc; exact absurd hc hlt
    rw [if_neg hlt]
    simpa [hne, hb] using h2

theorem ancOf_bit {done : List Nat} {i : Nat} : ∀ {es : List Edge}, (ancOf done es).testBit i = true → ∃ e, e ∈ es ∧ Region.binds .any e = true ∧ (i = e.on ∨ (done.getD e.on 0).testBit i = true)
  | [], h => by simp [ancOf] at h
  | e :: es, h => by
    unfold ancOf at h
    split at h
    · rename_i hb
      rw [Nat.testBit_or, Nat.testBit_or, Bool.or_eq_true, Bool.or_eq_true, Nat.testBit_two_pow] at h
      rcases h with (h | h) | h
      · exact ⟨e, List.mem_cons_self, hb, .inl (by simpa using (of_decide_eq_true h).symm)⟩
      · exact ⟨e, List.mem_cons_self, hb, .inr h⟩
      · obtain ⟨e', h1, h2⟩ := ancOf_bit h
        exact ⟨e', List.mem_cons_of_mem _ h1, h2⟩
    · obtain ⟨e', h1, h2⟩ := ancOf_bit h
      exact ⟨e', List.mem_cons_of_mem _ h1, h2⟩
theorem ancsGo_in {L : Nat → Prop} (hL : ∀ (j : Nat) (o : Oper), ops[j]? = some o → L j → ∀ e ∈ o.after, Region.binds .any e = true → L e.on) {i : Nat} : ∀ (rest : List Oper) (done : List Nat), (∀ j : Nat, rest[j]? = ops[done.length + j]?) →
    (∀ j, L j → (done.getD j 0).testBit i = true → L i) → ∀ j, L j → ((ancsGo rest done).getD j 0).testBit i = true → L i
  | [], _, _, h => h
  | o :: rest, done, hr, h => by
    unfold ancsGo
    refine ancsGo_in hL rest _ (fun j => ?_) (fun j hj hb => ?_)
    · have := hr (j + 1)
      rw [List.getElem?_cons_succ] at this
      rw [this]
      congr 1
      simp only [List.length_append, List.length_cons, List.length_nil]
      omega
    · have h0 : ops[done.length]? = some o := by simpa using (hr 0).symm
      rcases Nat.lt_trichotomy j done.length with hlt | heq | hgt
      · rw [List.getD_eq_getElem?_getD, List.getElem?_append_left hlt, ← List.getD_eq_getElem?_getD] at hb
        exact h j hj hb
      · subst heq
        rw [List.getD_eq_getElem?_getD, List.getElem?_append_right (Nat.le_refl _)] at hb
        simp only [Nat.sub_self, List.getElem?_cons_zero, Option.getD_some] at hb
        obtain ⟨e, he, hbd, hcase⟩ := ancOf_bit hb
        have hLe := hL _ o h0 hj e (by simpa using he) hbd
        rcases hcase with rfl | hc
        · exact hLe
        · exact h e.on hLe hc
      · rw [List.getD_eq_getElem?_getD, List.getElem?_eq_none (by simp only [List.length_append, List.length_cons, List.length_nil]; omega)] at hb
        simp at hb
theorem ancs_in {L : Nat → Prop} (hL : ∀ (j : Nat) (o : Oper), ops[j]? = some o → L j → ∀ e ∈ o.after, Region.binds .any e = true → L e.on) {i j : Nat} (hj : L j) (hb : ((ancs ops).getD j 0).testBit i = true) : L i :=
  ancsGo_in hL ops [] (fun j => by simp) (fun j _ hb => by simp at hb) j hj hb

/-- What is said by the operations that have a fact in Φ. -/
def tab : List Oper → List Fact → Said
  | o :: os, φ :: Φ => tab os Φ ++ [(o.dst, φ)]
  | _, _ => []
theorem tab_snoc : ∀ (ops : List Oper) (Φ : List Fact) (o : Oper) (φ : Fact), ops[Φ.length]? = some o → tab ops (Φ ++ [φ]) = (o.dst, φ) :: tab ops Φ
  | [], Φ, o, φ, h => by simp at h
  | x :: os, [], o, φ, h => by
    simp only [List.length_nil, List.getElem?_cons_zero, Option.some.injEq] at h
    subst h
    cases os <;> rfl
  | x :: os, ψ :: Φ, o, φ, h => by
    have := tab_snoc os Φ o φ (by simpa using h)
    simp only [List.cons_append, tab, this]
theorem look_app (F G : Said) (t : Tmp) : look (F ++ G) t = (look F t).or (look G t) := by
  induction F with
  | nil => rfl
  | cons x F ih =>
    obtain ⟨d, φ⟩ := x
    simp only [List.cons_append, look]
    split
    · rfl
    · exact ih
theorem seek_some : ∀ {ops : List Oper} {Φ : List Fact} {t : Tmp} {φ : Fact}, look (tab ops Φ) t = some φ → ∃ (j : Nat) (o : Oper), ops[j]? = some o ∧ o.dst = some t ∧ Φ[j]? = some φ := by
  intro ops
  induction ops with
  | nil => intro Φ t φ h; simp [tab, look] at h
  | cons o os ih =>
    intro Φ t φ h
    cases Φ with
    | nil => simp [tab, look] at h
    | cons ψ Φ =>
      simp only [tab, look_app] at h
      cases h1 : look (tab os Φ) t with
      | some χ =>
        rw [h1] at h
        simp only [Option.some_or, Option.some.injEq] at h
        subst h
        obtain ⟨j, o', k1, k2, k3⟩ := ih h1
        exact ⟨j + 1, o', by simpa using k1, k2, by simpa using k3⟩
      | none =>
        rw [h1] at h
        simp only [Option.none_or, look] at h
        split at h
        · rename_i hd
          injection h with h
          subst h
          exact ⟨0, o, rfl, hd, rfl⟩
        · cases h
theorem seek_none : ∀ {ops : List Oper} {Φ : List Fact} {t : Tmp}, look (tab ops Φ) t = none → ∀ {j : Nat} {o : Oper}, j < Φ.length → ops[j]? = some o → o.dst ≠ some t := by
  intro ops
  induction ops with
  | nil => intro Φ t _ j o _ h; simp at h
  | cons x os ih =>
    intro Φ t h j o hj ho
    cases Φ with
    | nil => simp at hj
    | cons ψ Φ =>
      simp only [tab, look_app, Option.or_eq_none_iff] at h
      cases j with
      | zero =>
        simp only [List.getElem?_cons_zero, Option.some.injEq] at ho
        subst ho
        intro hd
        have h2 := h.2
        simp [look, hd] at h2
      | succ j => exact ih h.1 (by simpa using hj) (by simpa using ho)

/-- The operations and what is said of them. -/
theorem flow_all {Φ : List Fact} {rest : List Oper} (hrest : ∀ j : Nat, rest[j]? = ops[Φ.length + j]?) (h : Flow P T w0 a0 ops Q (tab ops Φ) Φ.length rest) :
    ∃ Ψ : List Fact, Ψ.length = rest.length ∧ (∀ k o φ, rest[k]? = some o → Ψ[k]? = some φ → OpOk P T w0 a0 ops (tab ops (Φ ++ Ψ.take k)) (Φ.length + k) o φ) ∧ ∀ n, Flow P T w0 a0 ops Q (tab ops (Φ ++ Ψ)) n [] := by
  induction rest generalizing Φ with
  | nil => exact ⟨[], rfl, fun k o φ hk => by simp at hk, fun n => by simpa only [List.append_nil] using (show Flow P T w0 a0 ops Q (tab ops Φ) n [] from h)⟩
  | cons o rest ih =>
    obtain ⟨φ, hφ, h⟩ := h
    have h0 : ops[Φ.length]? = some o := by simpa using (hrest 0).symm
    rw [← tab_snoc ops Φ o φ h0] at h
    obtain ⟨Ψ, hl, hk, he⟩ := ih (Φ := Φ ++ [φ]) (fun j => by have := hrest (j + 1); simp only [List.getElem?_cons_succ] at this; rw [this]; congr 1; simp only [List.length_append, List.length_cons, List.length_nil]; omega) (by simpa using h)
    refine ⟨φ :: Ψ, by simp [hl], fun k o' φ' ho hφ' => ?_, fun n => by simpa using he n⟩
    cases k with
    | zero =>
      simp only [List.getElem?_cons_zero, Option.some.injEq] at ho hφ'
      subst ho hφ'
      simpa using hφ
    | succ k =>
      have := hk k o' φ' (by simpa using ho) (by simpa using hφ')
      simp only [List.length_append, List.length_cons, List.length_nil] at this
      rw [show Φ.length + (k + 1) = Φ.length + 1 + k by omega]
      simpa using this

theorem putAll_eq : ∀ (l : List Oper) (a0 a : Act), a.defers = a0.defers → a.tmps.size = a0.tmps.size →
    (∀ t, (∀ (j : Nat) (o : Oper), l[j]? = some o → o.dst ≠ some t) → a.tmps[t]? = a0.tmps[t]?) → putAll a0 l (fun t => a.eval (.tmp t)) = a
  | [], a0, a, hd, hs, ho => by
    obtain ⟨ta, da⟩ := a
    obtain ⟨tb, db⟩ := a0
    simp only at hd hs ho
    subst hd
    simp only [putAll, Act.mk.injEq, and_true]
    exact (Array.ext_getElem? fun i => (ho i (by simp))).symm
  | o :: l, a0, a, hd, hs, ho => by
    unfold putAll
    refine putAll_eq l _ a ?_ ?_ (fun t ht => ?_)
    · cases o.dst <;> exact hd
    · cases o.dst <;> simpa [Act.put] using hs
    · cases hdst : o.dst with
      | none =>
        refine ho t fun j o' hj => ?_
        cases j with
        | zero => simp only [List.getElem?_cons_zero, Option.some.injEq] at hj; subst hj; rw [hdst]; simp
        | succ j => exact ht j o' (by simpa using hj)
      | some d =>
        by_cases htd : d = t
        · subst htd
          simp only [Act.put]
          rcases Nat.lt_or_ge d a0.tmps.size with hlt | hge
          · rw [Array.getElem?_setIfInBounds_self_of_lt hlt]
            have : d < a.tmps.size := by rw [hs]; exact hlt
            simp [Act.eval, this]
          · rw [Array.getElem?_eq_none (by rw [hs]; exact hge), Array.getElem?_eq_none (by rw [Array.size_setIfInBounds]; exact hge)]
        · simp only [Act.put]
          rw [Array.getElem?_setIfInBounds_ne htd]
          refine ho t fun j o' hj => ?_
          cases j with
          | zero => simp only [List.getElem?_cons_zero, Option.some.injEq] at hj; subst hj; rw [hdst]; intro hc; injection hc with hc; exact htd hc
          | succ j => exact ht j o' (by simpa using hj)

/-- An operation reads temporary d that has not come up yet. -/
def Wanted_ (ops : List Oper) (listed : Array Bool) (d : Tmp) : Prop := ∃ (k : Nat) (o : Oper), ops[k]? = some o ∧ d ∈ o.looksAt ops.toArray ∧ listed.getD k false = false
/-- What holds while the operations of 'listed' have come up. -/
structure Midst (T : Turns) (w0 : World) (a0 : Act) (ops : List Oper) (Φ : List Fact) (listed : Array Bool) (a : Act) (W : World) : Prop where
  len : listed.size = ops.length
  rel : T.H w0 W
  early : (∀ i, T.hard.contains i = true → listed.getD i false = false) → Star T.R w0 W
  defers : a.defers = a0.defers
  size : a.tmps.size = a0.tmps.size
  out : ∀ t, (∀ (j : Nat) (o : Oper), ops[j]? = some o → listed.getD j false = true → o.dst ≠ some t) → a.tmps[t]? = a0.tmps[t]?
  fact : ∀ (j : Nat) o φ, ops[j]? = some o → Φ[j]? = some φ → listed.getD j false = true → ∀ d, o.dst = some d → (T.soft.contains j = false ∨ Wanted_ ops listed d ∨ lastB T ops j = true) → φ (a.eval (.tmp d)) W
  closed : ∀ (j : Nat) (o : Oper), ops[j]? = some o → listed.getD j false = true → ∀ e ∈ o.after, Region.binds .any e = true → listed.getD e.on false = true

theorem Midst.anc {Φ : List Fact} {listed : Array Bool} {a : Act} {W : World} (h : Midst T w0 a0 ops Φ listed a W) {i j : Nat} (hj : listed.getD j false = true) (hb : ((ancs ops).getD j 0).testBit i = true) : listed.getD i false = true :=
  ancs_in (L := fun j => listed.getD j false = true) (fun j o ho hl e he hbd => h.closed j o ho hl e he hbd) hj hb

theorem getD_ff {listed : Array Bool} {i : Nat} (h : listed.getD i true = false) : listed.getD i false = false := by
  rcases Nat.lt_or_ge i listed.size with h' | h'
  · simpa [Array.getD, h'] using h
  · simp [Array.getElem?_eq_none h']

theorem undef_no_bool (b : Bool) : undef ≠ Value.bool b := by intro h; cases h

/-- The operation that comes up sees what is said of its operands. -/
theorem midst_facts {Φ : List Fact} {listed : Array Bool} {a : Act} {W : World} (hck : depsB ops (ancs ops) = true) (hlen : Φ.length = ops.length) (h : Midst T w0 a0 ops Φ listed a W) {i : Nat} {o : Oper} (hi : ops[i]? = some o)
    (hun : listed.getD i false = false) (hall : ∀ e ∈ o.after, Region.binds .any e = true → listed.getD e.on false = true) {t : Tmp} (ht : t ∈ o.looksAt ops.toArray) :
    factOf a0 (tab ops (Φ.take i)) (.tmp t) (a.eval (.tmp t)) W := by
  show (match look (tab ops (Φ.take i)) t with | some φ => φ | none => isV (a0.eval (.tmp t))) (a.eval (.tmp t)) W
  have hil : i < ops.length := (List.getElem?_eq_some_iff.1 hi).1
  cases hs : look (tab ops (Φ.take i)) t with
  | some φ =>
    obtain ⟨j, o', hj, hd, hφ⟩ := seek_some hs
    have hji : j < i := by
      have := (List.getElem?_eq_some_iff.1 hφ).1
      rw [List.length_take] at this
      omega
    rw [List.getElem?_take_of_lt hji] at hφ
    have hdir := depsB_spec hck hi ht hj hd (by omega)
    rw [if_pos hji] at hdir
    have hl : listed.getD j false = true := by
      -- what comes ahead of i has come up
      have hL : ∀ (j : Nat) (o' : Oper), ops[j]? = some o' → (listed.getD j false = true ∨ j = i) → ∀ e ∈ o'.after, Region.binds .any e = true → (listed.getD e.on false = true ∨ e.on = i) := by
        intro j o' ho' hj e he hbd
        rcases hj with hj | rfl
        · exact .inl (h.closed j o' ho' hj e he hbd)
        · rw [hi] at ho'
          injection ho' with ho'
          subst ho'
          exact .inl (hall e he hbd)
      rcases ancs_in (L := fun j => listed.getD j false = true ∨ j = i) hL (.inr rfl) hdir with h1 | h1
      · exact h1
      · omega
    exact h.fact j o' φ hj hφ hl t hd (.inr (.inl ⟨i, o, hi, ht, hun⟩))
  | none =>
    have hno : ∀ (j : Nat) (o' : Oper), ops[j]? = some o' → listed.getD j false = true → o'.dst ≠ some t := by
      intro j o' hj hl hd
      by_cases hji : j < i
      · exact seek_none hs (by rw [List.length_take]; omega) hj hd
      · by_cases e : i = j
        · subst e; rw [hun] at hl; cases hl
        · have hdir := depsB_spec hck hi ht hj hd e
          rw [if_neg hji] at hdir
          have := h.anc hl hdir
          rw [hun] at this; cases this
    have h2 := h.out t hno
    show a.eval (.tmp t) = a0.eval (.tmp t)
    simp only [Act.eval, Array.getD_eq_getD_getElem?, h2]

theorem midst_all {Φ : List Fact} {a : Act} {W : World} {i : Nat} {o : Oper} (h : ∀ t, t ∈ o.looksAt ops.toArray → factOf a0 (tab ops (Φ.take i)) (.tmp t) (a.eval (.tmp t)) W) :
    ∀ l : List Operand, (∀ x ∈ l, x ∈ o.op.operands.toList) → allFacts a0 (tab ops (Φ.take i)) a.eval W l
  | [], _ => trivial
  | x :: l, hx => by
    refine ⟨?_, midst_all h l fun y hy => hx y (List.mem_cons_of_mem _ hy)⟩
    cases x with
    | tmp t => exact h t (List.mem_append_left _ (List.mem_filterMap.2 ⟨.tmp t, hx _ List.mem_cons_self, rfl⟩))
    | const v => rfl
    | global g => rfl
    | func f => rfl

theorem yielded_of {a : Act} {g d : Nat} {b : Bool} (hd : (ops[g]?).bind (·.dst) = some d) (hv : a.eval (.tmp d) = .bool b) : yielded ops.toArray a.tmps g = some b := by
  unfold yielded
  rw [List.getElem?_toArray, hd]
  simp only [Option.bind_some]
  simp only [Act.eval, Array.getD_eq_getD_getElem?] at hv
  cases h : a.tmps[d]? with
  | none => rw [h] at hv; exact absurd hv (undef_no_bool b)
  | some v => rw [h] at hv; simp only [Option.getD_some] at hv; subst hv; rfl

theorem guard_of {Φ : List Fact} {a : Act} {W : World} {i : Nat} {o : Oper} {b : Bool} (hg : guardIs ops (tab ops (Φ.take i)) b o) (h : ∀ t, t ∈ o.looksAt ops.toArray → factOf a0 (tab ops (Φ.take i)) (.tmp t) (a.eval (.tmp t)) W) :
    Region.wanted o (yielded ops.toArray a.tmps) = b := by
  unfold guardIs at hg
  unfold Region.wanted
  cases hgd : o.guard with
  | none => simp only [hgd] at hg; rw [hg]
  | some gw =>
    obtain ⟨g, want⟩ := gw
    simp only [hgd] at hg
    split at hg
    · rename_i d hd
      have h1 := h d (by
        refine List.mem_append_right _ ?_
        simp only [hgd, List.getElem?_toArray, hd]
        simp)
      simp only [factOf, hg] at h1
      have h2 : a.eval (.tmp d) = .bool (want == b) := h1
      simp only [yielded_of hd h2]
      cases want <;> cases b <;> rfl
    · exact hg.elim

theorem guard_says {Φ : List Fact} {a : Act} {W : World} {i : Nat} {o : Oper} {b : Bool} {φ : Fact} (hg : guardSays ops (tab ops (Φ.take i)) φ b o) (h : ∀ t, t ∈ o.looksAt ops.toArray → factOf a0 (tab ops (Φ.take i)) (.tmp t) (a.eval (.tmp t)) W) :
    Region.wanted o (yielded ops.toArray a.tmps) = b ∧ ∃ gv, φ gv W := by
  unfold guardSays at hg
  unfold Region.wanted
  cases hgd : o.guard with
  | none => simp only [hgd] at hg
  | some gw =>
    obtain ⟨g, want⟩ := gw
    simp only [hgd] at hg
    split at hg
    · rename_i d hd
      have h1 := h d (by
        refine List.mem_append_right _ ?_
        simp only [hgd, List.getElem?_toArray, hd]
        simp)
      obtain ⟨hl, hv⟩ := hg
      simp only [factOf, hl] at h1
      have h2 : a.eval (.tmp d) = .bool (want == b) := hv _ _ h1
      refine ⟨?_, _, h1⟩
      simp only [yielded_of hd h2]
      cases want <;> cases b <;> rfl
    · exact hg.elim

theorem yielded_un {a : Act} {g d : Nat} (hd : (ops[g]?).bind (·.dst) = some d) (hv : a.eval (.tmp d) = undef) : yielded ops.toArray a.tmps g = none := by
  unfold yielded
  rw [List.getElem?_toArray, hd]
  simp only [Option.bind_some]
  simp only [Act.eval, Array.getD_eq_getD_getElem?] at hv
  cases h : a.tmps[d]? with
  | none => rfl
  | some v => rw [h] at hv; simp only [Option.getD_some] at hv; subst hv; rfl
theorem guard_un {Φ : List Fact} {a : Act} {W : World} {i : Nat} {o : Oper} (hg : guardUn ops (tab ops (Φ.take i)) o) (h : ∀ t, t ∈ o.looksAt ops.toArray → factOf a0 (tab ops (Φ.take i)) (.tmp t) (a.eval (.tmp t)) W) :
    Region.wanted o (yielded ops.toArray a.tmps) = false := by
  unfold guardUn at hg
  unfold Region.wanted
  cases hgd : o.guard with
  | none => simp only [hgd] at hg
  | some gw =>
    obtain ⟨g, want⟩ := gw
    simp only [hgd] at hg
    split at hg
    · rename_i d hd
      have h1 := h d (by
        refine List.mem_append_right _ ?_
        simp only [hgd, List.getElem?_toArray, hd]
        simp)
      simp only [factOf, hg] at h1
      have h2 : a.eval (.tmp d) = undef := h1
      simp only [yielded_un hd h2]
      rfl
    · exact hg.elim

theorem midst_step {Φ : List Fact} {listed : Array Bool} {a : Act} {W W' : World} (hT : T.Ok) (hk : ∀ (j : Nat) φ, Φ[j]? = some φ → Keeps T.R φ ∧ (T.soft.contains j = true ∨ Keeps T.H φ)) (hdead : ∀ i j, T.hard.contains i = true → T.soft.contains j = true → deadB ops (ancs ops) i j = true) (hsz : sizeB ops a0.tmps.size = true) (hdi : distB ops = true)
    (h : Midst T w0 a0 ops Φ listed a W) {i : Nat} {o : Oper} {φ : Fact} (hi : ops[i]? = some o) (hun : listed.getD i false = false) (hφ : Φ[i]? = some φ) (hall : ∀ e ∈ o.after, Region.binds .any e = true → listed.getD e.on false = true)
    {v : Value} (hW : T.by_ i W W') (hv : φ v W') : Midst T w0 a0 ops Φ (listed.setIfInBounds i true) (a.put o.dst v) W' := by
  have hil : i < ops.length := (List.getElem?_eq_some_iff.1 hi).1
  have hsz2 : (a.put o.dst v).tmps.size = a.tmps.size := by cases o.dst <;> simp [Act.put]
  have hlist : ∀ j, (listed.setIfInBounds i true).getD j false = true → j = i ∨ listed.getD j false = true := by
    intro j hj
    by_cases e : i = j
    · exact .inl e.symm
    · rw [getD_set_ne false e] at hj; exact .inr hj
  have hWH : T.H W W' := by
    unfold Turns.by_ at hW
    split at hW
    · exact hW
    · exact hT.sub _ _ hW
  refine ⟨by rw [Array.size_setIfInBounds]; exact h.len, hT.trans _ _ _ h.rel hWH, fun hno => ?_, by cases o.dst <;> exact h.defers, hsz2.trans h.size, fun t ht => ?_, fun j o' ψ hj hψ hl d hd hwant => ?_, fun j o' hj hl e he hb => ?_⟩
  · have hnh : T.hard.contains i = false := by
      cases hc : T.hard.contains i with
      | false => rfl
      | true =>
        have := hno i hc
        rw [Array.getD_eq_getD_getElem?, Array.getElem?_setIfInBounds_self_of_lt (by rw [h.len]; exact hil)] at this
        cases this
    have h1 := h.early fun j hj => by
      cases hc : listed.getD j false with
      | false => rfl
      | true => have := hno j hj; rw [getD_set_true hc] at this; cases this
    unfold Turns.by_ at hW
    rw [hnh] at hW
    exact .step h1 hW
  · have hti : o.dst ≠ some t := ht i o hi (by simp [h.len, hil])
    have h1 : (a.put o.dst v).tmps[t]? = a.tmps[t]? := by
      cases hd : o.dst with
      | none => rfl
      | some d =>
        simp only [Act.put]
        exact Array.getElem?_setIfInBounds_ne fun e => hti (by rw [hd, e])
    rw [h1]
    exact h.out t fun j o' hj hl => ht j o' hj (getD_set_true hl)
  · by_cases e : j = i
    · subst e
      rw [hi] at hj
      injection hj with hj
      subst hj
      rw [hφ] at hψ
      injection hψ with hψ
      subst hψ
      have hds : d < a.tmps.size := by rw [h.size]; exact sizeB_spec hsz hi hd
      have : (a.put o.dst v).eval (.tmp d) = v := by simp [hd, Act.put, Act.eval, hds]
      rw [this]
      exact hv
    · have hl' := (hlist j hl).resolve_left e
      have hwant0 : T.soft.contains j = false ∨ Wanted_ ops listed d ∨ lastB T ops j = true := hwant.imp id fun hx => hx.imp (fun ⟨k, ok, h1, h2, h3⟩ => ⟨k, ok, h1, h2, by
        cases hc : listed.getD k false with
        | false => rfl
        | true => rw [getD_set_true hc] at h3; cases h3⟩) id
      have h1 : ψ (a.eval (.tmp d)) W' := by
        have hpre := h.fact j o' ψ hj hψ hl' d hd hwant0
        unfold Turns.by_ at hW
        split at hW
        · rename_i hhard
          rcases (hk j ψ hψ).2 with hsoft | hfirm
          · exfalso
            have hdd := hdead i j hhard hsoft
            rcases hwant with hw | ⟨k, ok, k1, k2, k3⟩ | hw
            · rw [hsoft] at hw; cases hw
            rotate_left
            · have h2 := List.all_eq_true.1 hw i (by simpa using hhard)
              rcases (Bool.or_eq_true _ _).mp h2 with h3 | h3
              · exact e (Nat.eq_of_beq_eq_true h3).symm
              · have := h.anc hl' h3
                rw [hun] at this; cases this
            · unfold deadB at hdd
              have hb1 : Nat.beq i j = false := by
                cases hc : Nat.beq i j with
                | false => rfl
                | true => exact absurd (Nat.eq_of_beq_eq_true hc).symm e
              have hb2 : ((ancs ops).getD j 0).testBit i = false := by
                cases hc : ((ancs ops).getD j 0).testBit i with
                | false => rfl
                | true =>
                  have := h.anc hl' hc
                  rw [hun] at this; cases this
              simp only [hb1, hb2, Bool.false_or, hj, Option.bind_some, hd] at hdd
              have h2 := List.all_eq_true.1 hdd k (List.mem_range.2 (List.getElem?_eq_some_iff.1 k1).1)
              simp only [k1] at h2
              have hc1 : (ok.looksAt ops.toArray).contains d = true := by simpa using k2
              have hki : k ≠ i := by
                rintro rfl
                rw [Array.getD_eq_getD_getElem?, Array.getElem?_setIfInBounds_self_of_lt (by rw [h.len]; exact hil)] at k3
                cases k3
              have hb3 : Nat.beq k i = false := by
                cases hc : Nat.beq k i with
                | false => rfl
                | true => exact absurd (Nat.eq_of_beq_eq_true hc) hki
              simp only [hc1, hb3, Bool.not_true, Bool.false_or] at h2
              -- k comes ahead of i, so it has come up
              have hL : ∀ (j : Nat) (o' : Oper), ops[j]? = some o' → (listed.getD j false = true ∨ j = i) → ∀ e ∈ o'.after, Region.binds .any e = true → (listed.getD e.on false = true ∨ e.on = i) := by
                intro j' o' ho' hj' ed he hbd
                rcases hj' with hj' | hj'
                · exact .inl (h.closed j' o' ho' hj' ed he hbd)
                · rw [hj', hi] at ho'
                  injection ho' with ho'
                  rw [← ho'] at he
                  exact .inl (hall ed he hbd)
              rcases ancs_in (L := fun j => listed.getD j false = true ∨ j = i) hL (.inr rfl) h2 with h5 | h5
              · rw [getD_set_true h5] at k3; cases k3
              · exact hki h5
          · exact hfirm _ _ _ hpre hW
        · exact (hk j ψ hψ).1 _ _ _ hpre hW
      have hne : ∀ d', o.dst = some d' → (Operand.tmp d) ≠ .tmp d' := by
        intro d' hd' hc
        injection hc with hc
        subst hc
        rcases Nat.lt_or_gt_of_ne e with hlt | hgt
        · exact distB_spec hdi hlt hj hi hd hd'
        · exact distB_spec hdi hgt hi hj hd' hd
      rw [Act.eval_put hne]
      exact h1
  · rcases hlist j hl with rfl | hl'
    · rw [hi] at hj
      injection hj with hj
      subst hj
      exact getD_set_true (hall e he hb)
    · exact getD_set_true (h.closed j o' hj hl' e he hb)

theorem midst_end {Φ : List Fact} {listed : Array Bool} {a : Act} {W : World} (hlow : lowB ops = true) (h : Midst T w0 a0 ops Φ listed a W) (hr : Region.ready .any ops.toArray listed = []) :
    ∀ j, j < ops.length → listed.getD j false = true := by
  intro j
  induction j using Nat.strongRecOn with
  | _ j ih =>
    intro hj
    cases hc : listed.getD j false with
    | true => rfl
    | false =>
      exfalso
      have ho : ops[j]? = some ops[j] := List.getElem?_eq_getElem hj
      have : j ∈ Region.ready .any ops.toArray listed := by
        rw [mem_ready]
        refine ⟨?_, ops[j], by simp, fun e he hb => ?_⟩
        · have : j < listed.size := by rw [h.len]; exact hj
          rw [Array.getD_eq_getD_getElem?, Array.getElem?_eq_getElem this] at hc ⊢
          exact hc
        · have hlt := lowB_spec hlow ho he hb
          exact ih e.on hlt (by omega)
      rw [hr] at this
      cases this

theorem noSelect_at (h : Region.noSelect ops.toArray = true) {i : Nat} {o : Oper} (hi : ops[i]? = some o) (cs : Array SelectCase) (b : Bool) : o.op ≠ .select cs b :=
  Region.noSelect_spec h i o cs b (by simpa using hi)

theorem flow_wp {Φ : List Fact} (hT : T.Ok) (hck : flowB T ops a0.tmps.size = true) (hlen : Φ.length = ops.length) (hok : ∀ (k : Nat) o φ, ops[k]? = some o → Φ[k]? = some φ → OpOk P T w0 a0 ops (tab ops (Φ.take k)) k o φ)
    (hend : Flow P T w0 a0 ops Q (tab ops Φ) 0 []) : ∀ (fuel : Nat) (listed : Array Bool) (a : Act) (W : World), Midst T w0 a0 ops Φ listed a W → (∀ j, listed.getD j true = false → j < ops.length) → (fuel = 0 → Region.ready .any ops.toArray listed = []) →
      ((listed.toList.filter (!·)).length ≤ fuel) → wpAny P .any ops.toArray Q fuel listed a W := by
  simp only [flowB, Bool.and_eq_true] at hck
  obtain ⟨hns, hlow, hsz, hdi, hdp, hdd⟩ := hck
  have hdead : ∀ i j, T.hard.contains i = true → T.soft.contains j = true → deadB ops (ancs ops) i j = true := fun i j hi hj => List.all_eq_true.1 (List.all_eq_true.1 hdd i (by simpa using hi)) j (by simpa using hj)
  have hk : ∀ (j : Nat) φ, Φ[j]? = some φ → Keeps T.R φ ∧ (T.soft.contains j = true ∨ Keeps T.H φ) := fun j φ hφ => by
    have hjl : j < ops.length := by rw [← hlen]; exact (List.getElem?_eq_some_iff.1 hφ).1
    have h1 := hok j ops[j] φ (List.getElem?_eq_getElem hjl) hφ
    exact ⟨h1.keeps, h1.firm⟩
  have fin : ∀ listed a W, Midst T w0 a0 ops Φ listed a W → Region.ready .any ops.toArray listed = [] → Q .normal a W := by
    intro listed a W h hr
    have hall := midst_end hlow h hr
    have h1 := hend (fun t => a.eval (.tmp t)) W h.rel (fun t φ ht hsoft => by
      obtain ⟨j, o, ho, hd, hφ⟩ := seek_some ht
      refine h.fact j o φ ho hφ (hall j (List.getElem?_eq_some_iff.1 ho).1) t hd ?_
      cases hc : T.soft.contains j with
      | false => exact .inl rfl
      | true =>
        cases hl : lastB T ops j with
        | true => exact .inr (.inr rfl)
        | false =>
          have : softAt T ops t = true := List.any_eq_true.2 ⟨j, by simpa using hc, by simp [ho, hd, hl]⟩
          rw [this] at hsoft; cases hsoft)
    rw [putAll_eq ops a0 a h.defers h.size (fun t ht => h.out t fun j o ho _ => ht j o ho)] at h1
    exact h1
  intro fuel
  induction fuel with
  | zero => intro listed a W h _ hf _; exact ⟨hf rfl, fin listed a W h (hf rfl)⟩
  | succ fuel ih =>
    intro listed a W h hj _ hcount
    refine ⟨fin listed a W h, fun i hi => ?_⟩
    obtain ⟨hun, o, ho, hall⟩ := mem_ready.1 hi
    have hi' : ops[i]? = some o := by simpa using ho
    have hil : i < ops.length := (List.getElem?_eq_some_iff.1 hi').1
    obtain ⟨φ, hφ⟩ : ∃ φ, Φ[i]? = some φ := ⟨Φ[i]'(by omega), List.getElem?_eq_getElem (by omega)⟩
    have hop := hok i o φ hi' hφ
    have hfs : ∀ t, t ∈ o.looksAt ops.toArray → factOf a0 (tab ops (Φ.take i)) (.tmp t) (a.eval (.tmp t)) W := fun t ht => midst_facts hdp hlen h hi' (getD_ff hun) hall ht
    have hsize : i < listed.size := by rw [h.len]; exact hil
    have hfalse : listed[i] = false := by simpa [Array.getD, hsize] using hun
    have next : ∀ v W', T.by_ i W W' → φ v W' → wpAny P .any ops.toArray Q fuel (listed.setIfInBounds i true) (a.put o.dst v) W' := by
      intro v W' hW hv
      have hm := midst_step hT hk hdead hsz hdi h hi' (getD_ff hun) hφ hall hW hv
      have hcnt : ((listed.setIfInBounds i true).toList.filter (!·)).length + 1 = (listed.toList.filter (!·)).length := by
        rw [Array.toList_setIfInBounds]
        have hli : listed.toList[i]? = some false := by simp [hsize, hfalse]
        generalize listed.toList = l at hli
        clear hcount hfalse hsize hi hil hun ho hall hi' hφ hop hfs hm hW hv
        induction l generalizing i with
        | nil => simp at hli
        | cons x xs ih =>
          cases i with
          | zero => simp only [List.getElem?_cons_zero, Option.some.injEq] at hli; subst hli; simp
          | succ i =>
            have := ih (i := i) (by simpa using hli)
            cases x <;> simp <;> omega
      refine ih _ _ _ hm (fun j hj' => ?_) (fun h0 => ?_) (by omega)
      · rcases Nat.lt_or_ge j ops.length with hlt | hge
        · exact hlt
        · have : (listed.setIfInBounds i true).size ≤ j := by rw [Array.size_setIfInBounds, h.len]; exact hge
          simp [Array.getElem?_eq_none this] at hj'
      · -- nothing is left
        have hz : ((listed.setIfInBounds i true).toList.filter (!·)).length = 0 := by omega
        rw [List.length_eq_zero_iff, List.filter_eq_nil_iff] at hz
        rw [List.eq_nil_iff_forall_not_mem]
        intro j hjr
        obtain ⟨hjun, _⟩ := mem_ready.1 hjr
        have hjs : j < (listed.setIfInBounds i true).size := by
          rcases Nat.lt_or_ge j (listed.setIfInBounds i true).size with hlt | hge
          · exact hlt
          · simp [Array.getElem?_eq_none hge] at hjun
        have hb : (listed.setIfInBounds i true)[j] = false := by
          rw [Array.getD_eq_getD_getElem?, Array.getElem?_eq_getElem hjs] at hjun
          exact hjun
        have := hz _ (Array.getElem_mem_toList hjs)
        rw [hb] at this
        simp at this
    unfold wpOp
    simp only [ho]
    rcases hop.does with ⟨hg, hdo⟩ | ⟨hg, he⟩ | ⟨φg, hg, hdo⟩ | ⟨φg, hg, he⟩ | ⟨hg, hearly, hdo⟩
    · rw [guard_of hg hfs, if_pos rfl]
      refine .inl ?_
      have hev : EvOk a.eval := ⟨fun _ => rfl, fun _ => rfl, fun _ => rfl⟩
      have h1 := hdo a.eval W hev h.rel (midst_all hfs _ fun _ hx => hx)
      unfold Oper.wp
      generalize (execOp a.eval o).run P W = r at h1
      cases r with
      | ok n w' =>
        cases n <;> simp only [Leaves] at h1 <;> simp only [Oper.upon]
        case value v => exact next v w' h1.1 h1.2
        case skip => exact next undef w' h1.1 h1.2
        case enter f args =>
          refine h1.mono fun e w'' he => ?_
          obtain ⟨v, rfl, h2, h3⟩ := he
          exact next v w'' h2 h3
      | halt x w' => exact h1.elim
    · rw [hg.elim (fun hg => guard_of hg hfs) (fun hg => guard_un hg hfs)]
      simp only [Bool.false_eq_true, if_false]
      refine next undef W ?_ (by rw [he]; rfl)
      unfold Turns.by_
      split
      · exact hT.sub _ _ (hT.refl W)
      · exact hT.refl W
    · obtain ⟨hw, gv, hgv⟩ := guard_says hg hfs
      rw [hw, if_pos rfl]
      refine .inl ?_
      have hev : EvOk a.eval := ⟨fun _ => rfl, fun _ => rfl, fun _ => rfl⟩
      have h1 := hdo a.eval W gv hev h.rel hgv (midst_all hfs _ fun _ hx => hx)
      unfold Oper.wp
      generalize (execOp a.eval o).run P W = r at h1
      cases r with
      | ok n w' =>
        cases n <;> simp only [Leaves] at h1 <;> simp only [Oper.upon]
        case value v => exact next v w' h1.1 h1.2
        case skip => exact next undef w' h1.1 h1.2
        case enter f args =>
          refine h1.mono fun e w'' he => ?_
          obtain ⟨v, rfl, h2, h3⟩ := he
          exact next v w'' h2 h3
      | halt x w' => exact h1.elim
    · rw [(guard_says hg hfs).1]
      simp only [Bool.false_eq_true, if_false]
      refine next undef W ?_ (by rw [he]; rfl)
      unfold Turns.by_
      split
      · exact hT.sub _ _ (hT.refl W)
      · exact hT.refl W
    · rw [guard_of hg hfs, if_pos rfl]
      refine .inl ?_
      have hev : EvOk a.eval := ⟨fun _ => rfl, fun _ => rfl, fun _ => rfl⟩
      have hst : Star T.R w0 W := h.early fun j hj => by
        have h2 := List.all_eq_true.1 hearly j (by simpa using hj)
        rcases (Bool.or_eq_true _ _).mp h2 with h3 | h3
        · rw [Nat.eq_of_beq_eq_true h3]; exact getD_ff hun
        · cases hc : listed.getD j false with
          | false => rfl
          | true =>
            have := h.anc hc h3
            rw [getD_ff hun] at this; cases this
      have h1 := hdo a.eval W hev hst (midst_all hfs _ fun _ hx => hx)
      unfold Oper.wp
      generalize (execOp a.eval o).run P W = r at h1
      cases r with
      | ok n w' =>
        cases n <;> simp only [Leaves] at h1 <;> simp only [Oper.upon]
        case value v => exact next v w' h1.1 h1.2
        case skip => exact next undef w' h1.1 h1.2
        case enter f args =>
          refine h1.mono fun e w'' he => ?_
          obtain ⟨v, rfl, h2, h3⟩ := he
          exact next v w'' h2 h3
      | halt x w' => exact h1.elim


/-- **A region that draws its order, operation by operation.** -/
theorem wp_flow {id : Nat} {a : Act} {w : World} {l : List Oper} {Q : Exit → Act → World → Prop} (hm : P.follows .mixedOrders = true) (T : Turns) (hT : T.Ok) (hck : flowB T l a.tmps.size = true)
    (h : Flow P T w.drew a l Q [] 0 l) : (Code.region id l.toArray true).wp P Q a w := by
  obtain ⟨Ψ, hlen, hok, hend⟩ := flow_all (ops := l) (Φ := []) (rest := l) (fun j => by simp) (by
    have : tab l [] = [] := by cases l <;> rfl
    rw [this]; exact h)
  simp only [List.nil_append, List.length_nil, Nat.zero_add] at hok hend
  refine wp_region_any hm ?_
  have hz : ∀ (n j : Nat), (Array.replicate n false).getD j false = false := fun n j => by
    rw [Array.getD_eq_getD_getElem?]
    rcases Nat.lt_or_ge j n with hlt | hge
    · rw [Array.getElem?_replicate, if_pos hlt]; rfl
    · rw [Array.getElem?_eq_none (by simpa using hge)]; rfl
  have hno : ∀ (n j : Nat) {C : Prop}, (Array.replicate n false).getD j false = true → C := fun n j C hc => by rw [hz] at hc; cases hc
  refine flow_wp (ops := l) hT hck hlen hok (hend 0) _ _ a _ ⟨by simp, hT.sub _ _ (hT.refl _), fun _ => .refl _, rfl, rfl, fun t _ => rfl, fun j o φ _ _ hl => hno _ _ hl, fun j o _ hl => hno _ _ hl⟩ (fun j hj => ?_) (fun h0 => ?_) (by simp)
  · rcases Nat.lt_or_ge j l.length with hlt | hge
    · exact hlt
    · rw [Array.getD_eq_getD_getElem?, Array.getElem?_eq_none (by simpa using hge)] at hj; cases hj
  · have hl0 : l = [] := List.eq_nil_of_length_eq_zero (by simpa using h0)
    subst hl0
    rfl

end sound

section steps
variable {P : Program} {T : Turns} {w0 : World} {a0 : Act} {ops : List Oper} {Q : Exit → Act → World → Prop} {F : Said} {k : Nat} {o : Oper} {rest : List Oper}

/-- One operation, whatever it is. -/
theorem flow_op (φ : Fact) (hk : Keeps T.R φ) (hf : T.soft.contains k = true ∨ Keeps T.H φ) (hg : guardIs ops F true o) (hd : ∀ ev W, EvOk ev → T.H w0 W → allFacts a0 F ev W o.op.operands.toList → Leaves P (T.by_ k) φ W ((execOp ev o).run P W))
    (h : Flow P T w0 a0 ops Q ((o.dst, φ) :: F) (k + 1) rest) : Flow P T w0 a0 ops Q F k (o :: rest) := ⟨φ, ⟨hk, hf, .inl ⟨hg, hd⟩⟩, h⟩
theorem flow_skip (hg : guardIs ops F false o) (h : Flow P T w0 a0 ops Q ((o.dst, isV undef) :: F) (k + 1) rest) : Flow P T w0 a0 ops Q F k (o :: rest) := ⟨isV undef, ⟨keeps_isV _, .inr (keeps_isV _), .inr (.inl ⟨.inl hg, rfl⟩)⟩, h⟩
theorem flow_skip_un (hg : guardUn ops F o) (h : Flow P T w0 a0 ops Q ((o.dst, isV undef) :: F) (k + 1) rest) : Flow P T w0 a0 ops Q F k (o :: rest) := ⟨isV undef, ⟨keeps_isV _, .inr (keeps_isV _), .inr (.inl ⟨.inr hg, rfl⟩)⟩, h⟩

/-- One operation, whatever it is, that may use what is said of its guard. -/
theorem flow_opg (φ φg : Fact) (hk : Keeps T.R φ) (hf : T.soft.contains k = true ∨ Keeps T.H φ) (hg : guardSays ops F φg true o) (hd : ∀ ev W gv, EvOk ev → T.H w0 W → φg gv W → allFacts a0 F ev W o.op.operands.toList → Leaves P (T.by_ k) φ W ((execOp ev o).run P W))
    (h : Flow P T w0 a0 ops Q ((o.dst, φ) :: F) (k + 1) rest) : Flow P T w0 a0 ops Q F k (o :: rest) := ⟨φ, ⟨hk, hf, .inr (.inr (.inl ⟨φg, hg, hd⟩))⟩, h⟩
theorem flow_skipg (φg : Fact) (hg : guardSays ops F φg false o) (h : Flow P T w0 a0 ops Q ((o.dst, isV undef) :: F) (k + 1) rest) : Flow P T w0 a0 ops Q F k (o :: rest) := ⟨isV undef, ⟨keeps_isV _, .inr (keeps_isV _), .inr (.inr (.inr (.inl ⟨φg, hg, rfl⟩)))⟩, h⟩
/-- One operation ahead of all that is hard, or the first hard one: what was there at the region's beginning is still there. -/
theorem flow_early (φ : Fact) (hk : Keeps T.R φ) (hf : T.soft.contains k = true ∨ Keeps T.H φ) (hg : guardIs ops F true o) (he : earlyB T ops k = true) (hd : ∀ ev W, EvOk ev → Star T.R w0 W → allFacts a0 F ev W o.op.operands.toList → Leaves P (T.by_ k) φ W ((execOp ev o).run P W))
    (h : Flow P T w0 a0 ops Q ((o.dst, φ) :: F) (k + 1) rest) : Flow P T w0 a0 ops Q F k (o :: rest) := ⟨φ, ⟨hk, hf, .inr (.inr (.inr (.inr ⟨hg, he, hd⟩)))⟩, h⟩

/-- The n-th of a list. -/
def nth : List Value → Nat → Option Value
  | x :: _, 0 => some x
  | _ :: xs, n + 1 => nth xs n
  | [], _ => none
theorem nth_eq : ∀ (l : List Value) (n : Nat), nth l n = l[n]?
  | [], _ => by simp [nth]
  | x :: xs, 0 => rfl
  | x :: xs, n + 1 => by simp only [nth, nth_eq xs n, List.getElem?_cons_succ]
/-- An operand whose value is known. -/
inductive Det (a0 : Act) (F : Said) : Operand → Value → Prop
  | inn {t : Tmp} {v : Value} (h : look F t = some (isV v)) : Det a0 F (.tmp t) v
  | out {t : Tmp} {v : Value} (h : look F t = none) (ht : nth a0.tmps.toList t = some v) : Det a0 F (.tmp t) v
  | const (v : Value) : Det a0 F (.const v) v
theorem Det.at {a0 : Act} {F : Said} {x : Operand} {v : Value} (h : Det a0 F x v) {u : Value} {W : World} (hf : factOf a0 F x u W) : u = v := by
  cases h with
  | inn h => simp only [factOf, h] at hf; exact hf
  | out h ht =>
    simp only [factOf, h] at hf
    have : u = a0.eval (.tmp _) := hf
    rw [this]
    rw [nth_eq, Array.getElem?_toList] at ht
    simp [Act.eval, ht]
  | const v => exact hf

theorem Turns.Ok.by_refl (hT : T.Ok) (k : Nat) (W : World) : T.by_ k W W := by
  unfold Turns.by_
  split
  · exact hT.sub _ _ (hT.refl W)
  · exact hT.refl W

/-- What is moved or assigned keeps what is said of it. -/
theorem flow_move {d : Option Tmp} {ty : TypeId} {pos : String} {af : Array Edge} {g : Option (Nat × Bool)} {t : Tmp} {φ : Fact} (hT : T.Ok) (hs : look F t = some φ) (hk : Keeps T.R φ) (hf : T.soft.contains k = true ∨ Keeps T.H φ)
    (hg : guardIs ops F true ⟨d, .move (.tmp t), ty, pos, af, g⟩) (h : Flow P T w0 a0 ops Q ((d, φ) :: F) (k + 1) rest) : Flow P T w0 a0 ops Q F k (⟨d, .move (.tmp t), ty, pos, af, g⟩ :: rest) := by
  refine ⟨φ, ⟨hk, hf, .inl ⟨hg, fun ev W _ _ hf => ?_⟩⟩, h⟩
  have h1 : φ (ev (.tmp t)) W := by
    have : factOf a0 F (.tmp t) (ev (.tmp t)) W := hf.1
    simpa only [factOf, hs] using this
  exact ⟨hT.by_refl k W, h1⟩
theorem flow_assign {d : Option Tmp} {ty : TypeId} {pos : String} {af : Array Edge} {g : Option (Nat × Bool)} {t : Tmp} {φ : Fact} (hT : T.Ok) (hs : look F t = some φ) (hk : Keeps T.R φ) (hf : T.soft.contains k = true ∨ Keeps T.H φ)
    (hg : guardIs ops F true ⟨d, .assign (.tmp t), ty, pos, af, g⟩) (h : Flow P T w0 a0 ops Q ((d, φ) :: F) (k + 1) rest) : Flow P T w0 a0 ops Q F k (⟨d, .assign (.tmp t), ty, pos, af, g⟩ :: rest) := by
  refine ⟨φ, ⟨hk, hf, .inl ⟨hg, fun ev W _ _ hf => ?_⟩⟩, h⟩
  have h1 : φ (ev (.tmp t)) W := by
    have : factOf a0 F (.tmp t) (ev (.tmp t)) W := hf.1
    simpa only [factOf, hs] using this
  exact ⟨hT.by_refl k W, h1⟩

/-- An operation over one, two, three known operands that leaves the world alone. -/
theorem flow1 {x : Operand} {v r : Value} (hT : T.Ok) (hop : o.op.operands = #[x]) (hx : Det a0 F x v) (hg : guardIs ops F true o) (hrun : ∀ ev W, EvOk ev → ev x = v → (execOp ev o).run P W = .ok (.value r) W)
    (h : Flow P T w0 a0 ops Q ((o.dst, isV r) :: F) (k + 1) rest) : Flow P T w0 a0 ops Q F k (o :: rest) :=
  flow_op (isV r) (keeps_isV r) (.inr (keeps_isV r)) hg (fun ev W he _ hf => by
    rw [hop] at hf
    rw [hrun ev W he (hx.at hf.1)]
    exact ⟨hT.by_refl k W, rfl⟩) h
theorem flow2 {x y : Operand} {v u r : Value} (hT : T.Ok) (hop : o.op.operands = #[x, y]) (hx : Det a0 F x v) (hy : Det a0 F y u) (hg : guardIs ops F true o) (hrun : ∀ ev W, EvOk ev → ev x = v → ev y = u → (execOp ev o).run P W = .ok (.value r) W)
    (h : Flow P T w0 a0 ops Q ((o.dst, isV r) :: F) (k + 1) rest) : Flow P T w0 a0 ops Q F k (o :: rest) :=
  flow_op (isV r) (keeps_isV r) (.inr (keeps_isV r)) hg (fun ev W he _ hf => by
    rw [hop] at hf
    rw [hrun ev W he (hx.at hf.1) (hy.at hf.2.1)]
    exact ⟨hT.by_refl k W, rfl⟩) h
theorem flow3 {x y z : Operand} {v u s r : Value} (hT : T.Ok) (hop : o.op.operands = #[x, y, z]) (hx : Det a0 F x v) (hy : Det a0 F y u) (hz : Det a0 F z s) (hg : guardIs ops F true o) (hrun : ∀ ev W, EvOk ev → ev x = v → ev y = u → ev z = s → (execOp ev o).run P W = .ok (.value r) W)
    (h : Flow P T w0 a0 ops Q ((o.dst, isV r) :: F) (k + 1) rest) : Flow P T w0 a0 ops Q F k (o :: rest) :=
  flow_op (isV r) (keeps_isV r) (.inr (keeps_isV r)) hg (fun ev W he _ hf => by
    rw [hop] at hf
    rw [hrun ev W he (hx.at hf.1) (hy.at hf.2.1) (hz.at hf.2.2.1)]
    exact ⟨hT.by_refl k W, rfl⟩) h

/-- .. and that looks at the world. -/
theorem flow1h {x : Operand} {v r : Value} (hT : T.Ok) (hop : o.op.operands = #[x]) (hx : Det a0 F x v) (hg : guardIs ops F true o) (hrun : ∀ ev W, EvOk ev → T.H w0 W → ev x = v → (execOp ev o).run P W = .ok (.value r) W)
    (h : Flow P T w0 a0 ops Q ((o.dst, isV r) :: F) (k + 1) rest) : Flow P T w0 a0 ops Q F k (o :: rest) :=
  flow_op (isV r) (keeps_isV r) (.inr (keeps_isV r)) hg (fun ev W he hW hf => by
    rw [hop] at hf
    rw [hrun ev W he hW (hx.at hf.1)]
    exact ⟨hT.by_refl k W, rfl⟩) h
theorem flow2h {x y : Operand} {v u r : Value} (hT : T.Ok) (hop : o.op.operands = #[x, y]) (hx : Det a0 F x v) (hy : Det a0 F y u) (hg : guardIs ops F true o) (hrun : ∀ ev W, EvOk ev → T.H w0 W → ev x = v → ev y = u → (execOp ev o).run P W = .ok (.value r) W)
    (h : Flow P T w0 a0 ops Q ((o.dst, isV r) :: F) (k + 1) rest) : Flow P T w0 a0 ops Q F k (o :: rest) :=
  flow_op (isV r) (keeps_isV r) (.inr (keeps_isV r)) hg (fun ev W he hW hf => by
    rw [hop] at hf
    rw [hrun ev W he hW (hx.at hf.1) (hy.at hf.2.1)]
    exact ⟨hT.by_refl k W, rfl⟩) h

/-- A Go function with a body. -/
def callsB (P : Program) (f : FuncId) : Bool := match P.funcs[f]? with
  | some fn => !(fn.name == "runtime.NumGoroutine") && fn.body.isSome
  | none => false
theorem run_call {ev : Operand → Value} (he : EvOk ev) {d : Option Tmp} {f : FuncId} (hf : callsB P f = true) {args : Array Operand} {ats : Array TypeId} {ty : TypeId} {pos : String} {af : Array Edge} {g : Option (Nat × Bool)} {W : World} :
    (execOp ev ⟨d, .call { callee := .value (.func f), args := args, argTypes := ats }, ty, pos, af, g⟩).run P W = .ok (.enter f (args.map ev)) W := by
  unfold callsB at hf
  cases hfn : P.funcs[f]? with
  | none => rw [hfn] at hf; cases hf
  | some fn =>
    rw [hfn] at hf
    simp only [Bool.and_eq_true, Bool.not_eq_true', beq_eq_false_iff_ne, ne_eq] at hf
    obtain ⟨h1, h2⟩ := hf
    obtain ⟨b, hb⟩ := Option.isSome_iff_exists.1 h2
    simp [execOp, resolve, he.func, Deferred.ofValue, invoke, callFunc, go_sem, hfn, h1, hb]
/-- A call of a Go function. -/
theorem flow_call {d : Option Tmp} {f : FuncId} {args : Array Operand} {ats : Array TypeId} {ty : TypeId} {pos : String} {af : Array Edge} {g : Option (Nat × Bool)} (φ : Fact) (hk : Keeps T.R φ) (hfm : T.soft.contains k = true ∨ Keeps T.H φ) (hf : callsB P f = true)
    (hg : guardIs ops F true ⟨d, .call { callee := .value (.func f), args := args, argTypes := ats }, ty, pos, af, g⟩)
    (hd : ∀ ev W, EvOk ev → T.H w0 W → allFacts a0 F ev W args.toList → Calls P f (args.toList.map ev).toArray W (fun e w'' => ∃ v, e = .returned v ∧ T.by_ k W w'' ∧ φ v w''))
    (h : Flow P T w0 a0 ops Q ((d, φ) :: F) (k + 1) rest) : Flow P T w0 a0 ops Q F k (⟨d, .call { callee := .value (.func f), args := args, argTypes := ats }, ty, pos, af, g⟩ :: rest) := by
  refine flow_op φ hk hfm hg (fun ev W he hW hfs => ?_) h
  rw [run_call he hf]
  have e0 : args.map ev = (args.toList.map ev).toArray := by cases args; rw [List.map_toArray]
  rw [e0]
  refine hd ev W he hW ?_
  have : allFacts a0 F ev W ((.func f : Operand) :: args.toList) := by
    have e : (Op.call { callee := .value (.func f), args := args, argTypes := ats }).operands.toList = (.func f : Operand) :: args.toList := by
      simp [Op.operands, Call.operands]
    rw [← e]; exact hfs
  exact this.2
/-- Operands that are all known. -/
inductive Dets (a0 : Act) (F : Said) : List Operand → List Value → Prop
  | nil : Dets a0 F [] []
  | cons {x : Operand} {v : Value} {xs : List Operand} {vs : List Value} (h : Det a0 F x v) (t : Dets a0 F xs vs) : Dets a0 F (x :: xs) (v :: vs)
theorem Dets.at {a0 : Act} {F : Said} {ev : Operand → Value} {W : World} : ∀ {xs : List Operand} {vs : List Value}, Dets a0 F xs vs → allFacts a0 F ev W xs → xs.map ev = vs
  | _, _, .nil, _ => rfl
  | _, _, .cons h t, hf => by rw [List.map_cons, h.at hf.1, t.at hf.2]
/-- A call whose arguments are known. -/
theorem flow_calld {d : Option Tmp} {f : FuncId} {args : Array Operand} {ats : Array TypeId} {ty : TypeId} {pos : String} {af : Array Edge} {g : Option (Nat × Bool)} {vals : List Value} (φ : Fact) (hk : Keeps T.R φ) (hfm : T.soft.contains k = true ∨ Keeps T.H φ) (hf : callsB P f = true)
    (hg : guardIs ops F true ⟨d, .call { callee := .value (.func f), args := args, argTypes := ats }, ty, pos, af, g⟩) (hargs : Dets a0 F args.toList vals)
    (hd : ∀ W, T.H w0 W → Calls P f vals.toArray W (fun e w'' => ∃ v, e = .returned v ∧ T.by_ k W w'' ∧ φ v w''))
    (h : Flow P T w0 a0 ops Q ((d, φ) :: F) (k + 1) rest) : Flow P T w0 a0 ops Q F k (⟨d, .call { callee := .value (.func f), args := args, argTypes := ats }, ty, pos, af, g⟩ :: rest) :=
  flow_call φ hk hfm hf hg (fun ev W _ hW hfs => by rw [hargs.at hfs]; exact hd W hW) h
/-- .. and whose answer is, too. -/
theorem flow_callv {d : Option Tmp} {f : FuncId} {args : Array Operand} {ats : Array TypeId} {ty : TypeId} {pos : String} {af : Array Edge} {g : Option (Nat × Bool)} {vals : List Value} (r : Value) (hf : callsB P f = true)
    (hg : guardIs ops F true ⟨d, .call { callee := .value (.func f), args := args, argTypes := ats }, ty, pos, af, g⟩) (hargs : Dets a0 F args.toList vals)
    (hd : ∀ W, T.H w0 W → Calls P f vals.toArray W (fun e w'' => e = .returned r ∧ T.by_ k W w''))
    (h : Flow P T w0 a0 ops Q ((d, isV r) :: F) (k + 1) rest) : Flow P T w0 a0 ops Q F k (⟨d, .call { callee := .value (.func f), args := args, argTypes := ats }, ty, pos, af, g⟩ :: rest) :=
  flow_calld (isV r) (keeps_isV r) (.inr (keeps_isV r)) hf hg hargs (fun W hW => (hd W hW).mono fun _ _ ⟨h1, h2⟩ => ⟨r, h1, h2, rfl⟩) h

/-- Moves of what came from ahead of the region. -/
theorem flow_move_out {d : Option Tmp} {ty : TypeId} {pos : String} {af : Array Edge} {g : Option (Nat × Bool)} {t : Tmp} {v : Value} (hT : T.Ok) (hs : look F t = none) (ht : nth a0.tmps.toList t = some v)
    (hg : guardIs ops F true ⟨d, .move (.tmp t), ty, pos, af, g⟩) (h : Flow P T w0 a0 ops Q ((d, isV v) :: F) (k + 1) rest) : Flow P T w0 a0 ops Q F k (⟨d, .move (.tmp t), ty, pos, af, g⟩ :: rest) :=
  flow1 (v := v) (r := v) hT rfl (.out hs ht) hg (fun ev W _ e => by simp [execOp, e, go_sem]) h
theorem flow_move_const {d : Option Tmp} {ty : TypeId} {pos : String} {af : Array Edge} {g : Option (Nat × Bool)} {v : Value} (hT : T.Ok)
    (hg : guardIs ops F true ⟨d, .move (.const v), ty, pos, af, g⟩) (h : Flow P T w0 a0 ops Q ((d, isV v) :: F) (k + 1) rest) : Flow P T w0 a0 ops Q F k (⟨d, .move (.const v), ty, pos, af, g⟩ :: rest) :=
  flow1 (v := v) (r := v) hT rfl (.const v) hg (fun ev W _ e => by simp [execOp, e, go_sem]) h
/-- 'a && b' behind a true a: b. -/
theorem flow_and {d : Option Tmp} {c t : Tmp} {z : Value} {ty : TypeId} {pos : String} {af : Array Edge} {g : Option (Nat × Bool)} {v : Value} (hT : T.Ok) (hc : look F c = some (isV (.bool true))) (ht : look F t = some (isV v))
    (hg : guardIs ops F true ⟨d, .pick (.tmp c) (.tmp t) (.const z), ty, pos, af, g⟩) (h : Flow P T w0 a0 ops Q ((d, isV v) :: F) (k + 1) rest) : Flow P T w0 a0 ops Q F k (⟨d, .pick (.tmp c) (.tmp t) (.const z), ty, pos, af, g⟩ :: rest) :=
  flow3 (v := .bool true) (u := v) (s := z) (r := v) hT rfl (.inn hc) (.inn ht) (.const z) hg (fun ev W _ e1 e2 e3 => by simp [execOp, e1, e2, e3, asBool, go_sem]) h
/-- 'a && b' behind a false a, 'a || b' behind a true one: the constant. -/
theorem flow_and_false {d : Option Tmp} {c t : Tmp} {z : Value} {ty : TypeId} {pos : String} {af : Array Edge} {g : Option (Nat × Bool)} {v : Value} (hT : T.Ok) (hc : look F c = some (isV (.bool false))) (ht : look F t = some (isV v))
    (hg : guardIs ops F true ⟨d, .pick (.tmp c) (.tmp t) (.const z), ty, pos, af, g⟩) (h : Flow P T w0 a0 ops Q ((d, isV z) :: F) (k + 1) rest) : Flow P T w0 a0 ops Q F k (⟨d, .pick (.tmp c) (.tmp t) (.const z), ty, pos, af, g⟩ :: rest) :=
  flow3 (v := .bool false) (u := v) (s := z) (r := z) hT rfl (.inn hc) (.inn ht) (.const z) hg (fun ev W _ e1 e2 e3 => by simp [execOp, e1, e2, e3, asBool, go_sem]) h
theorem flow_or_true {d : Option Tmp} {c t : Tmp} {z : Value} {ty : TypeId} {pos : String} {af : Array Edge} {g : Option (Nat × Bool)} {v : Value} (hT : T.Ok) (hc : look F c = some (isV (.bool true))) (ht : look F t = some (isV v))
    (hg : guardIs ops F true ⟨d, .pick (.tmp c) (.const z) (.tmp t), ty, pos, af, g⟩) (h : Flow P T w0 a0 ops Q ((d, isV z) :: F) (k + 1) rest) : Flow P T w0 a0 ops Q F k (⟨d, .pick (.tmp c) (.const z) (.tmp t), ty, pos, af, g⟩ :: rest) :=
  flow3 (v := .bool true) (u := z) (s := v) (r := z) hT rfl (.inn hc) (.const z) (.inn ht) hg (fun ev W _ e1 e2 e3 => by simp [execOp, e1, e2, e3, asBool, go_sem]) h
theorem flow_or_false {d : Option Tmp} {c t : Tmp} {z : Value} {ty : TypeId} {pos : String} {af : Array Edge} {g : Option (Nat × Bool)} {v : Value} (hT : T.Ok) (hc : look F c = some (isV (.bool false))) (ht : look F t = some (isV v))
    (hg : guardIs ops F true ⟨d, .pick (.tmp c) (.const z) (.tmp t), ty, pos, af, g⟩) (h : Flow P T w0 a0 ops Q ((d, isV v) :: F) (k + 1) rest) : Flow P T w0 a0 ops Q F k (⟨d, .pick (.tmp c) (.const z) (.tmp t), ty, pos, af, g⟩ :: rest) :=
  flow3 (v := .bool false) (u := z) (s := v) (r := v) hT rfl (.inn hc) (.const z) (.inn ht) hg (fun ev W _ e1 e2 e3 => by simp [execOp, e1, e2, e3, asBool, go_sem]) h
/-- '==' of what is the same. -/
theorem flow_eql {d : Option Tmp} {x y : Operand} {T1 T2 : TypeId} {ty : TypeId} {pos : String} {af : Array Edge} {g : Option (Nat × Bool)} {v : Value} (hT : T.Ok) (hx : Det a0 F x v) (hy : Det a0 F y v)
    (hrun : ∀ ev W, EvOk ev → ev x = v → ev y = v → (execOp ev ⟨d, .binOp .eql T1 x y T2, ty, pos, af, g⟩).run P W = .ok (.value (.bool true)) W)
    (hg : guardIs ops F true ⟨d, .binOp .eql T1 x y T2, ty, pos, af, g⟩) (h : Flow P T w0 a0 ops Q ((d, isV (.bool true)) :: F) (k + 1) rest) : Flow P T w0 a0 ops Q F k (⟨d, .binOp .eql T1 x y T2, ty, pos, af, g⟩ :: rest) :=
  flow2 (v := v) (u := v) (r := .bool true) hT rfl hx hy hg hrun h
/-- 'x[:hi]', 'x[lo:]', 'x[lo:hi]' of what is known. -/
theorem flow_slice_hi {d : Option Tmp} {t : TypeId} {x y : Operand} {ty : TypeId} {pos : String} {af : Array Edge} {g : Option (Nat × Bool)} {v u r : Value} (hT : T.Ok) (hx : Det a0 F x v) (hy : Det a0 F y u)
    (hrun : ∀ ev W, EvOk ev → ev x = v → ev y = u → (execOp ev ⟨d, .slice t x none (some y) none, ty, pos, af, g⟩).run P W = .ok (.value r) W)
    (hg : guardIs ops F true ⟨d, .slice t x none (some y) none, ty, pos, af, g⟩) (h : Flow P T w0 a0 ops Q ((d, isV r) :: F) (k + 1) rest) : Flow P T w0 a0 ops Q F k (⟨d, .slice t x none (some y) none, ty, pos, af, g⟩ :: rest) :=
  flow2 (x := x) (y := y) hT (by simp [Op.operands]) hx hy hg hrun h
theorem flow_slice_lo {d : Option Tmp} {t : TypeId} {x y : Operand} {ty : TypeId} {pos : String} {af : Array Edge} {g : Option (Nat × Bool)} {v u r : Value} (hT : T.Ok) (hx : Det a0 F x v) (hy : Det a0 F y u)
    (hrun : ∀ ev W, EvOk ev → ev x = v → ev y = u → (execOp ev ⟨d, .slice t x (some y) none none, ty, pos, af, g⟩).run P W = .ok (.value r) W)
    (hg : guardIs ops F true ⟨d, .slice t x (some y) none none, ty, pos, af, g⟩) (h : Flow P T w0 a0 ops Q ((d, isV r) :: F) (k + 1) rest) : Flow P T w0 a0 ops Q F k (⟨d, .slice t x (some y) none none, ty, pos, af, g⟩ :: rest) :=
  flow2 (x := x) (y := y) hT (by simp [Op.operands]) hx hy hg hrun h
theorem flow_slice_both {d : Option Tmp} {t : TypeId} {x y z : Operand} {ty : TypeId} {pos : String} {af : Array Edge} {g : Option (Nat × Bool)} {v u s r : Value} (hT : T.Ok) (hx : Det a0 F x v) (hy : Det a0 F y u) (hz : Det a0 F z s)
    (hrun : ∀ ev W, EvOk ev → ev x = v → ev y = u → ev z = s → (execOp ev ⟨d, .slice t x (some y) (some z) none, ty, pos, af, g⟩).run P W = .ok (.value r) W)
    (hg : guardIs ops F true ⟨d, .slice t x (some y) (some z) none, ty, pos, af, g⟩) (h : Flow P T w0 a0 ops Q ((d, isV r) :: F) (k + 1) rest) : Flow P T w0 a0 ops Q F k (⟨d, .slice t x (some y) (some z) none, ty, pos, af, g⟩ :: rest) :=
  flow3 (x := x) (y := y) (z := z) hT (by simp [Op.operands]) hx hy hz hg hrun h
end steps
end Go.Proofs.Ytnohfdojcdhfoaa
namespace Go.Proofs.Ytnohfdojcdhfoaa
open Go.RowKit
/-- What a law says of a call: true, and nothing old has turned. -/
def LawPost (w : World) (e : Ending) (w' : World) : Prop := e = .returned (.bool true) ∧ Chg [] w w'
/-- Every operation makes new blocks at most. -/
def plainT : Turns := ⟨Chg [], Chg [], [], []⟩
theorem plainT_ok : plainT.Ok := ⟨Chg.refl [], fun _ _ h => h, fun _ _ _ h k => h.trans k⟩
theorem plain_by (k : Nat) : plainT.by_ k = Chg [] := by unfold Turns.by_; split <;> rfl

/-- A value that is a row of the call's own. -/
def ownF (B : Nat) (e : TypeId) (xs : List Value) : Fact := fun v W => W.ownsRow B e 1 v xs.length xs
theorem keeps_own (B : Nat) (e : TypeId) (xs : List Value) : Keeps (Chg []) (ownF B e xs) := fun _ _ _ h hc => own_keep h hc

section
variable {P : Program} {T : Turns} {w0 : World} {a0 : Act} {ops : List Oper} {Q : Exit → Act → World → Prop} {F : Said} {k : Nat} {rest : List Oper}
  {d : Option Tmp} {ty : TypeId} {pos : String} {af : Array Edge} {g : Option (Nat × Bool)}
/-- 'string(b)' of an own row. -/
theorem flow_str {t : Tmp} {B : Nat} {e src dst : TypeId} {l : List UInt8} (hT : T.Ok) (hs : look F t = some (ownF B e (bts l))) (h1 : P.underlying src = some (.slice e)) (h2 : P.underlying e = some (.int .u8)) (h3 : P.underlying dst = some .string)
    (hg : guardIs ops F true ⟨d, .convert src dst (.tmp t), ty, pos, af, g⟩) (h : Flow P T w0 a0 ops Q ((d, isV (.string (strOf l))) :: F) (k + 1) rest) : Flow P T w0 a0 ops Q F k (⟨d, .convert src dst (.tmp t), ty, pos, af, g⟩ :: rest) := by
  refine flow_op _ (keeps_isV _) (.inr (keeps_isV _)) hg (fun ev W he hW hf => ?_) h
  have hf1 : factOf a0 F (.tmp t) (ev (.tmp t)) W := hf.1
  simp only [factOf, hs] at hf1
  obtain ⟨A, c, e1, hB, _⟩ := Bs.of_own (n := (bts l).length) hf1
  have hr := hB.str (P := P) src e dst h1 h2 h3
  simp only [execOp, e1, Sem.run_bind, hr, Result.andThen_ok, Sem.run_pure]
  exact ⟨hT.by_refl k W, rfl⟩
/-- .. of a slice that is known. -/
theorem flow_strd {x : Operand} {A : Option Addr} {n c : Nat} {e src dst : TypeId} {l : List UInt8} (hT : T.Ok) (hx : Det a0 F x (.slice A n c)) (hb : ∀ W, T.H w0 W → Bs W A n c l) (h1 : P.underlying src = some (.slice e)) (h2 : P.underlying e = some (.int .u8)) (h3 : P.underlying dst = some .string)
    (hg : guardIs ops F true ⟨d, .convert src dst x, ty, pos, af, g⟩) (h : Flow P T w0 a0 ops Q ((d, isV (.string (strOf l))) :: F) (k + 1) rest) : Flow P T w0 a0 ops Q F k (⟨d, .convert src dst x, ty, pos, af, g⟩ :: rest) := by
  refine flow_op _ (keeps_isV _) (.inr (keeps_isV _)) hg (fun ev W he hW hf => ?_) h
  have e1 := hx.at (show factOf a0 F x (ev x) W from hf.1)
  have hr := (hb W hW).str (P := P) src e dst h1 h2 h3
  simp only [execOp, e1, Sem.run_bind, hr, Result.andThen_ok, Sem.run_pure]
  exact ⟨hT.by_refl k W, rfl⟩
/-- len of a slice that is known. -/
theorem flow_lend {x : Operand} {A : Option Addr} {n c : Nat} {ats : Array TypeId} (hT : T.Ok) (hx : Det a0 F x (.slice A n c)) (hrun : ∀ ev W, EvOk ev → ev x = .slice A n c → (execOp ev ⟨d, .call { callee := .builtin .len, args := #[x], argTypes := ats }, ty, pos, af, g⟩).run P W = .ok (.value (.int .i64 (n : Int))) W)
    (hg : guardIs ops F true ⟨d, .call { callee := .builtin .len, args := #[x], argTypes := ats }, ty, pos, af, g⟩) (h : Flow P T w0 a0 ops Q ((d, isV (.int .i64 (n : Int))) :: F) (k + 1) rest) :
    Flow P T w0 a0 ops Q F k (⟨d, .call { callee := .builtin .len, args := #[x], argTypes := ats }, ty, pos, af, g⟩ :: rest) :=
  flow1 hT rfl hx hg hrun h
end
end Go.Proofs.Ytnohfdojcdhfoaa
namespace Go.Proofs.Ytnohfdojcdhfoaa
open Go.RowKit

/-- What lies below B stays. -/
structure Low (B : Nat) (w w' : World) : Prop where
  os : w'.os = w.os
  tape : w'.tape = w.tape
  output : w'.output = w.output
  size : w.heap.size ≤ w'.heap.size
  block : ∀ k, k < B → k < w.heap.size → w'.heap[k]? = w.heap[k]?
theorem Low.of_chg {B : Nat} {w w' : World} (h : Chg [] w w') : Low B w w' := ⟨h.os, h.tape, h.output, h.size, fun k _ hk => h.block k hk (by simp)⟩
theorem Low.trans {B : Nat} {a b c : World} (h : Low B a b) (k : Low B b c) : Low B a c :=
  ⟨k.os.trans h.os, k.tape.trans h.tape, k.output.trans h.output, Nat.le_trans h.size k.size, fun i hB hi => (k.block i hB (Nat.lt_of_lt_of_le hi h.size)).trans (h.block i hB hi)⟩
theorem Low.chg {B : Nat} {a b : World} (h : Low B a b) (hB : a.heap.size ≤ B) : Chg [] a b := ⟨h.os, h.tape, h.output, h.size, fun k hk _ => h.block k (Nat.lt_of_lt_of_le hk hB) hk⟩
theorem Low.of_own {B n : Nat} {e : TypeId} {v : Value} {xs : List Value} {w w' : World} (ho : w.ownsRow B e 1 v n xs) (hg : w.grownBy w' v.ownBlock) : Low B w w' := by
  refine ⟨hg.os, hg.tape, hg.output, hg.size, fun k hk hl => hg.block k hl fun hc => ?_⟩
  rcases ho.2 with ⟨rfl, _⟩ | ⟨g, cap, cur, rfl, hb, _⟩
  · cases hc
  · injection hc with hc; simp only at hc; omega

/-- Appends write into rows from B on. -/
def lowT (B : Nat) (hard soft : List Nat) : Turns := ⟨Chg [], Low B, hard, soft⟩
theorem lowT_ok (B : Nat) (hard soft : List Nat) : (lowT B hard soft).Ok := ⟨Chg.refl [], fun _ _ h => Low.of_chg h, fun _ _ _ h k => h.trans k⟩
theorem low_by {B : Nat} {hard soft : List Nat} (k : Nat) {W W' : World} (h : Chg [] W W') : (lowT B hard soft).by_ k W W' := by
  unfold Turns.by_
  split
  · exact Low.of_chg h
  · exact h
theorem low_hard {B : Nat} {hard soft : List Nat} {k : Nat} (hk : hard.contains k = true) {W W' : World} (h : Low B W W') : (lowT B hard soft).by_ k W W' := by
  unfold Turns.by_
  rw [if_pos (show (lowT B hard soft).hard.contains k = true from hk)]
  exact h

/-- '[]T{}'. -/
def emptyF (B : Nat) (e : TypeId) : Fact := fun v W => ∃ g, v = .slice (some ⟨g, 0, none⟩) 0 0 ∧ B ≤ g ∧ Whole W g e []
theorem keeps_empty (B : Nat) (e : TypeId) : Keeps (Chg []) (emptyF B e) := fun _ _ _ ⟨g, h1, h2, h3⟩ hc => ⟨g, h1, h2, h3.keep hc⟩

section
variable {P : Program} (w : World)
theorem run_append_empty (base : Nat) (t ty e : TypeId) (i : TypeInfo) (z : Value) (bytes : Nat) (ht : P.underlying t = some (.slice e)) (hi : P.info? e = some i) (hz : i.zero = some z) (hs : i.size = 1) (hby : i.bytes = bytes) (hz1 : z.cells.size = 1)
    (g : Nat) (hg : Whole w g e []) (hbg : base ≤ g) (hbw : base ≤ w.heap.size) (A : Option Addr) (m c : Nat) (news : List Value) (hl : news.length = m) (hsrc : Src w A news) (hb : m * bytes ≤ 140737488355328) (h63 : m ≤ maxLen) :
    ∃ v' w', (Builtin.append_ #[t, t] ty #[.slice (some ⟨g, 0, none⟩) 0 0, .slice A m c]).run P w = .ok v' w' ∧ w'.ownsRow base e 1 v' m news ∧ Chg [] w w' := by
  have ho : w.ownsRow base e 1 (.slice (some ⟨g, 0, none⟩) 0 0) 0 [] := own_of_whole (n := 0) (c := 0) hg hbg rfl (by omega) (by unfold maxLen; omega)
  rcases Nat.eq_zero_or_pos m with h0 | h0
  · subst h0
    obtain rfl : news = [] := List.eq_nil_of_length_eq_zero hl
    refine ⟨_, w, ?_, ho, Chg.refl _ _⟩
    rcases A with _ | ad
    · simp [Builtin.append_, run_underlying ht, sizeOf, typeInfo, hi, Builtin.lenOf, Builtin.firstCells, storeCells]
    · have hf := run_firstCells_some (P := P) w i.size 0 ad 0 c [] (by simp) (fun j u hj => by simp at hj)
      simp [Builtin.append_, run_underlying ht, sizeOf, typeInfo, hi, Builtin.lenOf, hf, storeCells]
  · obtain ⟨ad, rfl, _, hx⟩ := hsrc (by omega)
    subst hby
    have h63' : m ≤ 9223372036854775807 := by simpa [maxLen] using h63
    have h := run_append_grow (P := P) w t ty e i z ht hi hz ⟨g, 0, none⟩ 0 0 [] (by simp) (by simp) ad m c news (by rw [hl, hs]; omega) hx (by omega) (by omega) (growslice_fits (by omega) (by simpa using hb))
    have hge := grownCap_ge w m 0 e
    have hle := grownCap_le_maxLen w m 0 e h63
    simp only [Nat.zero_add] at h
    refine ⟨_, _, h, ?_, ((Chg.refl [] w).drew).alloc _⟩
    have hw : Whole (w.drew.alloc (.cells (news ++ (Builtin.zeroCells z.cells (grownCap w m 0 e - m)).toList).toArray e)) w.heap.size e (news ++ (Builtin.zeroCells z.cells (grownCap w m 0 e - m)).toList) := Whole.new w.drew e _
    have hown := own_of_whole (B := base) (n := m) (c := grownCap w m 0 e) hw hbw (by simp only [List.length_append, Array.length_toList, size_zeroCells, hz1, hl]; omega) hge hle
    rw [List.take_left' hl] at hown
    have e1 : (#[] ++ news.toArray ++ Builtin.zeroCells z.cells (grownCap w m 0 e - m)) = (news ++ (Builtin.zeroCells z.cells (grownCap w m 0 e - m)).toList).toArray := by
      apply Array.ext'; simp
    rw [show ([] : List Value).toArray = #[] from rfl, e1]
    exact hown
end

section
variable {P : Program} {T : Turns} {w0 : World} {a0 : Act} {ops : List Oper} {Q : Exit → Act → World → Prop} {F : Said} {k : Nat} {rest : List Oper}
  {d : Option Tmp} {ty : TypeId} {pos : String} {af : Array Edge} {g : Option (Nat × Bool)} {B : Nat} {hard soft : List Nat}

/-- '[]T{}' and '[]T{x, ..}' make a block. -/
theorem flow_build0 {t e : TypeId} (hB : B ≤ w0.heap.size) (hrun : ∀ ev W, EvOk ev → (execOp ev ⟨d, .buildSlice t 0 #[], ty, pos, af, g⟩).run P W = .ok (.value (.slice (some ⟨W.heap.size, 0, none⟩) 0 0)) (W.alloc (.cells #[] e)))
    (hsoft : (lowT B hard soft).soft.contains k = true)
    (hg : guardIs ops F true ⟨d, .buildSlice t 0 #[], ty, pos, af, g⟩) (h : Flow P (lowT B hard soft) w0 a0 ops Q ((d, emptyF B e) :: F) (k + 1) rest) : Flow P (lowT B hard soft) w0 a0 ops Q F k (⟨d, .buildSlice t 0 #[], ty, pos, af, g⟩ :: rest) := by
  refine flow_op _ (keeps_empty B e) (.inl hsoft) hg (fun ev W he hW _ => ?_) h
  rw [hrun ev W he]
  have hs : w0.heap.size ≤ W.heap.size := Low.size (B := B) hW
  exact ⟨low_by k ((Chg.refl _ _).alloc _), _, rfl, Nat.le_trans hB hs, Whole.new W e []⟩
theorem flow_build1 {t e : TypeId} {x : Operand} {v : Value} (hB : B ≤ w0.heap.size) (hx : Det a0 F x v)
    (hrun : ∀ ev W, EvOk ev → ev x = v → (execOp ev ⟨d, .buildSlice t 1 #[(0, x)], ty, pos, af, g⟩).run P W = .ok (.value (.slice (some ⟨W.heap.size, 0, none⟩) 1 1)) (W.alloc (.cells #[v] e)))
    (hsoft : (lowT B hard soft).soft.contains k = true)
    (hg : guardIs ops F true ⟨d, .buildSlice t 1 #[(0, x)], ty, pos, af, g⟩) (h : Flow P (lowT B hard soft) w0 a0 ops Q ((d, ownF B e [v]) :: F) (k + 1) rest) : Flow P (lowT B hard soft) w0 a0 ops Q F k (⟨d, .buildSlice t 1 #[(0, x)], ty, pos, af, g⟩ :: rest) := by
  refine flow_op _ (keeps_own B e [v]) (.inl hsoft) hg (fun ev W he hW hf => ?_) h
  have e1 := hx.at (show factOf a0 F x (ev x) W from hf.1)
  rw [hrun ev W he e1]
  have hs : w0.heap.size ≤ W.heap.size := Low.size (B := B) hW
  have hw : Whole (W.alloc (.cells #[v] e)) W.heap.size e [v] := Whole.new W e [v]
  exact ⟨low_by k ((Chg.refl _ _).alloc _), own_of_whole (n := 1) (c := 1) hw (Nat.le_trans hB hs) rfl (by omega) (by unfold maxLen; omega)⟩
/-- append onto '[]T{}': new memory. -/
theorem flow_append_empty {s x : Operand} {st : Tmp} {t e : TypeId} {i : TypeInfo} {z : Value} {bytes : Nat} {A : Option Addr} {m c : Nat} {news : List Value} (hB : B ≤ w0.heap.size) (hst : s = .tmp st) (hs : look F st = some (emptyF B e)) (hx : Det a0 F x (.slice A m c))
    (ht : P.underlying t = some (.slice e)) (hi : P.info? e = some i) (hz : i.zero = some z) (hsz : i.size = 1) (hby : i.bytes = bytes) (hz1 : z.cells.size = 1) (hl : news.length = m) (hsrc : ∀ W, Low B w0 W → Src W A news) (hb : m * bytes ≤ 140737488355328) (h63 : m ≤ maxLen)
    (hsoft : (lowT B hard soft).soft.contains k = true)
    (hg : guardIs ops F true ⟨d, .call { callee := .builtin .append, args := #[s, x], argTypes := #[t, t] }, ty, pos, af, g⟩) (h : Flow P (lowT B hard soft) w0 a0 ops Q ((d, ownF B e news) :: F) (k + 1) rest) :
    Flow P (lowT B hard soft) w0 a0 ops Q F k (⟨d, .call { callee := .builtin .append, args := #[s, x], argTypes := #[t, t] }, ty, pos, af, g⟩ :: rest) := by
  subst hst
  refine flow_op _ (keeps_own B e news) (.inl hsoft) hg (fun ev W he hW hf => ?_) h
  have hf1 : factOf a0 F (.tmp st) (ev (.tmp st)) W := hf.1
  simp only [factOf, hs] at hf1
  obtain ⟨b, e1, hbb, hw⟩ := hf1
  have e2 := hx.at (show factOf a0 F x (ev x) W from hf.2.1)
  have hsW : w0.heap.size ≤ W.heap.size := Low.size (B := B) hW
  obtain ⟨v', w', hrun, ho, hc⟩ := run_append_empty (P := P) W B t ty e i z bytes ht hi hz hsz hby hz1 b hw hbb (Nat.le_trans hB hsW) A m c news hl (hsrc W hW) hb h63
  have hr : (execOp ev ⟨d, .call { callee := .builtin .append, args := #[.tmp st, x], argTypes := #[t, t] }, ty, pos, af, g⟩).run P W = .ok (.value v') w' := by
    unfold execOp
    simp only [resolve, invoke, builtin, Sem.run_bind, Sem.run_pure, Result.andThen_ok, List.map_toArray, List.map_cons, List.map_nil, e1, e2, hrun]
  rw [hr]
  exact ⟨low_by k hc, by rw [ownF, hl]; exact ho⟩
/-- append onto a row of the call's own: it may be written in place. -/
theorem flow_append_own {s x : Operand} {st xt : Tmp} {t e : TypeId} {i : TypeInfo} {z : Value} {bytes : Nat} {xs news : List Value} (hB : B ≤ w0.heap.size) (hst : s = .tmp st) (hs : look F st = some (ownF B e xs)) (hxt : x = .tmp xt) (hx : look F xt = some (ownF B e news))
    (ht : P.underlying t = some (.slice e)) (hi : P.info? e = some i) (hz : i.zero = some z) (hsz : i.size = 1) (hby : i.bytes = bytes) (hz1 : z.cells.size = 1) (h1 : ∀ u ∈ news, u.oneCell' = true) (hb : (xs.length + news.length) * bytes ≤ 140737488355328) (h63 : xs.length + news.length ≤ maxLen)
    (hsoft : (lowT B hard soft).soft.contains k = true) (hhard : hard.contains k = true)
    (hg : guardIs ops F true ⟨d, .call { callee := .builtin .append, args := #[s, x], argTypes := #[t, t] }, ty, pos, af, g⟩) (h : Flow P (lowT B hard soft) w0 a0 ops Q ((d, ownF B e (xs ++ news)) :: F) (k + 1) rest) :
    Flow P (lowT B hard soft) w0 a0 ops Q F k (⟨d, .call { callee := .builtin .append, args := #[s, x], argTypes := #[t, t] }, ty, pos, af, g⟩ :: rest) := by
  subst hst
  subst hxt
  refine flow_op _ (keeps_own B e _) (.inl hsoft) hg (fun ev W he hW hf => ?_) h
  have hf1 : factOf a0 F (.tmp st) (ev (.tmp st)) W := hf.1
  simp only [factOf, hs] at hf1
  have hf2 : factOf a0 F (.tmp xt) (ev (.tmp xt)) W := hf.2.1
  simp only [factOf, hx] at hf2
  obtain ⟨A2, c2, e2, hl2, _, hs2, _⟩ := own_slice hf2
  have hsW : w0.heap.size ≤ W.heap.size := Low.size (B := B) hW
  obtain ⟨v', w', hrun, ho, hgr, _⟩ := exec_append_src (P := P) (ev := ev) (d := d) (ty := ty) (pos := pos) (af := af) (g := g) (s := .tmp st) (x := .tmp xt) B e i z bytes ht hi hz hsz hby hz1 rfl hf1 e2 rfl hs2 h1 h63 hb (Nat.le_trans hB hsW)
  rw [hrun]
  exact ⟨low_hard hhard (Low.of_own hf1 hgr), by rw [ownF, List.length_append]; exact ho⟩
/-- append onto a row of the call's own of a slice that is known. -/
theorem flow_append_det {s x : Operand} {st : Tmp} {t e : TypeId} {i : TypeInfo} {z : Value} {bytes : Nat} {xs news : List Value} {A : Option Addr} {m c : Nat} (hB : B ≤ w0.heap.size) (hst : s = .tmp st) (hs : look F st = some (ownF B e xs)) (hx : Det a0 F x (.slice A m c))
    (ht : P.underlying t = some (.slice e)) (hi : P.info? e = some i) (hz : i.zero = some z) (hsz : i.size = 1) (hby : i.bytes = bytes) (hz1 : z.cells.size = 1) (hl : news.length = m) (hsrc : ∀ W, Low B w0 W → Src W A news) (h1 : ∀ u ∈ news, u.oneCell' = true) (hb : (xs.length + m) * bytes ≤ 140737488355328) (h63 : xs.length + m ≤ maxLen)
    (hsoft : (lowT B hard soft).soft.contains k = true) (hhard : hard.contains k = true)
    (hg : guardIs ops F true ⟨d, .call { callee := .builtin .append, args := #[s, x], argTypes := #[t, t] }, ty, pos, af, g⟩) (h : Flow P (lowT B hard soft) w0 a0 ops Q ((d, ownF B e (xs ++ news)) :: F) (k + 1) rest) :
    Flow P (lowT B hard soft) w0 a0 ops Q F k (⟨d, .call { callee := .builtin .append, args := #[s, x], argTypes := #[t, t] }, ty, pos, af, g⟩ :: rest) := by
  subst hst
  refine flow_op _ (keeps_own B e _) (.inl hsoft) hg (fun ev W he hW hf => ?_) h
  have hf1 : factOf a0 F (.tmp st) (ev (.tmp st)) W := hf.1
  simp only [factOf, hs] at hf1
  have e2 := hx.at (show factOf a0 F x (ev x) W from hf.2.1)
  have hsW : w0.heap.size ≤ W.heap.size := Low.size (B := B) hW
  obtain ⟨v', w', hrun, ho, hgr, _⟩ := exec_append_src (P := P) (ev := ev) (d := d) (ty := ty) (pos := pos) (af := af) (g := g) (s := .tmp st) (x := x) B e i z bytes ht hi hz hsz hby hz1 rfl hf1 e2 hl (hsrc W hW) h1 h63 hb (Nat.le_trans hB hsW)
  rw [hrun]
  exact ⟨low_hard hhard (Low.of_own hf1 hgr), by rw [ownF, List.length_append, hl]; exact ho⟩
end
end Go.Proofs.Ytnohfdojcdhfoaa
namespace Go.Proofs.Ytnohfdojcdhfoaa
open Go.RowKit
/-- A truth, and only new memory. -/
def BoolPost (b : Bool) (w : World) (e : Ending) (w' : World) : Prop := e = .returned (.bool b) ∧ Chg [] w w'
theorem ret_bool {a b : Bool} (h : a = b) : Ending.returned (.bool a) = .returned (.bool b) := by rw [h]
theorem ret_int' {k : IntKind} {a b : Int} (h : a = b) : Ending.returned (.int k a) = .returned (.int k b) := by rw [h]
/-- A root by value. -/
def rootV (L P E : Int) : Value := .agg #[.int .i64 L, .int .i64 P, .int .u32 E]
def needI (n : Int) : Int := if n < 0 ∨ 64 < n then 0 else 18 + n * 66
theorem whole_grown {w w' : World} {B2 e2 k2 m : Nat} {v2 : Value} {ys : List Value} {g t : Nat} {cs : List Value} (h : Whole w g t cs) (h2 : w.ownsRow B2 e2 k2 v2 m ys) (hne : t ≠ e2) (hg : w.grownBy w' v2.ownBlock) : Whole w' g t cs := by
  unfold Whole at h ⊢
  rw [hg.block g ?_ ?_]
  · exact h
  · rcases Nat.lt_or_ge g w.heap.size with hlt | hge
    · exact hlt
    · rw [Array.getElem?_eq_none hge] at h; cases h
  · intro hc
    rcases h2.2 with ⟨rfl, _⟩ | ⟨g2, cap2, cur2, rfl, hb2, hh2, _⟩
    · simp [Value.ownBlock] at hc
    · simp [Value.ownBlock] at hc
      subst hc
      rw [h] at hh2
      simp at hh2
      exact hne hh2.2
/-- append as a step of a region that draws, for elements of any size. -/
theorem step_append_n {P : Program} {w : World} {ops : Array Oper} {o : Oper} {a : Act} {K : Act → World → Prop} {Q : Exit → Act → World → Prop} {E : Prop} (hgd : o.guard = none) (s x : Operand) (t : TypeId)
    (ho : o.op = .call { callee := .builtin .append, args := #[s, x], argTypes := #[t, t] })
    (base : Nat) (e : TypeId) (i : TypeInfo) (z : Value) (size bytes : Nat) (ht : P.underlying t = some (.slice e)) (hi : P.info? e = some i) (hz : i.zero = some z)
    (hsize : i.size = size) (hby : i.bytes = bytes) (hzs : z.cells.size = size) (hsz : 0 < size)
    (v : Value) (n : Nat) (xs : List Value) (hse : a.eval s = v) (hown : w.ownsRow base e size v n xs)
    (ad : Addr) (m c : Nat) (news : List Value) (hxe : a.eval x = .slice (some ad) m c) (hl : news.length = m * size) (hnews : ∀ j u, news[j]? = some u → w.cell? (ad.add j) = some u) (h1 : ∀ u ∈ news, u.oneCell' = true)
    (h63 : n + m ≤ maxLen) (hbytes : (n + m) * bytes ≤ 140737488355328) (hbase : base ≤ w.heap.size)
    (h : ∀ v' w', w'.ownsRow base e size v' (n + m) (xs ++ news) → w.grownBy w' v.ownBlock → K (a.put o.dst v') w') :
    if Region.wanted o (yielded ops a.tmps) = true then Oper.wp P o a w K Q else E := by
  have hw : Region.wanted o (yielded ops a.tmps) = true := by simp [Region.wanted, hgd]
  rw [if_pos hw]
  obtain ⟨v', w', hrun, h2, h3, _, _⟩ := run_append_own_at (P := P) w base t o.type e i z size bytes ht hi hz hsize hby hzs hsz v n xs hown ad m c news hl hnews h1 h63 hbytes hbase
  unfold Oper.wp execOp
  simp only [ho, resolve, invoke, builtin, Sem.run_bind, Sem.run_pure, Result.andThen_ok, List.map_toArray, List.map_cons, List.map_nil, hse, hxe, hrun]
  exact h v' w' h2 h3
theorem cells_u8 : (Value.int .u8 0).cells.size = 1 := rfl
theorem nms_len (l : List Int) : (nms l).length = l.length := by simp [nms]
theorem nms_app (l m : List Int) : nms (l ++ m) = nms l ++ nms m := by simp [nms]
theorem nms_get (l : List Int) (i : Nat) (h : i < l.length) : (nms l)[i]? = some (.int .i64 l[i]) := by simp [nms, h]
theorem cell_keep {w w' : World} {p : Addr} {v : Value} (h : w.cell? p = some v) (hc : Chg [] w w') : w'.cell? p = some v := by
  have hs : Src w (some p) [v] := fun _ => ⟨p, rfl, by
    rcases Nat.lt_or_ge p.block w.heap.size with hlt | hge
    · exact hlt
    · simp [World.cell?, Array.getElem?_eq_none hge] at h, fun j u hj => by
    cases j with
    | zero =>
      simp at hj
      subst hj
      have e : p.add 0 = p := by simp [Addr.add]
      rw [e]; exact h
    | succ j => simp at hj⟩
  obtain ⟨ad, e, _, hx⟩ := hs.keep hc (by simp)
  injection e with e
  subst e
  have := hx 0 v rfl
  have e : p.add 0 = p := by simp [Addr.add]
  rwa [e] at this
theorem wdrew {w W : World} (h : Chg [] w.drew W) : Chg [] w W := (Chg.refl [] w).drew.new h
theorem not2 {a b x : Nat} (h1 : a ≠ x) (h2 : b ≠ x) : x ∉ [a, b] := by simp; exact ⟨fun e => h1 e.symm, fun e => h2 e.symm⟩
theorem not2' {a b x : Nat} (h1 : x ≠ a) (h2 : x ≠ b) : x ∉ [a, b] := by simp; exact ⟨h1, h2⟩
theorem not3 {a b c x : Nat} (h1 : x ≠ a) (h2 : x ≠ b) (h3 : x ≠ c) : x ∉ [a, b, c] := by simp; exact ⟨h1, h2, h3⟩
end Go.Proofs.Ytnohfdojcdhfoaa
namespace Go.Proofs.Ytnohfdojcdhfoaa
open Go.RowKit

theorem rune_width (s : ByteArray) (pos : Nat) (h : pos < s.size) : 1 ≤ (Utf8.decode s pos).2 := by
  by_cases ha : (s[pos]'h).toNat < 128
  · rw [decode_ascii s pos h ha]
    exact Nat.le_refl _
  · exact (decode_high s pos h (by omega)).2
/-- How many runes from pos on; b: rounds at most. -/
def cntR (s : ByteArray) : Nat → Nat → Nat
  | 0, _ => 0
  | b + 1, pos => if pos < s.size then cntR s b (pos + (Utf8.decode s pos).2) + 1 else 0
def runesN (s : ByteArray) : Nat := cntR s s.size 0
theorem cntR_end (s : ByteArray) (b pos : Nat) (h : ¬ pos < s.size) : cntR s b pos = 0 := by
  cases b with
  | zero => rfl
  | succ b => simp [cntR, h]
theorem cntR_next (s : ByteArray) (b pos : Nat) (h : pos < s.size) (hb : s.size ≤ pos + b) : ∃ c, b = c + 1 ∧ cntR s b pos = cntR s c (pos + (Utf8.decode s pos).2) + 1 := by
  obtain ⟨c, rfl⟩ : ∃ c, b = c + 1 := ⟨b - 1, by omega⟩
  exact ⟨c, rfl, by simp [cntR, h]⟩
theorem chg_iter (w : World) (s : ByteArray) (pos : Nat) : Chg [] w (w.iter s pos) :=
  (Chg.refl [] w).alloc _

section
variable {w : World}
set_option maxHeartbeats 400000 in
theorem rtruth_any (b : Bool) : Calls Try.prog 83 #[.bool b] w fun e w' => e = .returned (.int .i64 (if b then 1 else 0)) ∧ w = w' := by
  cases b <;>
  · go_enter Try.func83, Try.ntmps83
    go_wp2_with fail
    go_ret
    exact ⟨rfl, rfl⟩
/-- A number, and only new memory. -/
def NumPost (n : Int) (w : World) (e : Ending) (w' : World) : Prop := e = .returned (.int .i64 n) ∧ Chg [] w w'
set_option maxHeartbeats 1000000 in
set_option maxRecDepth 1000000 in
theorem nrunes_any (s : ByteArray) (hs : s.size ≤ 9223372036854775807) : Calls Try.prog 84 #[.string s] w (NumPost (runesN s) w) := by
  go_enter Try.func84, Try.ntmps84
  go_wp2
  go_loopw [3] (fun n wr => ∃ (pos b acc : Nat), wr = w.iter s pos ∧ n = .int .i64 (acc : Int) ∧ acc ≤ pos ∧ acc + cntR s b pos = runesN s ∧ s.size ≤ pos + b) (fun _ wr => s.size - wr.iterPos w.heap.size)
  case atStart => exact ⟨0, s.size, 0, rfl, rfl, Nat.le_refl _, by unfold runesN; omega, by omega⟩
  case round =>
    obtain ⟨pos, b, acc, rfl, rfl, hap, hcnt, hb⟩ := hrel
    by_cases hlt : pos < s.size
    · obtain ⟨c, rfl, hn⟩ := cntR_next s b pos hlt hb
      have hw := rune_width s pos hlt
      have HN := Lib.hid hn
      have HC := Lib.hid hcnt
      clear hn hcnt
      have hnx := run_next_any (P := Try.prog) w s pos
      go_wp2
      go_roundw
      case rel => exact ⟨_, c, acc + 1, rfl, by go_num, by omega, by have := HN.out; have := HC.out; omega, by omega⟩
      case measure => simp; omega
    · have HC := Lib.hid hcnt
      clear hcnt
      have hne := run_next_end (P := Try.prog) w s pos
      go_wp2
      go_ret
      have h1 := HC.out
      rw [cntR_end s b pos hlt] at h1
      exact ⟨by rw [← h1]; rfl, chg_iter w s pos⟩
end

/-- A comma-ok assertion to a type that is no interface. -/
theorem run_assert {P : Program} {a t xT : TypeId} {d : TypeDesc} {v z : Value} (hu : P.underlying a = some d) (hn : ∀ m, d ≠ .interface m) (hz : (P.info? a).map (·.zero) = some (some z)) (w : World) :
    (Instr.typeAssert (.iface t v) xT a true).run P w = .ok (.tuple (if t = a then #[v, .bool true] else #[z, .bool false])) w := by
  obtain ⟨i, hi, hz'⟩ : ∃ i, P.info? a = some i ∧ i.zero = some z := by
    cases h : P.info? a with
    | none => rw [h] at hz; simp at hz
    | some i => rw [h] at hz; exact ⟨i, rfl, by simpa using hz⟩
  by_cases ht : t = a
  · subst ht
    cases d <;> simp_all [Instr.typeAssert, run_underlying hu]
  · cases d <;> simp_all [Instr.typeAssert, run_underlying hu, typeInfo, zeroValue]
theorem run_assert_nil {P : Program} {a xT : TypeId} {d : TypeDesc} {z : Value} (hu : P.underlying a = some d) (hn : ∀ m, d ≠ .interface m) (hz : (P.info? a).map (·.zero) = some (some z)) (w : World) :
    (Instr.typeAssert .nilIface xT a true).run P w = .ok (.tuple #[z, .bool false]) w := by
  obtain ⟨i, hi, hz'⟩ : ∃ i, P.info? a = some i ∧ i.zero = some z := by
    cases h : P.info? a with
    | none => rw [h] at hz; simp at hz
    | some i => rw [h] at hz; exact ⟨i, rfl, by simpa using hz⟩
  cases d <;> simp_all [Instr.typeAssert, run_underlying hu, typeInfo, zeroValue]
theorem as0 (t : TypeId) (v : Value) (w : World) : (Instr.typeAssert (.iface t v) 20 2 true).run Try.prog w = .ok (.tuple (if t = 2 then #[v, .bool true] else #[.int .i64 0, .bool false])) w := run_assert Try.underlying2 (by intro m h; cases h) (by kernel_rfl) w
theorem an0 (w : World) : (Instr.typeAssert .nilIface 20 2 true).run Try.prog w = .ok (.tuple #[.int .i64 0, .bool false]) w := run_assert_nil Try.underlying2 (by intro m h; cases h) (by kernel_rfl) w
theorem as1 (t : TypeId) (v : Value) (w : World) : (Instr.typeAssert (.iface t v) 20 3 true).run Try.prog w = .ok (.tuple (if t = 3 then #[v, .bool true] else #[.int .i64 0, .bool false])) w := run_assert Try.underlying3 (by intro m h; cases h) (by kernel_rfl) w
theorem an1 (w : World) : (Instr.typeAssert .nilIface 20 3 true).run Try.prog w = .ok (.tuple #[.int .i64 0, .bool false]) w := run_assert_nil Try.underlying3 (by intro m h; cases h) (by kernel_rfl) w
theorem as2 (t : TypeId) (v : Value) (w : World) : (Instr.typeAssert (.iface t v) 20 4 true).run Try.prog w = .ok (.tuple (if t = 4 then #[v, .bool true] else #[.bool false, .bool false])) w := run_assert Try.underlying4 (by intro m h; cases h) (by kernel_rfl) w
theorem an2 (w : World) : (Instr.typeAssert .nilIface 20 4 true).run Try.prog w = .ok (.tuple #[.bool false, .bool false]) w := run_assert_nil Try.underlying4 (by intro m h; cases h) (by kernel_rfl) w
theorem as3 (t : TypeId) (v : Value) (w : World) : (Instr.typeAssert (.iface t v) 20 21 true).run Try.prog w = .ok (.tuple (if t = 21 then #[v, .bool true] else #[.int .i32 0, .bool false])) w := run_assert Try.underlying21 (by intro m h; cases h) (by kernel_rfl) w
theorem an3 (w : World) : (Instr.typeAssert .nilIface 20 21 true).run Try.prog w = .ok (.tuple #[.int .i32 0, .bool false]) w := run_assert_nil Try.underlying21 (by intro m h; cases h) (by kernel_rfl) w
theorem as4 (t : TypeId) (v : Value) (w : World) : (Instr.typeAssert (.iface t v) 20 9 true).run Try.prog w = .ok (.tuple (if t = 9 then #[v, .bool true] else #[.string ⟨#[]⟩, .bool false])) w := run_assert Try.underlying9 (by intro m h; cases h) (by kernel_rfl) w
theorem an4 (w : World) : (Instr.typeAssert .nilIface 20 9 true).run Try.prog w = .ok (.tuple #[.string ⟨#[]⟩, .bool false]) w := run_assert_nil Try.underlying9 (by intro m h; cases h) (by kernel_rfl) w
theorem as5 (t : TypeId) (v : Value) (w : World) : (Instr.typeAssert (.iface t v) 20 74 true).run Try.prog w = .ok (.tuple (if t = 74 then #[v, .bool true] else #[.slice none 0 0, .bool false])) w := run_assert Try.underlying74 (by intro m h; cases h) (by kernel_rfl) w
theorem an5 (w : World) : (Instr.typeAssert .nilIface 20 74 true).run Try.prog w = .ok (.tuple #[.slice none 0 0, .bool false]) w := run_assert_nil Try.underlying74 (by intro m h; cases h) (by kernel_rfl) w

/-- What has which number; none: what has none. -/
inductive Num : Value → Option Int → Prop
  | i64 (n : Int) : Num (.iface 2 (.int .i64 n)) (some n)
  | int (n : Int) (h0 : -9223372036854775808 ≤ n) (h1 : n ≤ 9223372036854775807) : Num (.iface 3 (.int .i64 n)) (some n)
  | bool (b : Bool) : Num (.iface 4 (.bool b)) (some (if b then 1 else 0))
  | rune (r : Int) (h0 : -2147483648 ≤ r) (h1 : r ≤ 2147483647) : Num (.iface 21 (.int .i32 r)) (some r)
  | str (s : ByteArray) (h : s.size ≤ 9223372036854775807) : Num (.iface 9 (.string s)) (some (runesN s : Nat))
  | list (A : Option Addr) (n c : Nat) (h : n ≤ 9223372036854775807) : Num (.iface 74 (.slice A n c)) (some n)
  | nil : Num .nilIface none
  | other (t : TypeId) (u : Value) (h1 : t ≠ 2) (h2 : t ≠ 3) (h3 : t ≠ 4) (h4 : t ≠ 21) (h5 : t ≠ 9) (h6 : t ≠ 74) : Num (.iface t u) none
/-- A number as an interface value; nil. -/
def numIV : Option Int → Value
  | some n => .iface 2 (.int .i64 n)
  | none => .nilIface
def NumberPost (r : Option Int) (w : World) (e : Ending) (w' : World) : Prop := e = .returned (numIV r) ∧ Chg [] w w'
section
variable {w : World} {v : Value} {r : Option Int}
set_option maxHeartbeats 2000000 in
set_option maxRecDepth 100000 in
theorem number_any (h : Num v r) : Calls Try.prog 70 #[v] w (NumberPost r w) := by
  cases h with
  | i64 n =>
    have q0 := as0 2 (.int .i64 n)
    have q1 := as1 2 (.int .i64 n)
    have q2 := as2 2 (.int .i64 n)
    have q3 := as3 2 (.int .i64 n)
    have q4 := as4 2 (.int .i64 n)
    have q5 := as5 2 (.int .i64 n)
    simp only [reduceIte, Nat.reduceEqDiff] at q0 q1 q2 q3 q4 q5
    go_enter Try.func70, Try.ntmps70
    go_wp2_with fail
    go_ret
    exact ⟨rfl, Chg.refl _ _⟩
  | int n h0 h1 =>
    have q0 := as0 3 (.int .i64 n)
    have q1 := as1 3 (.int .i64 n)
    have q2 := as2 3 (.int .i64 n)
    have q3 := as3 3 (.int .i64 n)
    have q4 := as4 3 (.int .i64 n)
    have q5 := as5 3 (.int .i64 n)
    simp only [reduceIte, Nat.reduceEqDiff] at q0 q1 q2 q3 q4 q5
    go_enter Try.func70, Try.ntmps70
    go_wp2_with fail
    go_ret
    exact ⟨rfl, Chg.refl _ _⟩
  | bool b =>
    cases b with
    | true =>
      have q0 := as0 4 (.bool true)
      have q1 := as1 4 (.bool true)
      have q2 := as2 4 (.bool true)
      have q3 := as3 4 (.bool true)
      have q4 := as4 4 (.bool true)
      have q5 := as5 4 (.bool true)
      simp only [reduceIte, Nat.reduceEqDiff] at q0 q1 q2 q3 q4 q5
      go_enter Try.func70, Try.ntmps70
      go_wp2_with (go_at_call 83; refine (rtruth_any true).mono ?_; rintro e w' ⟨rfl, rfl⟩)
      go_ret
      exact ⟨rfl, Chg.refl _ _⟩
    | false =>
      have q0 := as0 4 (.bool false)
      have q1 := as1 4 (.bool false)
      have q2 := as2 4 (.bool false)
      have q3 := as3 4 (.bool false)
      have q4 := as4 4 (.bool false)
      have q5 := as5 4 (.bool false)
      simp only [reduceIte, Nat.reduceEqDiff] at q0 q1 q2 q3 q4 q5
      go_enter Try.func70, Try.ntmps70
      go_wp2_with (go_at_call 83; refine (rtruth_any false).mono ?_; rintro e w' ⟨rfl, rfl⟩)
      go_ret
      exact ⟨rfl, Chg.refl _ _⟩
  | rune r h0 h1 =>
    have q0 := as0 21 (.int .i32 r)
    have q1 := as1 21 (.int .i32 r)
    have q2 := as2 21 (.int .i32 r)
    have q3 := as3 21 (.int .i32 r)
    have q4 := as4 21 (.int .i32 r)
    have q5 := as5 21 (.int .i32 r)
    simp only [reduceIte, Nat.reduceEqDiff] at q0 q1 q2 q3 q4 q5
    go_enter Try.func70, Try.ntmps70
    go_wp2_with fail
    go_ret
    exact ⟨rfl, Chg.refl _ _⟩
  | str s hs =>
    have q0 := as0 9 (.string s)
    have q1 := as1 9 (.string s)
    have q2 := as2 9 (.string s)
    have q3 := as3 9 (.string s)
    have q4 := as4 9 (.string s)
    have q5 := as5 9 (.string s)
    simp only [reduceIte, Nat.reduceEqDiff] at q0 q1 q2 q3 q4 q5
    go_enter Try.func70, Try.ntmps70
    go_wp2_with (go_at_call 84; refine (nrunes_any s hs).mono ?_; rintro e w1 ⟨rfl, hc⟩)
    go_ret
    exact ⟨rfl, hc⟩
  | list A n c hn =>
    have q0 := as0 74 (.slice A n c)
    have q1 := as1 74 (.slice A n c)
    have q2 := as2 74 (.slice A n c)
    have q3 := as3 74 (.slice A n c)
    have q4 := as4 74 (.slice A n c)
    have q5 := as5 74 (.slice A n c)
    simp only [reduceIte, Nat.reduceEqDiff] at q0 q1 q2 q3 q4 q5
    go_enter Try.func70, Try.ntmps70
    go_wp2_with fail
    go_ret
    exact ⟨rfl, Chg.refl _ _⟩
  | nil =>
    have q0 := an0
    have q1 := an1
    have q2 := an2
    have q3 := an3
    have q4 := an4
    have q5 := an5
    go_enter Try.func70, Try.ntmps70
    go_wp2_with fail
    go_ret
    exact ⟨rfl, Chg.refl _ _⟩
  | other t u h1 h2 h3 h4 h5 h6 =>
    have q0 := as0 t u
    have q1 := as1 t u
    have q2 := as2 t u
    have q3 := as3 t u
    have q4 := as4 t u
    have q5 := as5 t u
    simp only [if_neg h1] at q0
    simp only [if_neg h2] at q1
    simp only [if_neg h3] at q2
    simp only [if_neg h4] at q3
    simp only [if_neg h5] at q4
    simp only [if_neg h6] at q5
    go_enter Try.func70, Try.ntmps70
    go_wp2_with fail
    go_ret
    exact ⟨rfl, Chg.refl _ _⟩
/-- Of's answer. -/
def OfPost (r : Option Int) (w : World) (e : Ending) (w' : World) : Prop := e = .returned (.tuple #[.int .i64 (r.getD 0), .bool r.isSome]) ∧ Chg [] w w'
set_option maxHeartbeats 1000000 in
set_option maxRecDepth 100000 in
theorem vof_any (h : Num v r) : Calls Try.prog 48 #[v] w (OfPost r w) := by
  cases r with
  | some n =>
    have q0 := as0 2 (.int .i64 n)
    simp only [reduceIte] at q0
    go_enter Try.func48, Try.ntmps48
    go_wp2_with (go_at_call 70; refine (number_any h).mono ?_; rintro e w1 ⟨rfl, hc⟩; simp only [numIV])
    go_ret2
    exact ⟨rfl, hc⟩
  | none =>
    have q0 := an0
    go_enter Try.func48, Try.ntmps48
    go_wp2_with (go_at_call 70; refine (number_any h).mono ?_; rintro e w1 ⟨rfl, hc⟩; simp only [numIV])
    go_ret2
    exact ⟨rfl, hc⟩
end
end Go.Proofs.Ytnohfdojcdhfoaa
namespace Go.Proofs.Ytnohfdojcdhfoaa
open Go.RowKit

theorem ab_yes (n : Int) (w : World) : (Instr.typeAssert (.iface 2 (.int .i64 n)) 20 2 false).run Try.prog w = .ok (.int .i64 n) w := by kernel_rfl
theorem ab_nil (w : World) : (Instr.typeAssert .nilIface 20 2 false).run Try.prog w =
    .halt (.panic (.iface 15 (.pointer (some ⟨w.heap.size, 0, none⟩)))) (w.alloc (.cells #[typeHandle Try.prog 20, .pointer none, typeHandle Try.prog 2, strVal ""] 180)) := by kernel_rfl
section
variable {w : World} {v : Value}
end
end Go.Proofs.Ytnohfdojcdhfoaa
namespace Go.Proofs.Ytnohfdojcdhfoaa
open Go.RowKit

theorem info_u8 : (Try.prog.info? 5).map (fun i => (i.zero, i.size, i.bytes)) = some (some (.int .u8 0), 1, 1) := by kernel_rfl
theorem info_bool : (Try.prog.info? 4).map (fun i => (i.zero, i.size, i.bytes)) = some (some (.bool false), 1, 1) := by kernel_rfl
theorem info_int : (Try.prog.info? 3).map (fun i => (i.zero, i.size, i.bytes)) = some (some (.int .i64 0), 1, 8) := by kernel_rfl
theorem size_u8 : (Try.prog.info? 5).map (·.size) = some 1 := by kernel_rfl

theorem make_u8 (n : Nat) (h : n ≤ 1000000) (w : World) :
    (Instr.makeSlice 51 (.int .i64 (n : Int)) (.int .i64 (n : Int))).run Try.prog w = .ok (.slice (some ⟨w.heap.size, 0, none⟩) n n) (w.alloc (.cells (bts (zeros n)).toArray 5)) := by
  rw [bts_zeros]
  obtain ⟨i, hi, hz, hs, hb⟩ := info_parts info_u8
  exact run_make1 _ _ i _ rfl Try.underlying51 hi hz hs n (by rw [hb]; omega) (by omega) w
theorem make_bool (n : Nat) (h : n ≤ 1000000) (w : World) :
    (Instr.makeSlice 81 (.int .i64 (n : Int)) (.int .i64 (n : Int))).run Try.prog w = .ok (.slice (some ⟨w.heap.size, 0, none⟩) n n) (w.alloc (.cells (bls (falses n)).toArray 4)) := by
  rw [bls_falses]
  obtain ⟨i, hi, hz, hs, hb⟩ := info_parts info_bool
  exact run_make1 _ _ i _ rfl Try.underlying81 hi hz hs n (by rw [hb]; omega) (by omega) w

/-- What sector makes of n bytes: 64, zeros behind them. -/
def pad (l : List UInt8) : List UInt8 := l.take 64 ++ zeros (64 - l.length)
theorem pad_len (l : List UInt8) : (pad l).length = 64 := by simp [pad, zeros]; omega


end Go.Proofs.Ytnohfdojcdhfoaa
namespace Go.Proofs.Ytnohfdojcdhfoaa
open Go.RowKit

section
variable {w w' : World} {p bL bS bW : Nat} {L S : List UInt8} {V : List Bool}
end
end Go.Proofs.Ytnohfdojcdhfoaa
namespace Go.Proofs.Ytnohfdojcdhfoaa
open Go.RowKit
section
variable {w : World} {p bL bS bW : Nat} {L S : List UInt8} {V : List Bool}
end
end Go.Proofs.Ytnohfdojcdhfoaa
namespace Go.Proofs.Ytnohfdojcdhfoaa
open Go.RowKit

/-- Numbers, as cells hold them. -/
def nmsN (l : List Nat) : List Value := l.map fun (i : Nat) => Value.int .i64 (i : Int)
theorem nmsN_len (l : List Nat) : (nmsN l).length = l.length := by simp [nmsN]
theorem nmsN_get (l : List Nat) (i : Nat) (h : i < l.length) : (nmsN l)[i]? = some (.int .i64 (l[i] : Int)) := by simp [nmsN, h]
/-- Which of the first k wait, rising. -/
def wl (V : List Bool) (k : Nat) : List Nat := (List.range k).filter fun i => V.getD i false
theorem wl_le (V : List Bool) (k : Nat) : (wl V k).length ≤ k := by
  have := List.length_filter_le (fun i => V.getD i false) (List.range k)
  simpa [wl] using this
theorem wl_yes (V : List Bool) (k : Nat) (h : k < V.length) (hv : V[k] = true) : wl V (k + 1) = wl V k ++ [k] := by
  unfold wl
  rw [List.range_succ, List.filter_append]
  simp [List.getD, h, hv]
theorem wl_no (V : List Bool) (k : Nat) (h : k < V.length) (hv : V[k] = false) : wl V (k + 1) = wl V k := by
  unfold wl
  rw [List.range_succ, List.filter_append]
  simp [List.getD, h, hv]

theorem nmsN_app (l : List Nat) (k : Nat) : nmsN (l ++ [k]) = nmsN l ++ [.int .i64 (k : Int)] := by simp [nmsN]
theorem chg_grown {T : List Nat} {a w w' : World} {row : Option Nat} (h : Chg T a w) (hg : w.grownBy w' row) (hr : ∀ g, row = some g → a.heap.size ≤ g) : Chg T a w' :=
  h.then_ (T' := row.toList) (Chg.of_grown hg fun g e _ => by simp [e]) fun i hi hlt => by
    have := hr i (by simpa using hi)
    omega

section
variable {w : World} {p bL bS bW : Nat} {L S : List UInt8} {V : List Bool}
end
end Go.Proofs.Ytnohfdojcdhfoaa
namespace Go.Proofs.Ytnohfdojcdhfoaa
open Go.RowKit

/-- Values and their numbers, one by one. -/
def Nums (vs : List Value) (rs : List (Option Int)) : Prop := vs.length = rs.length ∧ ∀ (i : Nat) (v : Value) (r : Option Int), vs[i]? = some v → rs[i]? = some r → Num v r
theorem Nums.nil : Nums [] [] := ⟨rfl, fun i v r h _ => by simp at h⟩
theorem Nums.cons {v : Value} {r : Option Int} {vs : List Value} {rs : List (Option Int)} (h : Num v r) (k : Nums vs rs) : Nums (v :: vs) (r :: rs) := by
  refine ⟨by simp [k.1], fun i u q hu hq => ?_⟩
  cases i with
  | zero => simp at hu hq; subst hu; subst hq; exact h
  | succ i => simp at hu hq; exact k.2 i u q hu hq
theorem Nums.app {vs vs' : List Value} {rs rs' : List (Option Int)} (h : Nums vs rs) (k : Nums vs' rs') : Nums (vs ++ vs') (rs ++ rs') := by
  refine ⟨by simp [h.1, k.1], fun i u q hu hq => ?_⟩
  rcases Nat.lt_or_ge i vs.length with hi | hi
  · rw [List.getElem?_append_left hi] at hu
    rw [List.getElem?_append_left (by rw [← h.1]; exact hi)] at hq
    exact h.2 i u q hu hq
  · rw [List.getElem?_append_right hi] at hu
    rw [List.getElem?_append_right (by rw [← h.1]; exact hi), ← h.1] at hq
    exact k.2 _ u q hu hq
theorem nms_one (l : List Int) : ∀ v ∈ nms l, v.oneCell' = true := by
  intro v hv
  simp only [nms, List.mem_map] at hv
  obtain ⟨c, _, rfl⟩ := hv
  rfl
theorem info_i64 : (Try.prog.info? 2).map (fun i => (i.zero, i.size, i.bytes)) = some (some (.int .i64 0), 1, 8) := by kernel_rfl
theorem make_i64s (n : Nat) (hn : n ≤ 1000000) (W : World) : (Instr.makeSlice 22 (.int .i64 0) (.int .i64 (n : Int))).run Try.prog W = .ok (.slice (some ⟨W.heap.size, 0, none⟩) 0 n) (W.alloc (.cells (List.replicate n (Value.int .i64 0)).toArray 2)) := by
  obtain ⟨i, hi, hz, hs1, hb⟩ := info_parts info_i64
  exact run_make0 (P := Try.prog) 22 2 i _ rfl Try.underlying22 hi hz hs1 n (by rw [hb]; omega) (by omega) W
section
variable {w : World} {A : Option Addr} {n c : Nat} {vs : List Value}
/-- All's answer where each has a number. -/
def AllYes (ns : List Int) (w : World) (e : Ending) (w' : World) : Prop := ∃ v, e = .returned (.tuple #[v, .bool true]) ∧ w'.ownsRow w.heap.size 2 1 v ns.length (nms ns) ∧ Chg [] w w'
def AllNo (w : World) (e : Ending) (w' : World) : Prop := e = .returned (.tuple #[.slice none 0 0, .bool false]) ∧ Chg [] w w'
end
section
variable {w : World} {v : Value}
end
end Go.Proofs.Ytnohfdojcdhfoaa
namespace Go.Proofs.Ytnohfdojcdhfoaa
open Go.RowKit
section
variable {w w' : World} {B B2 n m k k2 : Nat} {e e2 : TypeId} {v v2 : Value} {xs ys : List Value}
theorem rown_keep (h : w.ownsRow B e k v n xs) (hc : Chg [] w w') : w'.ownsRow B e k v n xs := by
  refine ⟨h.1, h.2.imp id ?_⟩
  rintro ⟨g, cap, cur, rfl, hb, hg, r⟩
  refine ⟨g, cap, cur, rfl, hb, ?_, r⟩
  rw [hc.block g ?_ (by simp)]
  · exact hg
  · rcases Nat.lt_or_ge g w.heap.size with hlt | hge
    · exact hlt
    · rw [Array.getElem?_eq_none hge] at hg; cases hg
theorem rown_slice (h : w.ownsRow B e k v n xs) : ∃ A c, v = .slice A n c ∧ n ≤ c ∧ c ≤ 9223372036854775807 ∧ (∀ ad, A = some ad → ad.spot = none ∧ B ≤ ad.block ∧ ad.off = 0 ∧ ad.block < w.heap.size) := by
  rcases h.2 with ⟨rfl, rfl⟩ | ⟨g, cap, cur, rfl, hb, hg, hn, hc, hs, ht⟩
  · exact ⟨none, 0, rfl, Nat.le_refl _, by omega, fun ad h => by cases h⟩
  · have hgl : g < w.heap.size := by
      rcases Nat.lt_or_ge g w.heap.size with hlt | hge
      · exact hlt
      · rw [Array.getElem?_eq_none hge] at hg; cases hg
    exact ⟨some ⟨g, 0, none⟩, cap, rfl, hn, by unfold maxLen at hc; omega, fun ad h => by injection h with h; subst h; exact ⟨rfl, hb, rfl, hgl⟩⟩
theorem rown_cell (h : w.ownsRow B e k v n xs) {A : Option Addr} {c : Nat} (hv : v = .slice A n c) {j : Nat} {u : Value} (hj : xs[j]? = some u) : ∃ g, A = some ⟨g, 0, none⟩ ∧ w.cell? ⟨g, j, none⟩ = some u := by
  rcases h.2 with ⟨rfl, rfl⟩ | ⟨g, cap, cur, rfl, hb, hg, hn, hc, hs, ht⟩
  · have := (List.getElem?_eq_some_iff.1 hj).1
    have h1 := h.1
    simp at h1
    subst h1
    simp at hj
  · injection hv with h1
    refine ⟨g, h1.symm, ?_⟩
    have := h.cells (g := g) rfl j u hj
    rwa [add_plain, Nat.zero_add] at this
theorem rown_grown (h : w.ownsRow B e k v n xs) (h2 : w.ownsRow B2 e2 k2 v2 m ys) (hne : e ≠ e2) (hg : w.grownBy w' v2.ownBlock) : w'.ownsRow B e k v n xs := by
  refine ⟨h.1, h.2.imp id ?_⟩
  rintro ⟨g, cap, cur, rfl, hb, hh, r⟩
  refine ⟨g, cap, cur, rfl, hb, ?_, r⟩
  rw [hg.block g ?_ ?_]
  · exact hh
  · rcases Nat.lt_or_ge g w.heap.size with hlt | hge
    · exact hlt
    · rw [Array.getElem?_eq_none hge] at hh; cases hh
  · intro hc
    rcases h2.2 with ⟨rfl, _⟩ | ⟨g2, cap2, cur2, rfl, hb2, hh2, _⟩
    · simp [Value.ownBlock] at hc
    · simp [Value.ownBlock] at hc
      subst hc
      rw [hh] at hh2
      simp at hh2
      exact hne hh2.2
end
end Go.Proofs.Ytnohfdojcdhfoaa
