/-
  EC: Mem, WordPure, CellsPure, Word.
-/
import Derived.WalkKit
import Derived.WalkSpells
import Derived.WalkLawsBesides
import Derived.Laws.CopyOwn
import Derived.Laws.Rows
import Derived.Laws.MakeOwn
import Derived.Deep.Draws
import Derived.Lib.SlBytesRow
import Derived.Lib.Hide
import Derived.Deep.RegionLaw
import Derived.Laws.BitsLemmas
import Derived.IntWalk
import Derived.Test.YtfhgnoajfipjdaaChecked
namespace Go.Proofs.Ytfhgnoajfipjdaa
open Go.RowKit

/-- From w to w' nothing has turned but the listed blocks, and what is new. -/
structure Chg (T : List Nat) (w w' : World) : Prop where
  os : w'.os = w.os
  tape : w'.tape = w.tape
  output : w'.output = w.output
  size : w.heap.size ≤ w'.heap.size
  block : ∀ k, k < w.heap.size → k ∉ T → w'.heap[k]? = w.heap[k]?

theorem Chg.refl (T : List Nat) (w : World) : Chg T w w := ⟨rfl, rfl, rfl, Nat.le_refl _, fun _ _ _ => rfl⟩

/-- Two steps; the second one's list may name blocks that were not there at the beginning. -/
theorem Chg.then_ {T T' : List Nat} {a b c : World} (h : Chg T a b) (k : Chg T' b c) (hs : ∀ i, i ∈ T' → i < a.heap.size → i ∈ T) : Chg T a c :=
  ⟨k.os.trans h.os, k.tape.trans h.tape, k.output.trans h.output, Nat.le_trans h.size k.size, fun i hi hn =>
    (k.block i (Nat.lt_of_lt_of_le hi h.size) (fun hm => hn (hs i hm hi))).trans (h.block i hi hn)⟩

theorem Chg.trans {T : List Nat} {a b c : World} (h : Chg T a b) (k : Chg T b c) : Chg T a c := h.then_ k fun _ h _ => h
theorem Chg.new {T : List Nat} {a b c : World} (h : Chg T a b) (k : Chg [] b c) : Chg T a c := h.then_ k fun _ h _ => by cases h
theorem Chg.sub {T T' : List Nat} {a b : World} (h : Chg T a b) (hs : ∀ i, i ∈ T → i ∈ T') : Chg T' a b := ⟨h.os, h.tape, h.output, h.size, fun i hi hn => h.block i hi fun hm => hn (hs i hm)⟩

theorem Chg.alloc {T : List Nat} {a w : World} (h : Chg T a w) (o : Obj) : Chg T a (w.alloc o) :=
  h.new ⟨rfl, rfl, rfl, by simp, fun k hk _ => Below.heap_alloc w o k hk⟩
theorem Chg.drew {T : List Nat} {a w : World} (h : Chg T a w) : Chg T a w.drew := ⟨h.os, h.tape, h.output, h.size, h.block⟩
theorem Chg.drewN {T : List Nat} {a w : World} (h : Chg T a w) (n : Nat) : Chg T a (w.drewN n) := ⟨h.os, h.tape, h.output, h.size, h.block⟩
theorem Chg.setCell {T : List Nat} {a w : World} (h : Chg T a w) {p : Addr} (hp : p.block < a.heap.size → p.block ∈ T) (u : Value) : Chg T a (w.setCell p u) :=
  h.then_ (T' := [p.block]) ⟨rfl, rfl, rfl, by simp [World.setCell], fun k _ hn => Below.heap_setCell w p u k (by simpa using hn)⟩ fun i hi hlt => by
    simp only [List.mem_cons, List.not_mem_nil, or_false] at hi
    subst hi
    exact hp hlt
theorem Chg.setRow {T : List Nat} {a w : World} (h : Chg T a w) {g : Nat} (hp : g < a.heap.size → g ∈ T) (cs : Array Value) : Chg T a (w.setRow g cs) :=
  h.then_ (T' := [g]) ⟨rfl, rfl, rfl, by simp, fun k _ hn => setRow_other w g k cs (by simpa using hn)⟩ fun i hi hlt => by
    simp only [List.mem_cons, List.not_mem_nil, or_false] at hi
    subst hi
    exact hp hlt
theorem Chg.of_grown {a w : World} {row : Option Nat} {T : List Nat} (h : a.grownBy w row) (hr : ∀ g, row = some g → g < a.heap.size → g ∈ T) : Chg T a w :=
  ⟨h.os, h.tape, h.output, h.size, fun k hk hn => h.block k hk fun e => hn (hr k e.symm hk)⟩
/-- All that has turned lies from B on. -/
theorem Chg.below {T : List Nat} {a w : World} (h : Chg T a w) {B : Nat} (hB : B ≤ a.heap.size) (hT : ∀ i, i ∈ T → B ≤ i) : Below B a w :=
  ⟨h.os, h.tape, h.output, h.size, fun k hk => h.block k (by omega) fun hm => by have := hT k hm; omega⟩
theorem Chg.below0 {a w : World} (h : Chg [] a w) : Below a.heap.size a w := h.below (Nat.le_refl _) (by simp)

/-- Block g is known whole: the cells cs of element type t, none of them frozen. -/
def Whole (w : World) (g t : Nat) (cs : List Value) : Prop := w.heap[g]? = some (.cells cs.toArray t (0, 0))

section
variable {w w' : World} {g t : Nat} {cs : List Value}
theorem Whole.lt (h : Whole w g t cs) : g < w.heap.size := by
  rcases Nat.lt_or_ge g w.heap.size with hlt | hge
  · exact hlt
  · unfold Whole at h; rw [Array.getElem?_eq_none hge] at h; cases h
theorem Whole.cell (h : Whole w g t cs) (i : Nat) : w.cell? ⟨g, i, none⟩ = cs[i]? := by
  have := cell_of_row w g i cs.toArray t (0, 0) h
  simpa using this
theorem Whole.frozen (h : Whole w g t cs) (i : Nat) : w.frozen? ⟨g, i, none⟩ = false := frozen_of_row w g i cs.toArray t h
theorem Whole.chg {T : List Nat} (h : Whole w g t cs) (hc : Chg T w w') (hg : g ∉ T) : Whole w' g t cs := (hc.block g h.lt hg).trans h
theorem Whole.keep (h : Whole w g t cs) (hc : Chg [] w w') : Whole w' g t cs := h.chg hc (by simp)
theorem Whole.drew (h : Whole w g t cs) : Whole w.drew g t cs := h
theorem Whole.drewN (h : Whole w g t cs) (n : Nat) : Whole (w.drewN n) g t cs := h
theorem Whole.set_ (h : Whole w g t cs) (i : Nat) (u : Value) : Whole (w.setCell ⟨g, i, none⟩ u) g t (cs.set i u) := by
  have := heap_setCell_same w g i cs.toArray t u h
  unfold Whole
  rw [this]
  simp
theorem Whole.far (h : Whole w g t cs) {p : Addr} (hp : g ≠ p.block) (u : Value) : Whole (w.setCell p u) g t cs := (Below.heap_setCell w p u g hp).trans h
theorem Whole.new (w : World) (t : Nat) (cs : List Value) : Whole (w.alloc (.cells cs.toArray t)) w.heap.size t cs := heap_alloc_new w _
theorem Whole.ne_ {g' t' : Nat} {cs' : List Value} (h : Whole w g t cs) (h' : Whole w g' t' cs') (hne : t ≠ t') : g ≠ g' := by
  rintro rfl
  unfold Whole at h h'
  rw [h] at h'
  injection h' with h'
  injection h' with _ ht
  exact hne ht
end

theorem add_plain (g o j : Nat) : (⟨g, o, none⟩ : Addr).add j = ⟨g, o + j, none⟩ := by unfold Addr.add; split <;> simp_all

/-- The slice value at A of length n reads as the cells xs. -/
def Src (w : World) (A : Option Addr) (xs : List Value) : Prop := 0 < xs.length → ∃ ad, A = some ad ∧ ad.block < w.heap.size ∧ ∀ j v, xs[j]? = some v → w.cell? (ad.add j) = some v
theorem Src.nil (w : World) (A : Option Addr) : Src w A [] := fun h => absurd h (by simp)
theorem Src.drew {w : World} {A : Option Addr} {xs : List Value} (h : Src w A xs) : Src w.drew A xs := h
theorem Src.drewN {w : World} {A : Option Addr} {xs : List Value} (h : Src w A xs) (n : Nat) : Src (w.drewN n) A xs := h
theorem Src.of_whole {w : World} {g t : Nat} {cs : List Value} (h : Whole w g t cs) (o n : Nat) : Src w (some ⟨g, o, none⟩) ((cs.drop o).take n) := fun _ =>
  ⟨_, rfl, h.lt, fun j v hj => by
    rw [add_plain, h.cell]
    rw [List.getElem?_take] at hj
    split at hj
    · rwa [List.getElem?_drop] at hj
    · cases hj⟩
theorem Src.of_all {w : World} {g t : Nat} {cs : List Value} (h : Whole w g t cs) : Src w (some ⟨g, 0, none⟩) cs := by
  have := Src.of_whole h 0 cs.length
  simpa using this
theorem Src.keep {w w' : World} {A : Option Addr} {xs : List Value} (h : Src w A xs) (hc : Chg [] w w') : Src w' A xs := fun hp => by
  obtain ⟨ad, e, hb, hx⟩ := h hp
  refine ⟨ad, e, Nat.lt_of_lt_of_le hb hc.size, fun j v hj => ?_⟩
  have := hx j v hj
  rw [← this]
  refine World.cell?_of_block (w := w) (hc.block _ ?_ (by simp))
  have e2 : (ad.add j).block = ad.block := by unfold Addr.add; split <;> rfl
  rw [e2]; exact hb

/-- A byte, a truth, as cells hold them. -/
def B8 (c : UInt8) : Value := .int .u8 (c.toNat : Int)
def bts (l : List UInt8) : List Value := l.map B8
def bls (l : List Bool) : List Value := l.map Value.bool
def nms (l : List Int) : List Value := l.map (Value.int .i64)
theorem bts_one (l : List UInt8) : ∀ v ∈ bts l, v.oneCell' = true := by
  intro v hv
  simp only [bts, List.mem_map] at hv
  obtain ⟨c, _, rfl⟩ := hv
  rfl
theorem bts_len (l : List UInt8) : (bts l).length = l.length := by simp [bts]
theorem bts_get (l : List UInt8) (i : Nat) (h : i < l.length) : (bts l)[i]? = some (B8 l[i]) := by simp [bts, h]
theorem bts_set (l : List UInt8) (i : Nat) (c : UInt8) : (bts l).set i (B8 c) = bts (l.set i c) := by simp [bts]
theorem bls_len (l : List Bool) : (bls l).length = l.length := by simp [bls]
theorem bls_get (l : List Bool) (i : Nat) (h : i < l.length) : (bls l)[i]? = some (.bool l[i]) := by simp [bls, h]
theorem bls_set (l : List Bool) (i : Nat) (c : Bool) : (bls l).set i (.bool c) = bls (l.set i c) := by simp [bls]

def zeros (n : Nat) : List UInt8 := List.replicate n 0
def falses (n : Nat) : List Bool := List.replicate n false
theorem zeros_len (n : Nat) : (zeros n).length = n := by simp [zeros]
theorem falses_len (n : Nat) : (falses n).length = n := by simp [falses]
theorem bts_zeros (n : Nat) : bts (zeros n) = List.replicate n (.int .u8 0) := by simp [bts, zeros, B8]
theorem bls_falses (n : Nat) : bls (falses n) = List.replicate n (.bool false) := by simp [bls, falses]

theorem made_one (z : Value) (n : Nat) : madeCells #[z] n = (List.replicate n z).toArray := by
  apply Array.ext
  · simp [madeCells]
  · intro i h1 h2
    simp [madeCells, Nat.mod_one]
/-- 'make([]T, n)': one cell a place. -/
theorem run_make1 {P : Program} (t e : TypeId) (i : TypeInfo) (z : Value) (hz1 : z.cells = #[z]) (ht : P.underlying t = some (.slice e)) (hi : P.info? e = some i) (hz : i.zero = some z) (hs : i.size = 1)
    (n : Nat) (hb : i.bytes * n ≤ 281474976710656) (h63 : n ≤ 9223372036854775807) (w : World) :
    (Instr.makeSlice t (.int .i64 (n : Int)) (.int .i64 (n : Int))).run P w = .ok (.slice (some ⟨w.heap.size, 0, none⟩) n n) (w.alloc (.cells (List.replicate n z).toArray e)) := by
  have hb' : (i.bytes : Int) * (n : Int) ≤ 281474976710656 := by
    have h : ((i.bytes * n : Nat) : Int) ≤ 281474976710656 := by omega
    rwa [Int.natCast_mul] at h
  have h := run_make (P := P) w t e i z ht hi hz .i64 .i64 (n : Int) (n : Int) (by omega) (Int.le_refl _) hb' (by omega)
  rw [h, hs, hz1, made_one]
  simp

/-- 'copy(dst, src)' into a block that is known whole: which block has turned is told. -/
theorem run_copy_chg {P : Program} {w : World} {g off t : Nat} {cur cs : List Value} (dT sT ty elem : TypeId) (hu : P.underlying dT = some (.slice elem)) (hsz : (P.info? elem).map (·.size) = some 1)
    (dp sp : Option Addr) (dLen dCap sLen sCap : Nat) (hg : Whole w g t cur) (hn : cs.length = Nat.min sLen dLen) (hd : 0 < cs.length → dp = some ⟨g, off, none⟩) (hs : Src w sp cs)
    (hfit : off + cs.length ≤ cur.length) (h1 : ∀ v ∈ cs, v.oneCell' = true) :
    ∃ w', (Builtin.copy_ #[dT, sT] ty #[.slice dp dLen dCap, .slice sp sLen sCap]).run P w = .ok (goInt cs.length) w' ∧ Whole w' g t (splice cur off cs) ∧ Chg [g] w w' := by
  rcases Nat.eq_zero_or_pos cs.length with h0 | h0
  · obtain rfl : cs = [] := List.eq_nil_of_length_eq_zero h0
    refine ⟨w, run_copy_none (P := P) w dT sT ty elem dp sp dLen dCap sLen sCap hu hsz (by simpa using hn.symm), ?_, Chg.refl _ _⟩
    simpa [splice] using hg
  · obtain ⟨ad, rfl, _, hx⟩ := hs h0
    obtain rfl := hd h0
    refine ⟨_, run_copy_row (P := P) w dT sT ty elem g off dLen dCap ad sLen sCap cur.toArray t cs hu hsz hg hn hx (by simpa using hfit) h1, ?_, (Chg.refl [g] w).setRow (by simp) _⟩
    have := setRow_heap w g _ (splice cur off cs).toArray t _ hg
    simpa [Whole, splice, List.append_assoc] using this

theorem wpList_copy_chg {P : Program} {w : World} {ops : Array Oper} {rest : List Oper} {o : Oper} {a : Act} {Q : Exit → Act → World → Prop} (hgd : o.guard = none) (d s : Operand) (dT sT : TypeId)
    (ho : o.op = .call { callee := .builtin .copy, args := #[d, s], argTypes := #[dT, sT] }) (elem : TypeId) (hu : P.underlying dT = some (.slice elem)) (hsz : (P.info? elem).map (·.size) = some 1)
    (dp sp : Option Addr) (dLen dCap sLen sCap : Nat) (hde : a.eval d = .slice dp dLen dCap) (hse : a.eval s = .slice sp sLen sCap)
    (g off t : Nat) (cur cs : List Value) (hg : Whole w g t cur) (hn : cs.length = Nat.min sLen dLen) (hd : 0 < cs.length → dp = some ⟨g, off, none⟩) (hs : Src w sp cs)
    (hfit : off + cs.length ≤ cur.length) (h1 : ∀ v ∈ cs, v.oneCell' = true)
    (h : ∀ w', Whole w' g t (splice cur off cs) → Chg [g] w w' → wpList P ops Q rest (a.put o.dst (goInt cs.length)) w') : wpList P ops Q (o :: rest) a w := by
  refine wpList_plain hgd fun K hK => ?_
  obtain ⟨w', hrun, h2, h3⟩ := run_copy_chg (P := P) dT sT o.type elem hu hsz dp sp dLen dCap sLen sCap hg hn hd hs hfit h1
  unfold Oper.wp
  simp [execOp, ho, resolve, invoke, builtin, hde, hse, hrun, Result.andThen]
  exact hK _ _ (h w' h2 h3)

/-- 'string(b)'. -/
def strOf (l : List UInt8) : ByteArray := ⟨l.toArray⟩
theorem run_str {P : Program} (src e dst : TypeId) (hs : P.underlying src = some (.slice e)) (he : P.underlying e = some (.int .u8)) (hd : P.underlying dst = some .string)
    (A : Option Addr) (l : List UInt8) (cap : Nat) (w : World) (h : Src w A (bts l)) (hp : ∀ ad, A = some ad → ad.spot = none) :
    (convert src dst (.slice A l.length cap)).run P w = .ok (.string (strOf l)) w := by
  rcases Nat.eq_zero_or_pos l.length with h0 | h0
  · obtain rfl : l = [] := List.eq_nil_of_length_eq_zero h0
    rcases A with _ | ad
    · exact run_convert_bytes_nil (P := P) w src e hs he 0 cap dst hd
    · obtain ⟨b, o, s⟩ := ad
      obtain rfl : s = none := hp _ rfl
      exact Lib.run_convert_whole (P := P) w src e dst hs he hd b o (strOf []) (fun i hi => absurd hi (by simp [strOf, ByteArray.size])) cap
  · obtain ⟨ad, rfl, _, hx⟩ := h (by simpa [bts] using h0)
    obtain ⟨b, o, s⟩ := ad
    obtain rfl : s = none := hp _ rfl
    have := Lib.run_convert_whole (P := P) w src e dst hs he hd b o (strOf l) (fun i hi => by
      have hi' : i < l.length := by simpa [strOf, ByteArray.size] using hi
      have h1 := hx i _ (bts_get l i hi')
      rw [add_plain] at h1
      rw [h1]
      rfl) cap
    simpa [strOf, ByteArray.size] using this
end Go.Proofs.Ytfhgnoajfipjdaa
namespace Go.Proofs.Ytfhgnoajfipjdaa
open Go.RowKit

theorem i64_and63 (n : Int) : bits .and .i64 n 63 = n % 64 := by
  have h127 : (BitVec.ofInt 64 63).toNat = 2 ^ 6 - 1 := by decide
  have key : (BitVec.ofInt 64 n &&& BitVec.ofInt 64 63).toNat = (n % ((2 ^ 64 : Nat) : Int)).toNat % 2 ^ 6 := by
    rw [BitVec.toNat_and, BitVec.toNat_ofInt, h127, Nat.and_two_pow_sub_one_eq_mod]
  show IntKind.i64.wrap ((BitVec.ofInt 64 n &&& BitVec.ofInt 64 63).toNat : Nat) = n % 64
  rw [key, IntKind.wrap_i64]
  omega
/-- What Do answers: the number, the trap. -/
def doR (s a b : Int) : Int × Int :=
  if s = 43 then (wrap64 (a + b), 0) else if s = 45 then (wrap64 (a - b), 0) else if s = 42 then (wrap64 (a * b), 0)
  else if s = 47 then (if b = 0 then (0, 3) else if a = -9223372036854775808 ∧ b = -1 then (0, 4) else (wrap64 (a.tdiv b), 0))
  else if s = 37 then (if b = 0 then (0, 3) else (a.tmod b, 0))
  else if s = 38 then (bits .and .i64 a b, 0) else if s = 124 then (bits .or .i64 a b, 0) else if s = 94 then (bits .xor .i64 a b, 0)
  else if s = 60 then (if a < b then 1 else 0, 0) else if s = 61 then (if a = b then 1 else 0, 0)
  else if s = 171 then (wrap64 (a * 2 ^ (b % 64).toNat), 0) else if s = 187 then (a / 2 ^ (b % 64).toNat, 0)
  else if s = 33 then (if a = 0 then 1 else 0, 0) else (0, 2)
theorem doR_none {s : Int} (a b : Int) (h : s ≠ 43 ∧ s ≠ 45 ∧ s ≠ 42 ∧ s ≠ 47 ∧ s ≠ 37 ∧ s ≠ 38 ∧ s ≠ 124 ∧ s ≠ 94 ∧ s ≠ 60 ∧ s ≠ 61 ∧ s ≠ 171 ∧ s ≠ 187 ∧ s ≠ 33) : doR s a b = (0, 2) := by
  obtain ⟨h1, h2, h3, h4, h5, h6, h7, h8, h9, h10, h11, h12, h13⟩ := h
  simp [doR, h1, h2, h3, h4, h5, h6, h7, h8, h9, h10, h11, h12, h13]
end Go.Proofs.Ytfhgnoajfipjdaa
namespace Go.Proofs.Ytfhgnoajfipjdaa
open Go.RowKit

/-- Byte i of a number. -/
def byteN (n : Int) (i : Nat) : UInt8 := UInt8.ofNat (n / 2 ^ (8 * i) % 256).toNat
theorem byteN_int (n : Int) (i : Nat) : ((byteN n i).toNat : Int) = n / 2 ^ (8 * i) % 256 := by
  unfold byteN
  rw [UInt8.toNat_ofNat']
  have h1 := Int.emod_nonneg (n / 2 ^ (8 * i)) (show (256 : Int) ≠ 0 by omega)
  have h2 := Int.emod_lt_of_pos (n / 2 ^ (8 * i)) (show (0 : Int) < 256 by omega)
  omega
/-- m bytes of n from k on. -/
def stL (L : List UInt8) (k : Nat) (n : Int) : Nat → List UInt8
  | 0 => L
  | m + 1 => (stL L k n m).set (k + m) (byteN n m)
def stV (V : List Bool) (k : Nat) : Nat → List Bool
  | 0 => V
  | m + 1 => (stV V k m).set ((k + m) / 64) true
theorem stL_len (L : List UInt8) (k : Nat) (n : Int) (m : Nat) : (stL L k n m).length = L.length := by
  induction m with
  | zero => rfl
  | succ m ih => rw [stL, List.length_set, ih]
theorem stV_len (V : List Bool) (k m : Nat) : (stV V k m).length = V.length := by
  induction m with
  | zero => rfl
  | succ m ih => rw [stV, List.length_set, ih]
/-- The number that bytes are, the lowest first. -/
def ldN : List UInt8 → Nat
  | [] => 0
  | b :: l => b.toNat + 256 * ldN l
theorem ldN_lt (l : List UInt8) : ldN l < 256 ^ l.length := by
  induction l with
  | nil => simp [ldN]
  | cons b l ih =>
    have h := b.toNat_lt
    rw [ldN, List.length_cons, Nat.pow_succ]
    omega
theorem ldN_next (L : List UInt8) (k j m : Nat) (h : k + j < L.length) (hm : 0 < m) : ldN ((L.drop (k + j)).take m) = (L[k + j]).toNat + 256 * ldN ((L.drop (k + j + 1)).take (m - 1)) := by
  obtain ⟨q, rfl⟩ : ∃ q, m = q + 1 := ⟨m - 1, by omega⟩
  rw [List.drop_eq_getElem_cons h, List.take_succ_cons, ldN]
  rfl
/-- What a Load tells. -/
def ldI (L : List UInt8) (k s : Nat) : Int := IntKind.i64.wrap (ldN ((L.drop k).take s) : Nat)
theorem u64_shl_or (a : Nat) (b : UInt8) (ha : a < 72057594037927936) : bits .or .u64 ((a : Int) * 256) (b.toNat : Int) = ((b.toNat + 256 * a : Nat) : Int) := by
  have hb := b.toNat_lt
  have e := bits_or_u64_nat (a * 256) b.toNat (by omega) (by omega)
  have e1 : ((a * 256 : Nat) : Int) = (a : Int) * 256 := by omega
  rw [e1] at e
  rw [e]
  congr 1
  have h := Nat.shiftLeft_add_eq_or_of_lt (i := 8) (b := b.toNat) (by omega) a
  rw [Nat.shiftLeft_eq] at h
  have h256 : (2 : Nat) ^ 8 = 256 := rfl
  rw [h256] at h
  rw [← h]
  omega
end Go.Proofs.Ytfhgnoajfipjdaa
namespace Go.Proofs.Ytfhgnoajfipjdaa
open Go.RowKit

/-- Do's answer as a result. -/
def DoPost (s a b : Int) (w : World) (e : Ending) (w' : World) : Prop := e = .returned (.tuple #[.int .i64 (doR s a b).1, .int .i64 (doR s a b).2]) ∧ w = w'
theorem do_post {s a b x y : Int} {w : World} (h : doR s a b = (x, y)) : DoPost s a b w (.returned (.tuple #[.int .i64 x, .int .i64 y])) w := by unfold DoPost; rw [h]; exact ⟨rfl, rfl⟩
theorem doR_43 (a b : Int) : doR 43 a b = (wrap64 (a + b), 0) := by simp [doR]
theorem doR_45 (a b : Int) : doR 45 a b = (wrap64 (a - b), 0) := by simp [doR]
theorem doR_42 (a b : Int) : doR 42 a b = (wrap64 (a * b), 0) := by simp [doR]
theorem doR_38 (a b : Int) : doR 38 a b = (bits .and .i64 a b, 0) := by simp [doR]
theorem doR_124 (a b : Int) : doR 124 a b = (bits .or .i64 a b, 0) := by simp [doR]
theorem doR_94 (a b : Int) : doR 94 a b = (bits .xor .i64 a b, 0) := by simp [doR]
theorem doR_60 (a b : Int) : doR 60 a b = (if a < b then 1 else 0, 0) := by simp [doR]
theorem doR_61 (a b : Int) : doR 61 a b = (if a = b then 1 else 0, 0) := by simp [doR]
theorem doR_171 (a b : Int) : doR 171 a b = (wrap64 (a * 2 ^ (b % 64).toNat), 0) := by simp [doR]
theorem doR_187 (a b : Int) : doR 187 a b = (a / 2 ^ (b % 64).toNat, 0) := by simp [doR]
theorem doR_33 (a b : Int) : doR 33 a b = (if a = 0 then 1 else 0, 0) := by simp [doR]
theorem doR_47 (a b : Int) : doR 47 a b = (if b = 0 then (0, 3) else if a = -9223372036854775808 ∧ b = -1 then (0, 4) else (wrap64 (a.tdiv b), 0)) := by simp [doR]
theorem doR_37 (a b : Int) : doR 37 a b = (if b = 0 then (0, 3) else (a.tmod b, 0)) := by simp [doR]
theorem tup2 {x y : Int} {u v : Int} (h : x = u) (k : y = v) : ((x, y) : Int × Int) = (u, v) := by rw [h, k]
section
variable {w : World}

set_option maxHeartbeats 400000 in
theorem truth_any (b : Bool) : Calls Try.prog 188 #[.bool b] w fun e w' => e = .returned (.int .i64 (if b then 1 else 0)) ∧ w = w' := by
  cases b <;>
  · go_enter Try.func188, Try.ntmps188
    go_wp2_with fail
    go_ret
    exact ⟨rfl, rfl⟩
set_option maxHeartbeats 400000 in
theorem do_add (a b : Int) : Calls Try.prog 173 #[.int .i32 43, .int .i64 a, .int .i64 b] w (DoPost 43 a b w) := by
  go_enter Try.func173, Try.ntmps173
  go_wp2_with fail
  go_ret2
  exact do_post (doR_43 a b)
set_option maxHeartbeats 400000 in
theorem do_sub (a b : Int) : Calls Try.prog 173 #[.int .i32 45, .int .i64 a, .int .i64 b] w (DoPost 45 a b w) := by
  go_enter Try.func173, Try.ntmps173
  go_wp2_with fail
  go_ret2
  exact do_post (doR_45 a b)
set_option maxHeartbeats 400000 in
theorem do_mul (a b : Int) : Calls Try.prog 173 #[.int .i32 42, .int .i64 a, .int .i64 b] w (DoPost 42 a b w) := by
  go_enter Try.func173, Try.ntmps173
  go_wp2_with fail
  go_ret2
  exact do_post (doR_42 a b)
set_option maxHeartbeats 400000 in
theorem do_and (a b : Int) : Calls Try.prog 173 #[.int .i32 38, .int .i64 a, .int .i64 b] w (DoPost 38 a b w) := by
  go_enter Try.func173, Try.ntmps173
  go_wp2_with fail
  go_ret2
  exact do_post (doR_38 a b)
set_option maxHeartbeats 400000 in
theorem do_or (a b : Int) : Calls Try.prog 173 #[.int .i32 124, .int .i64 a, .int .i64 b] w (DoPost 124 a b w) := by
  go_enter Try.func173, Try.ntmps173
  go_wp2_with fail
  go_ret2
  exact do_post (doR_124 a b)
set_option maxHeartbeats 400000 in
theorem do_xor (a b : Int) : Calls Try.prog 173 #[.int .i32 94, .int .i64 a, .int .i64 b] w (DoPost 94 a b w) := by
  go_enter Try.func173, Try.ntmps173
  go_wp2_with fail
  go_ret2
  exact do_post (doR_94 a b)
set_option maxHeartbeats 400000 in
theorem do_lt (a b : Int) : Calls Try.prog 173 #[.int .i32 60, .int .i64 a, .int .i64 b] w (DoPost 60 a b w) := by
  have HR := Lib.hid (doR_60 a b)
  by_cases h : a < b
  · have HH := Lib.hid h
    have hd : decide (a < b) = true := by simpa using h
    clear h
    go_enter Try.func173, Try.ntmps173
    go_wp2_with (go_at_call 188; refine (truth_any _).mono ?_; rintro e w' ⟨rfl, rfl⟩)
    go_ret2
    exact do_post (by rw [HR.out]; exact tup2 (by simp [HH.out]) rfl)
  · have HH := Lib.hid h
    have hd : decide (a < b) = false := by simpa using h
    clear h
    go_enter Try.func173, Try.ntmps173
    go_wp2_with (go_at_call 188; refine (truth_any _).mono ?_; rintro e w' ⟨rfl, rfl⟩)
    go_ret2
    exact do_post (by rw [HR.out]; exact tup2 (by simp [HH.out]) rfl)
set_option maxHeartbeats 400000 in
theorem do_eq (a b : Int) : Calls Try.prog 173 #[.int .i32 61, .int .i64 a, .int .i64 b] w (DoPost 61 a b w) := by
  have HR := Lib.hid (doR_61 a b)
  by_cases h : a = b
  · have HH := Lib.hid h
    have hd : (a == b) = true := by simpa using h
    clear h
    go_enter Try.func173, Try.ntmps173
    go_wp2_with (go_at_call 188; refine (truth_any _).mono ?_; rintro e w' ⟨rfl, rfl⟩)
    go_ret2
    exact do_post (by rw [HR.out]; exact tup2 (by simp [HH.out]) rfl)
  · have HH := Lib.hid h
    have hd : (a == b) = false := by simpa using h
    clear h
    go_enter Try.func173, Try.ntmps173
    go_wp2_with (go_at_call 188; refine (truth_any _).mono ?_; rintro e w' ⟨rfl, rfl⟩)
    go_ret2
    exact do_post (by rw [HR.out]; exact tup2 (by simp [HH.out]) rfl)
set_option maxHeartbeats 400000 in
theorem do_not (a b : Int) : Calls Try.prog 173 #[.int .i32 33, .int .i64 a, .int .i64 b] w (DoPost 33 a b w) := by
  have HR := Lib.hid (doR_33 a b)
  by_cases h : a = 0
  · have HH := Lib.hid h
    have hd : (a == 0) = true := by simpa using h
    clear h
    go_enter Try.func173, Try.ntmps173
    go_wp2_with (go_at_call 188; refine (truth_any _).mono ?_; rintro e w' ⟨rfl, rfl⟩)
    go_ret2
    exact do_post (by rw [HR.out]; exact tup2 (by simp [HH.out]) rfl)
  · have HH := Lib.hid h
    have hd : (a == 0) = false := by simpa using h
    clear h
    go_enter Try.func173, Try.ntmps173
    go_wp2_with (go_at_call 188; refine (truth_any _).mono ?_; rintro e w' ⟨rfl, rfl⟩)
    go_ret2
    exact do_post (by rw [HR.out]; exact tup2 (by simp [HH.out]) rfl)
set_option maxHeartbeats 400000 in
theorem do_shl (a b : Int) : Calls Try.prog 173 #[.int .i32 171, .int .i64 a, .int .i64 b] w (DoPost 171 a b w) := by
  have H6 := i64_and63 b
  have h0 : 0 ≤ b % 64 := by omega
  have h1 : b % 64 ≤ 64 := by omega
  go_enter Try.func173, Try.ntmps173
  go_wp2_with fail
  go_ret2
  exact do_post (doR_171 a b)
set_option maxHeartbeats 400000 in
theorem do_shr (a b : Int) : Calls Try.prog 173 #[.int .i32 187, .int .i64 a, .int .i64 b] w (DoPost 187 a b w) := by
  have H6 := i64_and63 b
  have h0 : 0 ≤ b % 64 := by omega
  have h1 : b % 64 ≤ 64 := by omega
  go_enter Try.func173, Try.ntmps173
  go_wp2_with fail
  go_ret2
  exact do_post (doR_187 a b)
end
end Go.Proofs.Ytfhgnoajfipjdaa
