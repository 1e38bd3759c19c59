/-
  UN: Mem, Read, Own, Bs, Law, Frame, LawB, Into.
-/
import Derived.Test.YtodbeeodhekpeaaDoorZUN1
import Derived.WalkKit
import Derived.WalkSpells
import Derived.WalkLawsBesides
import Derived.Laws.CopyOwn
import Derived.Laws.Rows
import Derived.Laws.MakeOwn
import Derived.Deep.Draws
import Derived.Lib.SlBytesRow
import Derived.Lib.Hide
import Derived.Deep.RegionLaw
import Derived.Maps.AppendAt
import Derived.OwnWalk
import Derived.Laws.BytesArg
import Derived.Test.YtodbeeodhekpeaaDoorChecked
namespace Go.Proofs.YtodbeeodhekpeaaDoor
open Go.RowKit

/-- From w to w' nothing has turned but the listed blocks, and what is new. -/
structure Chg (T : List Nat) (w w' : World) : Prop where
  os : w'.os = w.os
  tape : w'.tape = w.tape
  output : w'.output = w.output
  size : w.heap.size ≤ w'.heap.size
  block : ∀ k, k < w.heap.size → k ∉ T → w'.heap[k]? = w.heap[k]?

theorem Chg.refl (T : List Nat) (w : World) : Chg T w w := ⟨rfl, rfl, rfl, Nat.le_refl _, fun _ _ _ => rfl⟩

/-- Two steps; the second one's list may name blocks that were not there at the beginning. -/
theorem Chg.then_ {T T' : List Nat} {a b c : World} (h : Chg T a b) (k : Chg T' b c) (hs : ∀ i, i ∈ T' → i < a.heap.size → i ∈ T) : Chg T a c :=
  ⟨k.os.trans h.os, k.tape.trans h.tape, k.output.trans h.output, Nat.le_trans h.size k.size, fun i hi hn =>
    (k.block i (Nat.lt_of_lt_of_le hi h.size) (fun hm => hn (hs i hm hi))).trans (h.block i hi hn)⟩

theorem Chg.trans {T : List Nat} {a b c : World} (h : Chg T a b) (k : Chg T b c) : Chg T a c := h.then_ k fun _ h _ => h
theorem Chg.new {T : List Nat} {a b c : World} (h : Chg T a b) (k : Chg [] b c) : Chg T a c := h.then_ k fun _ h _ => by cases h
theorem Chg.sub {T T' : List Nat} {a b : World} (h : Chg T a b) (hs : ∀ i, i ∈ T → i ∈ T') : Chg T' a b := ⟨h.os, h.tape, h.output, h.size, fun i hi hn => h.block i hi fun hm => hn (hs i hm)⟩

theorem Chg.alloc {T : List Nat} {a w : World} (h : Chg T a w) (o : Obj) : Chg T a (w.alloc o) :=
  h.new ⟨rfl, rfl, rfl, by simp, fun k hk _ => Below.heap_alloc w o k hk⟩
theorem Chg.drew {T : List Nat} {a w : World} (h : Chg T a w) : Chg T a w.drew := ⟨h.os, h.tape, h.output, h.size, h.block⟩
theorem Chg.drewN {T : List Nat} {a w : World} (h : Chg T a w) (n : Nat) : Chg T a (w.drewN n) := ⟨h.os, h.tape, h.output, h.size, h.block⟩
theorem Chg.setCell {T : List Nat} {a w : World} (h : Chg T a w) {p : Addr} (hp : p.block < a.heap.size → p.block ∈ T) (u : Value) : Chg T a (w.setCell p u) :=
  h.then_ (T' := [p.block]) ⟨rfl, rfl, rfl, by simp [World.setCell], fun k _ hn => Below.heap_setCell w p u k (by simpa using hn)⟩ fun i hi hlt => by
    simp only [List.mem_cons, List.not_mem_nil, or_false] at hi
    subst hi
    exact hp hlt
theorem Chg.of_grown {a w : World} {row : Option Nat} {T : List Nat} (h : a.grownBy w row) (hr : ∀ g, row = some g → g < a.heap.size → g ∈ T) : Chg T a w :=
  ⟨h.os, h.tape, h.output, h.size, fun k hk hn => h.block k hk fun e => hn (hr k e.symm hk)⟩
/-- All that has turned lies from B on. -/
theorem Chg.below {T : List Nat} {a w : World} (h : Chg T a w) {B : Nat} (hB : B ≤ a.heap.size) (hT : ∀ i, i ∈ T → B ≤ i) : Below B a w :=
  ⟨h.os, h.tape, h.output, h.size, fun k hk => h.block k (by omega) fun hm => by have := hT k hm; omega⟩
theorem Chg.below0 {a w : World} (h : Chg [] a w) : Below a.heap.size a w := h.below (Nat.le_refl _) (by simp)

/-- Block g is known whole: the cells cs of element type t, none of them frozen. -/
def Whole (w : World) (g t : Nat) (cs : List Value) : Prop := w.heap[g]? = some (.cells cs.toArray t (0, 0))

section
variable {w w' : World} {g t : Nat} {cs : List Value}
theorem Whole.lt (h : Whole w g t cs) : g < w.heap.size := by
  rcases Nat.lt_or_ge g w.heap.size with hlt | hge
  · exact hlt
  · unfold Whole at h; rw [Array.getElem?_eq_none hge] at h; cases h
theorem Whole.cell (h : Whole w g t cs) (i : Nat) : w.cell? ⟨g, i, none⟩ = cs[i]? := by
  have := cell_of_row w g i cs.toArray t (0, 0) h
  simpa using this
theorem Whole.frozen (h : Whole w g t cs) (i : Nat) : w.frozen? ⟨g, i, none⟩ = false := frozen_of_row w g i cs.toArray t h
theorem Whole.chg {T : List Nat} (h : Whole w g t cs) (hc : Chg T w w') (hg : g ∉ T) : Whole w' g t cs := (hc.block g h.lt hg).trans h
theorem Whole.keep (h : Whole w g t cs) (hc : Chg [] w w') : Whole w' g t cs := h.chg hc (by simp)
theorem Whole.drew (h : Whole w g t cs) : Whole w.drew g t cs := h
theorem Whole.drewN (h : Whole w g t cs) (n : Nat) : Whole (w.drewN n) g t cs := h
theorem Whole.set_ (h : Whole w g t cs) (i : Nat) (u : Value) : Whole (w.setCell ⟨g, i, none⟩ u) g t (cs.set i u) := by
  have := heap_setCell_same w g i cs.toArray t u h
  unfold Whole
  rw [this]
  simp
theorem Whole.far (h : Whole w g t cs) {p : Addr} (hp : g ≠ p.block) (u : Value) : Whole (w.setCell p u) g t cs := (Below.heap_setCell w p u g hp).trans h
theorem Whole.new (w : World) (t : Nat) (cs : List Value) : Whole (w.alloc (.cells cs.toArray t)) w.heap.size t cs := heap_alloc_new w _
end

theorem add_plain (g o j : Nat) : (⟨g, o, none⟩ : Addr).add j = ⟨g, o + j, none⟩ := by unfold Addr.add; split <;> simp_all

/-- The slice value at A of length n reads as the cells xs. -/
def Src (w : World) (A : Option Addr) (xs : List Value) : Prop := 0 < xs.length → ∃ ad, A = some ad ∧ ad.block < w.heap.size ∧ ∀ j v, xs[j]? = some v → w.cell? (ad.add j) = some v
theorem Src.nil (w : World) (A : Option Addr) : Src w A [] := fun h => absurd h (by simp)
theorem Src.drew {w : World} {A : Option Addr} {xs : List Value} (h : Src w A xs) : Src w.drew A xs := h
theorem Src.drewN {w : World} {A : Option Addr} {xs : List Value} (h : Src w A xs) (n : Nat) : Src (w.drewN n) A xs := h
theorem Src.of_whole {w : World} {g t : Nat} {cs : List Value} (h : Whole w g t cs) (o n : Nat) : Src w (some ⟨g, o, none⟩) ((cs.drop o).take n) := fun _ =>
  ⟨_, rfl, h.lt, fun j v hj => by
    rw [add_plain, h.cell]
    rw [List.getElem?_take] at hj
    split at hj
    · rwa [List.getElem?_drop] at hj
    · cases hj⟩
theorem Src.of_all {w : World} {g t : Nat} {cs : List Value} (h : Whole w g t cs) : Src w (some ⟨g, 0, none⟩) cs := by
  have := Src.of_whole h 0 cs.length
  simpa using this
theorem Src.keep {w w' : World} {A : Option Addr} {xs : List Value} (h : Src w A xs) (hc : Chg [] w w') : Src w' A xs := fun hp => by
  obtain ⟨ad, e, hb, hx⟩ := h hp
  refine ⟨ad, e, Nat.lt_of_lt_of_le hb hc.size, fun j v hj => ?_⟩
  have := hx j v hj
  rw [← this]
  refine World.cell?_of_block (w := w) (hc.block _ ?_ (by simp))
  have e2 : (ad.add j).block = ad.block := by unfold Addr.add; split <;> rfl
  rw [e2]; exact hb

/-- A byte, a truth, as cells hold them. -/
def B8 (c : UInt8) : Value := .int .u8 (c.toNat : Int)
def bts (l : List UInt8) : List Value := l.map B8
def nms (l : List Int) : List Value := l.map (Value.int .i64)
theorem bts_len (l : List UInt8) : (bts l).length = l.length := by simp [bts]
theorem bts_get (l : List UInt8) (i : Nat) (h : i < l.length) : (bts l)[i]? = some (B8 l[i]) := by simp [bts, h]
theorem made_one (z : Value) (n : Nat) : madeCells #[z] n = (List.replicate n z).toArray := by
  apply Array.ext
  · simp [madeCells]
  · intro i h1 h2
    simp [madeCells, Nat.mod_one]
/-- 'make([]T, n)': one cell a place. -/
theorem run_make1 {P : Program} (t e : TypeId) (i : TypeInfo) (z : Value) (hz1 : z.cells = #[z]) (ht : P.underlying t = some (.slice e)) (hi : P.info? e = some i) (hz : i.zero = some z) (hs : i.size = 1)
    (n : Nat) (hb : i.bytes * n ≤ 281474976710656) (h63 : n ≤ 9223372036854775807) (w : World) :
    (Instr.makeSlice t (.int .i64 (n : Int)) (.int .i64 (n : Int))).run P w = .ok (.slice (some ⟨w.heap.size, 0, none⟩) n n) (w.alloc (.cells (List.replicate n z).toArray e)) := by
  have hb' : (i.bytes : Int) * (n : Int) ≤ 281474976710656 := by
    have h : ((i.bytes * n : Nat) : Int) ≤ 281474976710656 := by omega
    rwa [Int.natCast_mul] at h
  have h := run_make (P := P) w t e i z ht hi hz .i64 .i64 (n : Int) (n : Int) (by omega) (Int.le_refl _) hb' (by omega)
  rw [h, hs, hz1, made_one]
  simp

/-- 'string(b)'. -/
def strOf (l : List UInt8) : ByteArray := ⟨l.toArray⟩
theorem run_str {P : Program} (src e dst : TypeId) (hs : P.underlying src = some (.slice e)) (he : P.underlying e = some (.int .u8)) (hd : P.underlying dst = some .string)
    (A : Option Addr) (l : List UInt8) (cap : Nat) (w : World) (h : Src w A (bts l)) (hp : ∀ ad, A = some ad → ad.spot = none) :
    (convert src dst (.slice A l.length cap)).run P w = .ok (.string (strOf l)) w := by
  rcases Nat.eq_zero_or_pos l.length with h0 | h0
  · obtain rfl : l = [] := List.eq_nil_of_length_eq_zero h0
    rcases A with _ | ad
    · exact run_convert_bytes_nil (P := P) w src e hs he 0 cap dst hd
    · obtain ⟨b, o, s⟩ := ad
      obtain rfl : s = none := hp _ rfl
      exact Lib.run_convert_whole (P := P) w src e dst hs he hd b o (strOf []) (fun i hi => absurd hi (by simp [strOf, ByteArray.size])) cap
  · obtain ⟨ad, rfl, _, hx⟩ := h (by simpa [bts] using h0)
    obtain ⟨b, o, s⟩ := ad
    obtain rfl : s = none := hp _ rfl
    have := Lib.run_convert_whole (P := P) w src e dst hs he hd b o (strOf l) (fun i hi => by
      have hi' : i < l.length := by simpa [strOf, ByteArray.size] using hi
      have h1 := hx i _ (bts_get l i hi')
      rw [add_plain] at h1
      rw [h1]
      rfl) cap
    simpa [strOf, ByteArray.size] using this
end Go.Proofs.YtodbeeodhekpeaaDoor
namespace Go.Proofs.YtodbeeodhekpeaaDoor
open Go.RowKit

/-- A slice of integers that came in: nil, or a row of cells. -/
def IsRow (k : IntKind) (w : World) (a : Option Addr) (len cap : Nat) (zs : List Int) : Prop :=
  (a = none ∧ len = 0 ∧ cap = 0 ∧ zs = []) ∨
  ∃ x, a = some x ∧ len ≤ cap ∧ cap ≤ maxLen ∧ zs.length = cap ∧ (∀ i, i < zs.length → w.cell? (x.add i) = some (.int k (zs.getD i 0))) ∧ ∀ n ∈ zs, (Lit.int k n).wf = true

theorem row_src {k : IntKind} {w : World} {a : Option Addr} {len cap : Nat} {zs : List Int} (h : IsRow k w a len cap zs) : (zs.take len).length = len ∧ Src w a ((zs.take len).map (Value.int k)) ∧ ∀ n ∈ zs.take len, (Lit.int k n).wf = true := by
  rcases h with ⟨rfl, rfl, rfl, rfl⟩ | ⟨x, rfl, hlc, _, hz, hcell, hwf⟩
  · exact ⟨rfl, fun hp => absurd hp (by simp), by simp⟩
  · refine ⟨by rw [List.length_take]; omega, fun hp => ?_, fun n hn => hwf n (List.mem_of_mem_take hn)⟩
    have h0 : 0 < zs.length := by
      simp only [List.length_map, List.length_take] at hp
      omega
    have hb : (x.add 0).block = x.block := by unfold Addr.add; split <;> rfl
    refine ⟨x, rfl, by rw [← hb]; exact block_lt_of_cell (hcell 0 h0), fun j v hj => ?_⟩
    simp only [List.getElem?_map, List.getElem?_take] at hj
    split at hj
    · have hjl : j < zs.length := by omega
      rw [List.getElem?_eq_getElem hjl] at hj
      simp only [Option.map_some, Option.some.injEq] at hj
      rw [hcell j hjl, ← hj]
      simp [List.getD, hjl]
    · simp at hj

theorem row_spot {k : IntKind} {w : World} {a : Option Addr} {len cap : Nat} {zs : List Int} (h : IsRow k w a len cap zs) (h0 : 0 < len) : ∀ ad, a = some ad → ad.spot = none ∧ ad.block < w.heap.size := by
  rcases h with ⟨_, rfl, _, _⟩ | ⟨x, rfl, hlc, _, hz, hcell, _⟩
  · exact absurd h0 (by omega)
  · intro ad e
    injection e with e
    subst e
    have hc := hcell 0 (by omega)
    have hb : (x.add 0).block = x.block := by unfold Addr.add; split <;> rfl
    refine ⟨?_, by rw [← hb]; exact block_lt_of_cell hc⟩
    have h1 : x.add 0 = x := by simp [Addr.add]
    rw [h1] at hc
    cases hs : x.spot with
    | none => rfl
    | some v =>
      exfalso
      unfold World.cell? at hc
      rw [hs] at hc
      split at hc
      · simp at hc
      · cases hc

/-- Numbers. -/
theorem row_nums {w : World} {a : Option Addr} {len cap : Nat} {zs : List Int} (h : IsRow .i64 w a len cap zs) :
    ∃ l : List Int, l.length = len ∧ Src w a (nms l) ∧ ∀ n ∈ l, -9223372036854775808 ≤ n ∧ n ≤ 9223372036854775807 := by
  obtain ⟨h1, h2, h3⟩ := row_src h
  refine ⟨zs.take len, h1, h2, fun n hn => ?_⟩
  simpa [Lit.wf, IntKind.min, IntKind.max, IntKind.signed, IntKind.bits] using h3 n hn

end Go.Proofs.YtodbeeodhekpeaaDoor
namespace Go.Proofs.YtodbeeodhekpeaaDoor
open Go.RowKit

section
variable {w w' : World} {B n : Nat} {e : TypeId} {v : Value} {xs : List Value}
theorem own_keep (h : w.ownsRow B e 1 v n xs) (hc : Chg [] w w') : w'.ownsRow B e 1 v n xs := by
  refine ⟨h.1, h.2.imp id ?_⟩
  rintro ⟨g, cap, cur, rfl, hb, hg, r⟩
  refine ⟨g, cap, cur, rfl, hb, ?_, r⟩
  rw [hc.block g ?_ (by simp)]
  · exact hg
  · rcases Nat.lt_or_ge g w.heap.size with hlt | hge
    · exact hlt
    · rw [Array.getElem?_eq_none hge] at hg; cases hg
theorem own_more {B' : Nat} (h : w.ownsRow B e 1 v n xs) (hB : B' ≤ B) : w.ownsRow B' e 1 v n xs := by
  refine ⟨h.1, h.2.imp id ?_⟩
  rintro ⟨g, cap, cur, rfl, hb, r⟩
  exact ⟨g, cap, cur, rfl, Nat.le_trans hB hb, r⟩
/-- As a slice value. -/
theorem own_slice (h : w.ownsRow B e 1 v n xs) : ∃ A c, v = .slice A n c ∧ xs.length = n ∧ n ≤ c ∧ Src w A xs ∧ (∀ ad, A = some ad → ad.spot = none ∧ B ≤ ad.block ∧ ad.off = 0 ∧ ad.block < w.heap.size) := by
  have hl : xs.length = n := by simpa using h.1
  rcases h.2 with ⟨rfl, rfl⟩ | ⟨g, cap, cur, rfl, hb, hg, hn, hc, hs, ht⟩
  · exact ⟨none, 0, rfl, hl, Nat.le_refl _, fun hp => absurd hp (by omega), fun ad h => by cases h⟩
  · have hgl : g < w.heap.size := by
      rcases Nat.lt_or_ge g w.heap.size with hlt | hge
      · exact hlt
      · rw [Array.getElem?_eq_none hge] at hg; cases hg
    refine ⟨some ⟨g, 0, none⟩, cap, rfl, hl, hn, fun _ => ⟨_, rfl, hgl, fun j u hj => ?_⟩, fun ad h => by injection h with h; subst h; exact ⟨rfl, hb, rfl, hgl⟩⟩
    rw [add_plain, Nat.zero_add, cell_of_row w g j cur e (0, 0) hg]
    have hjl : j < n := by rw [← hl]; exact (List.getElem?_eq_some_iff.1 hj).1
    rw [← ht, List.getElem?_take_of_lt (by omega)] at hj
    simpa using hj
/-- A block that is known whole, as an own row of its first n cells. -/
theorem own_of_whole {g c : Nat} {cs : List Value} (h : Whole w g e cs) (hB : B ≤ g) (hc : cs.length = c) (hn : n ≤ c) (hm : c ≤ maxLen) : w.ownsRow B e 1 (.slice (some ⟨g, 0, none⟩) n c) n (cs.take n) := by
  refine ⟨by rw [List.length_take]; omega, .inr ⟨g, c, cs.toArray, rfl, hB, h, hn, hm, by simpa using hc, by simp⟩⟩
/-- What was appended to is the caller's own: nothing that was there has turned. -/
theorem Chg.own {T : List Nat} {a : World} (h : Chg T a w) (ho : w.ownsRow B e 1 v n xs) (hB : a.heap.size ≤ B) (hg : w.grownBy w' v.ownBlock) : Chg T a w' := by
  refine h.then_ (T' := match v.ownBlock with | some g => [g] | none => []) ?_ ?_
  · refine Chg.of_grown hg fun g hr _ => ?_
    rw [hr]; simp
  · intro i hi hlt
    exfalso
    rcases ho.2 with ⟨rfl, _⟩ | ⟨g, cap, cur, rfl, hb, _⟩
    · simp [Value.ownBlock] at hi
    · simp [Value.ownBlock] at hi; omega
end

section
variable {P : Program} (w : World)
theorem run_append_src (base : Nat) (t ty e : TypeId) (i : TypeInfo) (z : Value) (bytes : Nat) (ht : P.underlying t = some (.slice e)) (hi : P.info? e = some i) (hz : i.zero = some z)
    (hsize : i.size = 1) (hby : i.bytes = bytes) (hzs : z.cells.size = 1)
    (v : Value) (n : Nat) (xs : List Value) (hown : w.ownsRow base e 1 v n xs)
    (A : Option Addr) (m c : Nat) (news : List Value) (hl : news.length = m) (hs : Src w A news) (h1 : ∀ u ∈ news, u.oneCell' = true)
    (h63 : n + m ≤ maxLen) (hbytes : (n + m) * bytes ≤ 140737488355328) (hbase : base ≤ w.heap.size) :
    ∃ v' w', (Builtin.append_ #[t, t] ty #[v, .slice A m c]).run P w = .ok v' w' ∧ w'.ownsRow base e 1 v' (n + m) (xs ++ news) ∧ w.grownBy w' v.ownBlock ∧
      (v'.ownBlock = v.ownBlock ∨ v'.ownBlock = some w.heap.size) := by
  have hnil : m = 0 → news = [] := fun h => List.eq_nil_of_length_eq_zero (by omega)
  rcases A with _ | ad
  · have hm : m = 0 := by
      rcases Nat.eq_zero_or_pos m with h0 | h0
      · exact h0
      · obtain ⟨ad, h, _⟩ := hs (by omega)
        cases h
    subst hm
    obtain rfl := hnil rfl
    refine ⟨v, w, ?_, by simpa using hown, World.grownBy.refl w _, .inl rfl⟩
    rcases hown.2 with ⟨rfl, rfl⟩ | ⟨g, cap, cur, rfl, _, _, hnc, _⟩
    · simp [Builtin.append_, run_underlying ht, sizeOf, typeInfo, hi, Builtin.lenOf, Builtin.firstCells]
    · simp [Builtin.append_, run_underlying ht, sizeOf, typeInfo, hi, Builtin.lenOf, Builtin.firstCells, hnc, storeCells]
  · have hcells : ∀ j u, news[j]? = some u → w.cell? (ad.add j) = some u := by
      intro j u hu
      obtain ⟨ad', h, _, hc⟩ := hs (by have := (List.getElem?_eq_some_iff.1 hu).1; omega)
      injection h with h
      subst h
      exact hc j u hu
    obtain ⟨v', w', hrun, h2, h3, _, h5⟩ := run_append_own_at (P := P) w base t ty e i z 1 bytes ht hi hz hsize hby hzs (by omega) v n xs hown ad m c news (by omega) hcells h1 h63 hbytes hbase
    exact ⟨v', w', hrun, h2, h3, h5⟩

end

/-- 'make([]T, 0, n)'. -/
theorem run_make0 {P : Program} (t e : TypeId) (i : TypeInfo) (z : Value) (hz1 : z.cells = #[z]) (ht : P.underlying t = some (.slice e)) (hi : P.info? e = some i) (hz : i.zero = some z) (hs : i.size = 1)
    (n : Nat) (hb : i.bytes * n ≤ 281474976710656) (h63 : n ≤ 9223372036854775807) (w : World) :
    (Instr.makeSlice t (.int .i64 0) (.int .i64 (n : Int))).run P w = .ok (.slice (some ⟨w.heap.size, 0, none⟩) 0 n) (w.alloc (.cells (List.replicate n z).toArray e)) := by
  have hb' : (i.bytes : Int) * (n : Int) ≤ 281474976710656 := by
    have h : ((i.bytes * n : Nat) : Int) ≤ 281474976710656 := by omega
    rwa [Int.natCast_mul] at h
  have h := run_make (P := P) w t e i z ht hi hz .i64 .i64 0 (n : Int) (by omega) (by omega) hb' (by omega)
  rw [h, hs, hz1, made_one]
  simp
end Go.Proofs.YtodbeeodhekpeaaDoor
namespace Go.Proofs.YtodbeeodhekpeaaDoor
open Go.RowKit

/-- The slice value '.slice A n c' is the bytes l. -/
structure Bs (w : World) (A : Option Addr) (n c : Nat) (l : List UInt8) : Prop where
  len : l.length = n
  src : Src w A (bts l)
  cap : n ≤ c
  max : c ≤ 9223372036854775807
  spot : 0 < n → ∀ ad, A = some ad → ad.spot = none

section
variable {w w' : World} {A : Option Addr} {n c : Nat} {l : List UInt8}
theorem Bs.keep (h : Bs w A n c l) (hc : Chg [] w w') : Bs w' A n c l := ⟨h.len, h.src.keep hc, h.cap, h.max, h.spot⟩
theorem Bs.drew (h : Bs w A n c l) : Bs w.drew A n c l := ⟨h.len, h.src, h.cap, h.max, h.spot⟩
theorem Bs.le (h : Bs w A n c l) : n ≤ 9223372036854775807 := Nat.le_trans h.cap h.max
theorem Bs.nil (w : World) : Bs w none 0 0 [] := ⟨rfl, Src.nil _ _, Nat.le_refl _, by omega, fun h => absurd h (by omega)⟩
theorem Bs.of_whole {g t cap : Nat} {cs : List Value} (h : Whole w g t cs) (hn : l.length = n) (hc : cs.take n = bts l) (hcap : n ≤ cap) (hm : cap ≤ 9223372036854775807) : Bs w (some ⟨g, 0, none⟩) n cap l := by
  refine ⟨hn, ?_, hcap, hm, fun _ ad e => by injection e with e; subst e; rfl⟩
  have := Src.of_whole h 0 n
  rwa [List.drop_zero, hc] at this
theorem Bs.of_all {g t : Nat} (h : Whole w g t (bts l)) (hm : l.length ≤ 9223372036854775807) : Bs w (some ⟨g, 0, none⟩) l.length l.length l :=
  Bs.of_whole h rfl (by rw [List.take_of_length_le (by rw [bts_len]; exact Nat.le_refl _)]) (Nat.le_refl _) hm
/-- An own row of bytes. -/
theorem Bs.of_own {B : Nat} {e : TypeId} {v : Value} (h : w.ownsRow B e 1 v n (bts l)) : ∃ A c, v = .slice A n c ∧ Bs w A n c l ∧ (∀ ad, A = some ad → ad.spot = none ∧ B ≤ ad.block ∧ ad.off = 0 ∧ ad.block < w.heap.size) := by
  obtain ⟨A, c, rfl, hl, hn, hs, hA⟩ := own_slice h
  have hm : c ≤ 9223372036854775807 := by
    rcases h.2 with ⟨h, _⟩ | ⟨g, cap, cur, h, _, _, _, hc, _⟩
    · injection h with _ _ h; omega
    · injection h with _ _ h; subst h; simpa [maxLen] using hc
  exact ⟨A, c, rfl, ⟨by rw [bts_len] at hl; exact hl, hs, hn, hm, fun _ ad e => (hA ad e).1⟩, hA⟩
theorem run_str0 {P : Program} (src e dst : TypeId) (hs : P.underlying src = some (.slice e)) (he : P.underlying e = some (.int .u8)) (hd : P.underlying dst = some .string) (A : Option Addr) (cap : Nat) (w : World) :
    (convert src dst (.slice A 0 cap)).run P w = .ok (.string (strOf [])) w := by
  rcases A with _ | ad
  · exact run_convert_bytes_nil (P := P) w src e hs he 0 cap dst hd
  · rw [run_convert_bytes_string w src dst e _ 0 cap hs he hd]
    simp [Conv.bytesToString, strOf, go_sem]
    rfl
theorem Bs.str {P : Program} (h : Bs w A n c l) (src e dst : TypeId) (hs : P.underlying src = some (.slice e)) (he : P.underlying e = some (.int .u8)) (hd : P.underlying dst = some .string) :
    (convert src dst (.slice A n c)).run P w = .ok (.string (strOf l)) w := by
  rcases Nat.eq_zero_or_pos n with h0 | h0
  · subst h0
    obtain rfl : l = [] := List.eq_nil_of_length_eq_zero h.len
    exact run_str0 src e dst hs he hd A c w
  · have hl := h.len
    subst hl
    exact run_str src e dst hs he hd A l c w h.src (h.spot h0)
end
end Go.Proofs.YtodbeeodhekpeaaDoor
namespace Go.Proofs.YtodbeeodhekpeaaDoor
open Go.RowKit
/-- Every operation makes new blocks at most. -/
def plainT : Turns := ⟨Chg [], Chg [], [], []⟩
theorem plainT_ok : plainT.Ok := ⟨Chg.refl [], fun _ _ h => h, fun _ _ _ h k => h.trans k⟩
theorem plain_by (k : Nat) : plainT.by_ k = Chg [] := by unfold Turns.by_; split <;> rfl

/-- A value that is a row of the call's own. -/
def ownF (B : Nat) (e : TypeId) (xs : List Value) : Fact := fun v W => W.ownsRow B e 1 v xs.length xs
theorem keeps_own (B : Nat) (e : TypeId) (xs : List Value) : Keeps (Chg []) (ownF B e xs) := fun _ _ _ h hc => own_keep h hc

end Go.Proofs.YtodbeeodhekpeaaDoor
namespace Go.Proofs.YtodbeeodhekpeaaDoor
open Go.RowKit
theorem arg_i64 {a : Int} (h : (Lit.int .i64 a).wf = true) : -9223372036854775808 ≤ a ∧ a ≤ 9223372036854775807 := by
  simpa [Lit.wf, IntKind.min, IntKind.max, IntKind.signed, IntKind.bits] using h
end Go.Proofs.YtodbeeodhekpeaaDoor
namespace Go.Proofs.YtodbeeodhekpeaaDoor
open Go.RowKit

/-- What lies below B stays. -/
structure Low (B : Nat) (w w' : World) : Prop where
  os : w'.os = w.os
  tape : w'.tape = w.tape
  output : w'.output = w.output
  size : w.heap.size ≤ w'.heap.size
  block : ∀ k, k < B → k < w.heap.size → w'.heap[k]? = w.heap[k]?
theorem Low.of_chg {B : Nat} {w w' : World} (h : Chg [] w w') : Low B w w' := ⟨h.os, h.tape, h.output, h.size, fun k _ hk => h.block k hk (by simp)⟩
theorem Low.trans {B : Nat} {a b c : World} (h : Low B a b) (k : Low B b c) : Low B a c :=
  ⟨k.os.trans h.os, k.tape.trans h.tape, k.output.trans h.output, Nat.le_trans h.size k.size, fun i hB hi => (k.block i hB (Nat.lt_of_lt_of_le hi h.size)).trans (h.block i hB hi)⟩
theorem Low.chg {B : Nat} {a b : World} (h : Low B a b) (hB : a.heap.size ≤ B) : Chg [] a b := ⟨h.os, h.tape, h.output, h.size, fun k hk _ => h.block k (Nat.lt_of_lt_of_le hk hB) hk⟩
theorem Low.of_own {B n : Nat} {e : TypeId} {v : Value} {xs : List Value} {w w' : World} (ho : w.ownsRow B e 1 v n xs) (hg : w.grownBy w' v.ownBlock) : Low B w w' := by
  refine ⟨hg.os, hg.tape, hg.output, hg.size, fun k hk hl => hg.block k hl fun hc => ?_⟩
  rcases ho.2 with ⟨rfl, _⟩ | ⟨g, cap, cur, rfl, hb, _⟩
  · cases hc
  · injection hc with hc; simp only at hc; omega


section
variable {P : Program} {T : Turns} {w0 : World} {a0 : Act} {ops : List Oper} {Q : Exit → Act → World → Prop} {F : Said} {k : Nat} {rest : List Oper}
  {d : Option Tmp} {ty : TypeId} {pos : String} {af : Array Go.Edge} {g : Option (Nat × Bool)} {B : Nat} {hard soft : List Nat}

end
end Go.Proofs.YtodbeeodhekpeaaDoor
namespace Go.Proofs.YtodbeeodhekpeaaDoor
open Go.RowKit
/-- r is a number of lo .. hi, and n itself where n is one. -/
def Into (n lo hi r : Int) : Prop := lo ≤ r ∧ r ≤ hi ∧ (lo ≤ n → n ≤ hi → r = n)
/-- What Within has done. -/
def WithinPost (n lo hi : Int) (w : World) (e : Ending) (w' : World) : Prop := ∃ r : Int, Into n lo hi r ∧ e = .returned (.int .i64 r) ∧ w = w'
/-- The number itself, or brought into lo .. hi. -/
def withinI (n lo hi : Int) : Int := if lo ≤ n ∧ n ≤ hi then n else if n.tmod (hi - lo + 1) < 0 then lo + (n.tmod (hi - lo + 1) + hi - lo + 1) else lo + n.tmod (hi - lo + 1)
theorem into_within (n lo hi : Int) (h1 : lo ≤ hi) : Into n lo hi (withinI n lo hi) := by
  have b1 := Int.tmod_lt_of_pos n (show 0 < hi - lo + 1 by omega)
  have b2 := Int.lt_tmod_of_pos n (show 0 < hi - lo + 1 by omega)
  unfold withinI
  split
  · rename_i h; exact ⟨h.1, h.2, fun _ _ => rfl⟩
  · rename_i h
    split
    · exact ⟨by omega, by omega, fun ha hb => absurd ⟨ha, hb⟩ h⟩
    · exact ⟨by omega, by omega, fun ha hb => absurd ⟨ha, hb⟩ h⟩
theorem ret_within {a b : Int} (h : a = b) : Ending.returned (.int .i64 a) = .returned (.int .i64 b) := by rw [h]
section
variable {w : World}
set_option maxHeartbeats 1000000 in
set_option maxRecDepth 100000 in
theorem within_is (n lo hi : Int) (h0 : -1000000 ≤ lo) (h1 : lo ≤ hi) (h2 : hi ≤ 1000000) (hn0 : -9223372036854775808 ≤ n) (hn1 : n ≤ 9223372036854775807) :
    Calls Tryd.prog 10 #[.int .i64 n, .int .i64 lo, .int .i64 hi] w fun e w' => e = .returned (.int .i64 (withinI n lo hi)) ∧ w = w' := by
  have b1 := Int.tmod_lt_of_pos n (show 0 < hi - lo + 1 by omega)
  have b2 := Int.lt_tmod_of_pos n (show 0 < hi - lo + 1 by omega)
  have hne : ((hi - lo + 1) == 0) = false := by simp; omega
  by_cases ha : lo ≤ n
  · by_cases hb : n ≤ hi
    · have HI := Lib.hid (show withinI n lo hi = n by unfold withinI; rw [if_pos ⟨ha, hb⟩])
      go_enter Tryd.func10, Tryd.ntmps10
      go_wp2_with fail
      go_ret
      exact ⟨ret_within HI.out.symm, rfl⟩
    · by_cases hm : n.tmod (hi - lo + 1) < 0
      · have HI := Lib.hid (show withinI n lo hi = lo + (n.tmod (hi - lo + 1) + hi - lo + 1) by unfold withinI; rw [if_neg (fun h => hb h.2), if_pos hm])
        go_enter Tryd.func10, Tryd.ntmps10
        go_wp2_with fail
        go_ret
        exact ⟨ret_within HI.out.symm, rfl⟩
      · have HI := Lib.hid (show withinI n lo hi = lo + n.tmod (hi - lo + 1) by unfold withinI; rw [if_neg (fun h => hb h.2), if_neg hm])
        go_enter Tryd.func10, Tryd.ntmps10
        go_wp2_with fail
        go_ret
        exact ⟨ret_within HI.out.symm, rfl⟩
  · have hd : decide (lo ≤ n) = false := by simp; omega
    by_cases hm : n.tmod (hi - lo + 1) < 0
    · have HI := Lib.hid (show withinI n lo hi = lo + (n.tmod (hi - lo + 1) + hi - lo + 1) by unfold withinI; rw [if_neg (fun h => ha h.1), if_pos hm])
      go_enter Tryd.func10, Tryd.ntmps10
      go_wp2_with fail
      go_ret
      exact ⟨ret_within HI.out.symm, rfl⟩
    · have HI := Lib.hid (show withinI n lo hi = lo + n.tmod (hi - lo + 1) by unfold withinI; rw [if_neg (fun h => ha h.1), if_neg hm])
      go_enter Tryd.func10, Tryd.ntmps10
      go_wp2_with fail
      go_ret
      exact ⟨ret_within HI.out.symm, rfl⟩
/-- A number of lo .. hi. -/
theorem within_any (n lo hi : Int) (h0 : -1000000 ≤ lo) (h1 : lo ≤ hi) (h2 : hi ≤ 1000000) (hn0 : -9223372036854775808 ≤ n) (hn1 : n ≤ 9223372036854775807) :
    Calls Tryd.prog 10 #[.int .i64 n, .int .i64 lo, .int .i64 hi] w (WithinPost n lo hi w) :=
  (within_is n lo hi h0 h1 h2 hn0 hn1).mono fun _ _ ⟨h1', h2'⟩ => ⟨_, into_within n lo hi h1, h1', h2'⟩
end
end Go.Proofs.YtodbeeodhekpeaaDoor
