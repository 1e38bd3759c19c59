/-
  NestNumbers, part 2: MadeCh, NestMem, NestIn, NestHalf, NestEnd, NestLoop, NestLeave, NestTake, Tok, NestMatch, NestOf, NestRef, NestRefA, Dsk, Sect, Waits, Same, Into, Tape, Runes, TokSigns.
-/
import Derived.Test.YtlhkmbcjgdjegaaZNestNumbers1
import Derived.Deep.DeepCutAuto
import Derived.RegionTactic
import Derived.ChangeAlike
import Derived.BigRegion
import Derived.Deep.RegionLaw
import Derived.Deep.QuietTactic
import Derived.BigQuiet
import Derived.Deep.RegionWith
import Derived.Test.YtlhkmbcjgdjegaaChecked
import Derived.Laws.RangeAny
import Derived.Lib.OthersKept
namespace Go.Proofs.Ytlhkmbcjgdjegaa
open Go.RowKit
/-- The cells of changes. -/
def chCs : List ChV → List Value
  | [] => []
  | a :: l => chC a ++ chCs l
theorem chCs_len : ∀ l, (chCs l).length = l.length * 2
  | [] => rfl
  | a :: l => by rw [chCs, List.length_append, chCs_len l]; simp [chC]; omega
theorem chCs_app : ∀ l m, chCs (l ++ m) = chCs l ++ chCs m
  | [], _ => rfl
  | a :: l, m => by rw [List.cons_append, chCs, chCs, chCs_app l m, List.append_assoc]
theorem chCs_one (a : ChV) : chCs [a] = chC a := by simp [chCs]
theorem chCs_get : ∀ (l : List ChV) (k : Nat) (a : ChV) (j : Nat), l[k]? = some a → j < 2 → (chCs l)[k * 2 + j]? = (chC a)[j]?
  | [], k, a, j, h, hj => by simp at h
  | b :: l, 0, a, j, h, hj => by
    simp at h; subst h
    rw [chCs, List.getElem?_append_left (by simp [chC]; omega)]
    congr 1; omega
  | b :: l, k + 1, a, j, h, hj => by
    simp at h
    rw [chCs, List.getElem?_append_right (by simp [chC]; omega)]
    rw [← chCs_get l k a j h hj]
    congr 1; simp [chC]; omega
/-- A change whose bytes lie in a block of their own, from B0 on. -/
structure MadeCh (w : World) (B0 : Nat) (a : ChV) : Prop where
  b : ∃ g, a.bA = some ⟨g, 0, none⟩ ∧ B0 ≤ g ∧ Whole w g 5 (bts a.B)
  bl : a.B.length = 64
  bn : a.bn = 64
  bc : a.bc = 64
  p : 0 ≤ a.page ∧ a.page < 65536
theorem MadeCh.ok {w : World} {B0 : Nat} {a : ChV} (h : MadeCh w B0 a) : ChOk w a := by
  obtain ⟨g, hg, _, hW⟩ := h.b
  refine ⟨by have := h.p; omega, by have := h.p; omega, ?_⟩
  rw [hg, h.bn, h.bc]
  have := Bs.of_all hW (by rw [h.bl]; omega)
  rwa [h.bl] at this
theorem MadeCh.small {w : World} {B0 : Nat} {a : ChV} (h : MadeCh w B0 a) : Small a := ⟨h.p.1, h.p.2, h.bn⟩
theorem MadeCh.chg {w w' : World} {B0 : Nat} {a : ChV} {T : List Nat} (h : MadeCh w B0 a) (hc : Chg T w w') (hT : ∀ i ∈ T, i < B0 ∨ w.heap.size ≤ i) : MadeCh w' B0 a := by
  obtain ⟨g, hg, hB, hW⟩ := h.b
  exact { h with b := ⟨g, hg, hB, hW.chg hc fun hm => by have := hT g hm; have := hW.lt; omega⟩ }
theorem MadeCh.grown {w w' : World} {B0 B2 m : Nat} {v2 : Value} {ys : List Value} {a : ChV} (h : MadeCh w B0 a) (h2 : w.ownsRow B2 53 2 v2 m ys) (hg : w.grownBy w' v2.ownBlock) : MadeCh w' B0 a := by
  obtain ⟨g, hg1, hB, hW⟩ := h.b
  exact { h with b := ⟨g, hg1, hB, whole_grown hW h2 (by decide) hg⟩ }
theorem rown_chg {w w' : World} {B n k : Nat} {e : TypeId} {v : Value} {xs : List Value} {T : List Nat} (h : w.ownsRow B e k v n xs) (hc : Chg T w w') (hT : ∀ i ∈ T, i < B ∨ w.heap.size ≤ i) : w'.ownsRow B e k v n xs := by
  refine ⟨h.1, h.2.imp id ?_⟩
  rintro ⟨g, cap, cur, rfl, hb, hg, r⟩
  refine ⟨g, cap, cur, rfl, hb, ?_, r⟩
  have hgl : g < w.heap.size := by
    rcases Nat.lt_or_ge g w.heap.size with hlt | hge
    · exact hlt
    · rw [Array.getElem?_eq_none hge] at hg; cases hg
  rw [hc.block g hgl (fun hm => by have := hT g hm; omega)]
  exact hg
/-- An own row of changes, as a list of changes is taken. -/
theorem chs_own {w : World} {B B0 n : Nat} {e : TypeId} {v : Value} {l : List ChV} (h : w.ownsRow B e 2 v n (chCs l)) (hok : ∀ a ∈ l, MadeCh w B0 a) :
    ∃ A c, v = .slice A n c ∧ l.length = n ∧ Chs w A l ∧ n ≤ 9223372036854775807 ∧ n ≤ c ∧ (∀ ad, A = some ad → ad.spot = none) := by
  have hl : l.length = n := by have := h.1; rw [chCs_len] at this; omega
  rcases h.2 with ⟨rfl, rfl⟩ | ⟨g, cap, cur, rfl, hb, hg, hn, hc, hs, ht⟩
  · exact ⟨none, 0, rfl, hl, ⟨fun h => absurd h (by omega), fun a ha => (hok a ha).ok⟩, by omega, Nat.le_refl _, fun ad e => by cases e⟩
  · have hgl : g < w.heap.size := by
      rcases Nat.lt_or_ge g w.heap.size with hlt | hge
      · exact hlt
      · rw [Array.getElem?_eq_none hge] at hg; cases hg
    refine ⟨_, cap, rfl, hl, ⟨fun _ => ⟨g, 0, rfl, hgl, fun k a ha => ?_⟩, fun a ha => (hok a ha).ok⟩, by unfold maxLen at hc; omega, hn, fun ad e => by injection e with e; subst e; rfl⟩
    have hx : ∀ j u, (chCs l)[j]? = some u → w.cell? ((⟨g, 0, none⟩ : Addr).add j) = some u := h.cells rfl
    have q : ∀ j, j < 2 → ∀ u, (chC a)[j]? = some u → w.cell? ⟨g, k * 2 + j, none⟩ = some u := fun j hj u hu => by
      have := hx (k * 2 + j) u ((chCs_get l k a j ha hj).trans hu)
      rwa [add_plain, Nat.zero_add] at this
    simp only [Nat.zero_add]
    exact ⟨q 0 (by omega) _ rfl, q 1 (by omega) _ rfl⟩
theorem info_change : (Try.prog.info? 53).map (fun i => (i.zero, i.size, i.bytes)) = some (some (.agg #[.int .i64 0, .slice none 0 0]), 2, 32) := by kernel_rfl
theorem cells_page (w : World) (xs : List Value) (t : Nat) : ∀ (j : Nat) (u : Value), xs[j]? = some u → (w.alloc (.cells xs.toArray t)).cell? ((⟨w.heap.size, 0, none⟩ : Addr).add j) = some u := fun j u hj => by
  rw [add_plain, Nat.zero_add, (Whole.new w t xs).cell]; exact hj
/-- A change whose bytes begin a block of their own, from B0 on. -/
structure RMade (w : World) (B0 : Nat) (a : ChV) : Prop where
  b : ∃ g r, a.bA = some ⟨g, 0, none⟩ ∧ B0 ≤ g ∧ Whole w g 5 (bts a.B ++ r) ∧ a.bc = 64 + r.length ∧ 64 + r.length ≤ 9223372036854775807
  bl : a.B.length = 64
  bn : a.bn = 64
  p : 0 ≤ a.page ∧ a.page < 65536
theorem RMade.ok {w : World} {B0 : Nat} {a : ChV} (h : RMade w B0 a) : ChOk w a := by
  obtain ⟨g, r, hg, _, hW, hc, hm⟩ := h.b
  refine ⟨by have := h.p; omega, by have := h.p; omega, ?_⟩
  rw [hg, h.bn, hc]
  exact Bs.of_whole hW h.bl (by rw [List.take_left' (by rw [bts_len, h.bl])]) (by omega) hm
theorem RMade.chg {w w' : World} {B0 : Nat} {a : ChV} {T : List Nat} (h : RMade w B0 a) (hc : Chg T w w') (hT : ∀ i ∈ T, i < B0 ∨ w.heap.size ≤ i) : RMade w' B0 a := by
  obtain ⟨g, r, hg, hB, hW, hr⟩ := h.b
  exact { h with b := ⟨g, r, hg, hB, hW.chg hc (fun hm => by have := hT g hm; have := hW.lt; omega), hr⟩ }
theorem RMade.grown {w w' : World} {B0 B2 m : Nat} {v2 : Value} {ys : List Value} {a : ChV} (h : RMade w B0 a) (h2 : w.ownsRow B2 53 2 v2 m ys) (hg : w.grownBy w' v2.ownBlock) : RMade w' B0 a := by
  obtain ⟨g, r, hg1, hB, hW, hr⟩ := h.b
  exact { h with b := ⟨g, r, hg1, hB, whole_grown hW h2 (by decide) hg, hr⟩ }
theorem chs_own' {w : World} {B n : Nat} {e : TypeId} {v : Value} {l : List ChV} (h : w.ownsRow B e 2 v n (chCs l)) (hok : ∀ a ∈ l, ChOk w a) :
    ∃ A c, v = .slice A n c ∧ l.length = n ∧ Chs w A l ∧ n ≤ 9223372036854775807 ∧ n ≤ c ∧ (∀ ad, A = some ad → ad.spot = none) := by
  have hl : l.length = n := by have := h.1; rw [chCs_len] at this; omega
  rcases h.2 with ⟨rfl, rfl⟩ | ⟨g, cap, cur, rfl, hb, hg, hn, hc, hs, ht⟩
  · exact ⟨none, 0, rfl, hl, ⟨fun h => absurd h (by omega), hok⟩, by omega, Nat.le_refl _, fun ad e => by cases e⟩
  · have hgl : g < w.heap.size := by
      rcases Nat.lt_or_ge g w.heap.size with hlt | hge
      · exact hlt
      · rw [Array.getElem?_eq_none hge] at hg; cases hg
    refine ⟨_, cap, rfl, hl, ⟨fun _ => ⟨g, 0, rfl, hgl, fun k a ha => ?_⟩, hok⟩, by unfold maxLen at hc; omega, hn, fun ad e => by injection e with e; subst e; rfl⟩
    have hx : ∀ j u, (chCs l)[j]? = some u → w.cell? ((⟨g, 0, none⟩ : Addr).add j) = some u := h.cells rfl
    have q : ∀ j, j < 2 → ∀ u, (chC a)[j]? = some u → w.cell? ⟨g, k * 2 + j, none⟩ = some u := fun j hj u hu => by
      have := hx (k * 2 + j) u ((chCs_get l k a j ha hj).trans hu)
      rwa [add_plain, Nat.zero_add] at this
    simp only [Nat.zero_add]
    exact ⟨q 0 (by omega) _ rfl, q 1 (by omega) _ rfl⟩
theorem MadeCh.rmade {w : World} {B0 : Nat} {a : ChV} (h : MadeCh w B0 a) : RMade w B0 a := by
  obtain ⟨g, hg, hB, hW⟩ := h.b
  exact ⟨⟨g, [], hg, hB, by rw [List.append_nil]; exact hW, by rw [h.bc]; rfl, by simp⟩, h.bl, h.bn, h.p⟩
end Go.Proofs.Ytlhkmbcjgdjegaa
namespace Go.Proofs.Ytlhkmbcjgdjegaa
open Go.RowKit
/-- What lies below B stays, but for the blocks of T. -/
structure Lo (B : Nat) (T : List Nat) (a b : World) : Prop where
  os : b.os = a.os
  tape : b.tape = a.tape
  output : b.output = a.output
  size : a.heap.size ≤ b.heap.size
  block : ∀ k, k < B → k < a.heap.size → k ∉ T → b.heap[k]? = a.heap[k]?
theorem Lo.of_chg {B : Nat} {T T' : List Nat} {a b : World} (h : Chg T' a b) (hT : ∀ i ∈ T', B ≤ i ∨ i ∈ T) : Lo B T a b :=
  ⟨h.os, h.tape, h.output, h.size, fun k hB hk hn => h.block k hk fun hm => by rcases hT k hm with h | h; omega; exact hn h⟩
theorem Lo.refl (B : Nat) (T : List Nat) (a : World) : Lo B T a a := Lo.of_chg (Chg.refl [] a) fun i hi => by cases hi
theorem Lo.trans {B : Nat} {T : List Nat} {a b c : World} (h : Lo B T a b) (k : Lo B T b c) : Lo B T a c :=
  ⟨k.os.trans h.os, k.tape.trans h.tape, k.output.trans h.output, Nat.le_trans h.size k.size, fun i hB hi hn => (k.block i hB (Nat.lt_of_lt_of_le hi h.size) hn).trans (h.block i hB hi hn)⟩
theorem Lo.chg {B : Nat} {T : List Nat} {w a b : World} (h0 : Chg [] w a) (h : Lo B T a b) (hB : w.heap.size ≤ B) (hT : ∀ i ∈ T, w.heap.size ≤ i) : Chg [] w b :=
  ⟨h.os.trans h0.os, h.tape.trans h0.tape, h.output.trans h0.output, Nat.le_trans h0.size h.size, fun k hk _ => (h.block k (by omega) (Nat.lt_of_lt_of_le hk h0.size) fun hm => by have := hT k hm; omega).trans (h0.block k hk (by simp))⟩
theorem Lo.of_grown {B B2 e k n : Nat} {T : List Nat} {v : Value} {xs : List Value} {a b : World} (ho : a.ownsRow B2 e k v n xs) (hB : B ≤ B2) (hg : a.grownBy b v.ownBlock) : Lo B T a b :=
  ⟨hg.os, hg.tape, hg.output, hg.size, fun i hi hk _ => hg.block i hk fun hc => by have := (ho.lt i hc.symm).1; omega⟩
/-- Numbers, as cells. -/
def nts (l : List Nat) : List Value := l.map fun k : Nat => Value.int .i64 (k : Int)
theorem nts_len (l : List Nat) : (nts l).length = l.length := by simp [nts]
theorem nts_app (l m : List Nat) : nts (l ++ m) = nts l ++ nts m := by simp [nts]
theorem nms_set (l : List Int) (i : Nat) (x : Int) : (nms l).set i (.int .i64 x) = nms (l.set i x) := by simp [nms]
/-- A part, and the row of its left ones. -/
structure PV where
  p : NPart
  v : Value
def pvC (x : PV) : List Value := [.bool x.p.loop, .int .i64 (x.p.at_ : Int), .int .i64 (x.p.waits : Int), x.v]
def pvCs : List PV → List Value
  | [] => []
  | x :: l => pvC x ++ pvCs l
theorem pvCs_len : ∀ l, (pvCs l).length = l.length * 4
  | [] => rfl
  | x :: l => by rw [pvCs, List.length_append, pvCs_len l]; simp [pvC]; omega
theorem pvCs_app : ∀ l m, pvCs (l ++ m) = pvCs l ++ pvCs m
  | [], _ => rfl
  | x :: l, m => by rw [List.cons_append, pvCs, pvCs, pvCs_app l m, List.append_assoc]
theorem pvCs_one (x : PV) : pvCs [x] = pvC x := by simp [pvCs]
theorem pvCs_get : ∀ (l : List PV) (k : Nat) (x : PV) (j : Nat), l[k]? = some x → j < 4 → (pvCs l)[k * 4 + j]? = (pvC x)[j]?
  | [], k, x, j, h, hj => by simp at h
  | y :: l, 0, x, j, h, hj => by
    simp at h; subst h
    rw [pvCs, List.getElem?_append_left (by simp [pvC]; omega)]
    congr 1; omega
  | y :: l, k + 1, x, j, h, hj => by
    simp at h
    rw [pvCs, List.getElem?_append_right (by simp [pvC]; omega)]
    rw [← pvCs_get l k x j h hj]
    congr 1; simp [pvC]; omega
/-- What a match has in memory: the outer parts first. -/
structure Mt (W : World) (gm gt B n : Nat) (m : NSt) (vo : Value) (xs : List PV) : Prop where
  rec_ : Whole W gm 167 [.slice (some ⟨gt, 0, none⟩) n n, .int .i64 (m.deep : Int), vo]
  to_ : Whole W gt 3 (nms m.to)
  len : m.to.length = n
  op : m.op = (xs.map (·.p)).reverse
  own : W.ownsRow B 179 4 vo xs.length (pvCs xs)
  left : ∀ x ∈ xs, W.ownsRow B 3 1 x.v x.p.left.length (nts x.p.left)
  apart : xs.Pairwise fun x y => x.v.ownBlock = none ∨ x.v.ownBlock ≠ y.v.ownBlock
  lo : gm < B ∧ gt < B ∧ gm ≠ gt
  few : xs.length ≤ 16
  deep : m.deep ≤ 16
  wf : ∀ x ∈ xs, x.p.at_ < n ∧ x.p.waits < n ∧ x.p.left.length ≤ n ∧ ∀ j ∈ x.p.left, j < n
  big : n ≤ 100000
  room : B ≤ W.heap.size
theorem size_set (W : World) (p : Addr) (u : Value) : (W.setCell p u).heap.size = W.heap.size := by simp [World.setCell]
section
variable {W W' : World} {gm gt B n : Nat} {m : NSt} {vo : Value} {xs : List PV}
theorem Mt.keep (h : Mt W gm gt B n m vo xs) (hc : Chg [] W W') : Mt W' gm gt B n m vo xs :=
  { h with rec_ := h.rec_.keep hc, to_ := h.to_.keep hc, own := rown_keep h.own hc, left := fun x hx => own_keep (h.left x hx) hc, room := Nat.le_trans h.room hc.size }
theorem rown_set {e k q g c j : Nat} {u : Value} {cs : List Value} (h : W.ownsRow B e k (.slice (some ⟨g, 0, none⟩) q c) q cs) : (W.setCell ⟨g, j, none⟩ u).ownsRow B e k (.slice (some ⟨g, 0, none⟩) q c) q (cs.set j u) := by
  refine ⟨by rw [List.length_set]; exact h.1, ?_⟩
  rcases h.2 with ⟨h', _⟩ | ⟨g', cap, cur, h', hb, hg, hn, hc, hs, ht⟩
  · cases h'
  · injection h' with h1 _ h3
    injection h1 with h1
    injection h1 with h1
    subst h1
    subst h3
    refine .inr ⟨g, c, cur.setIfInBounds j u, rfl, hb, ?_, hn, hc, by simpa using hs, ?_⟩
    · have := heap_setCell_same W g j cur e u hg
      simpa using this
    · rw [Array.toList_setIfInBounds, List.take_set, ht]
theorem rown_frozen {e k q g c j : Nat} {cs : List Value} (h : W.ownsRow B e k (.slice (some ⟨g, 0, none⟩) q c) q cs) : W.frozen? ⟨g, j, none⟩ = false := by
  rcases h.2 with ⟨h', _⟩ | ⟨g', cap, cur, h', hb, hg, hn, hc, hs, ht⟩
  · cases h'
  · injection h' with h1 _ h3
    injection h1 with h1
    injection h1 with h1
    subst h1
    exact frozen_of_row W g j cur e hg
theorem rown_far {e k q : Nat} {v u : Value} {cs : List Value} {p : Addr} (h : W.ownsRow B e k v q cs) (hp : v.ownBlock ≠ some p.block) : (W.setCell p u).ownsRow B e k v q cs := by
  refine ⟨h.1, h.2.imp id ?_⟩
  rintro ⟨g, cap, cur, rfl, hb, hg, r⟩
  exact ⟨g, cap, cur, rfl, hb, (Below.heap_setCell W p u g (fun hc => hp (by rw [← hc]; rfl))).trans hg, r⟩
theorem own_ne {B2 e k q e2 k2 q2 : Nat} {v v2 : Value} {cs cs2 : List Value} (h : W.ownsRow B e k v q cs) (h2 : W.ownsRow B2 e2 k2 v2 q2 cs2) (hne : e ≠ e2) {g : Nat} (hg : v.ownBlock = some g) : v2.ownBlock ≠ some g := by
  intro hg2
  rcases h.2 with ⟨rfl, _⟩ | ⟨a, cap, cur, rfl, _, ha, _⟩
  · cases hg
  rcases h2.2 with ⟨rfl, _⟩ | ⟨b, cap2, cur2, rfl, _, hb, _⟩
  · cases hg2
  injection hg with hg
  injection hg2 with hg2
  simp only at hg hg2
  rw [hg] at ha
  rw [hg2] at hb
  rw [ha] at hb
  injection hb with hb
  injection hb with _ hb _
  exact hne hb
theorem rown_take {e k q q' : Nat} {A : Option Addr} {c : Nat} {cs : List Value} (h : W.ownsRow B e k (.slice A q c) q cs) (hq : q' ≤ q) (h0 : A ≠ none) : W.ownsRow B e k (.slice A q' c) q' (cs.take (q' * k)) := by
  have hl := h.1
  refine ⟨by rw [List.length_take, hl]; exact Nat.min_eq_left (Nat.mul_le_mul_right _ hq), ?_⟩
  rcases h.2 with ⟨h', _⟩ | ⟨g', cap, cur, h', hb, hg, hn, hc, hs, ht⟩
  · injection h' with h1; exact absurd h1 h0
  · injection h' with h1 _ h3
    subst h1
    subst h3
    exact .inr ⟨g', c, cur, rfl, hb, hg, by omega, hc, hs, by rw [← ht, List.take_take, Nat.min_eq_left (Nat.mul_le_mul_right _ hq)]⟩
/-- A place of 'to' is written. -/
theorem Mt.poke (h : Mt W gm gt B n m vo xs) (j : Nat) (x : Int) : Mt (W.setCell ⟨gt, j, none⟩ (.int .i64 x)) gm gt B n ⟨m.to.set j x, m.deep, m.op⟩ vo xs := by
  have hown : ∀ {e k q : Nat} {v : Value} {cs : List Value}, W.ownsRow B e k v q cs → v.ownBlock ≠ some gt := fun ho hc => by
    have := (ho.lt gt hc).1; have := h.lo; omega
  refine { h with rec_ := h.rec_.far (by simpa using h.lo.2.2) _, to_ := ?_, len := by rw [List.length_set]; exact h.len, own := rown_far h.own (hown h.own), left := fun y hy => rown_far (h.left y hy) (hown (h.left y hy)), room := by rw [size_set]; exact h.room }
  have := h.to_.set_ j (.int .i64 x)
  rwa [nms_set] at this
/-- The innermost part waits elsewhere. -/
theorem Mt.waits {ys : List PV} {x : PV} {g c q : Nat} (h : Mt W gm gt B n m vo (ys ++ [x])) (hv : vo = .slice (some ⟨g, 0, none⟩) q c) (i : Nat) (hi : i < n) :
    Mt (W.setCell ⟨g, ys.length * 4 + 2, none⟩ (.int .i64 (i : Int))) gm gt B n ⟨m.to, m.deep, ⟨x.p.loop, x.p.at_, i, x.p.left⟩ :: (ys.map (·.p)).reverse⟩ vo (ys ++ [⟨⟨x.p.loop, x.p.at_, i, x.p.left⟩, x.v⟩]) := by
  subst hv
  have hq : q = (ys ++ [x]).length := by
    rcases h.own.2 with ⟨e, _⟩ | ⟨_, _, _, e, _⟩
    · cases e
    · injection e
  subst hq
  have hB := (h.own.lt g rfl).1
  have hlo := h.lo
  refine ⟨h.rec_.far (by simp only; omega) _, h.to_.far (by simp only; omega) _, h.len, by simp, ?_, fun y hy => ?_, ?_, h.lo, by have := h.few; simpa using this, h.deep, fun y hy => ?_, h.big, by rw [size_set]; exact h.room⟩
  · have ho := rown_set (j := ys.length * 4 + 2) (u := .int .i64 (i : Int)) h.own
    have e1 : (ys ++ [(⟨⟨x.p.loop, x.p.at_, i, x.p.left⟩, x.v⟩ : PV)]).length = (ys ++ [x]).length := by simp
    have e2 : (pvCs (ys ++ [x])).set (ys.length * 4 + 2) (.int .i64 (i : Int)) = pvCs (ys ++ [⟨⟨x.p.loop, x.p.at_, i, x.p.left⟩, x.v⟩]) := by
      rw [pvCs_app, pvCs_app, pvCs_one, pvCs_one, List.set_append_right _ _ (by rw [pvCs_len]; omega), pvCs_len]
      rw [show ys.length * 4 + 2 - ys.length * 4 = 2 by omega]
      rfl
    rw [e1, ← e2]
    exact ho
  · rcases List.mem_append.1 hy with hy | hy
    · exact rown_far (h.left y (List.mem_append_left _ hy)) (own_ne h.own (h.left y (List.mem_append_left _ hy)) (by decide) rfl)
    · simp only [List.mem_cons, List.not_mem_nil, or_false] at hy
      subst hy
      have hx := h.left x (by simp)
      exact rown_far hx (own_ne h.own hx (by decide) rfl)
  · have := h.apart
    rw [List.pairwise_append] at this ⊢
    refine ⟨this.1, List.pairwise_singleton _ _, fun y hy z hz => ?_⟩
    simp only [List.mem_cons, List.not_mem_nil, or_false] at hz
    subst hz
    exact this.2.2 y hy x (by simp)
  · rcases List.mem_append.1 hy with hy | hy
    · exact h.wf y (List.mem_append_left _ hy)
    · simp only [List.mem_cons, List.not_mem_nil, or_false] at hy
      subst hy
      have := h.wf x (by simp)
      exact ⟨this.1, hi, this.2.2⟩
/-- The innermost part is taken away. -/
theorem Mt.drop {ys : List PV} {x : PV} {A : Option Addr} {c q : Nat} (h : Mt W gm gt B n m vo (ys ++ [x])) (hv : vo = .slice A q c) :
    Mt (W.setCell ⟨gm, 2, none⟩ (.slice A ys.length c)) gm gt B n ⟨m.to, m.deep, (ys.map (·.p)).reverse⟩ (.slice A ys.length c) ys := by
  subst hv
  have hq : q = (ys ++ [x]).length := by
    rcases h.own.2 with ⟨e, e2⟩ | ⟨_, _, _, e, _⟩
    · injection e with _ e _; rw [e2, e]
    · injection e
  subst hq
  have hA : A ≠ none := by
    rintro rfl
    rcases h.own.2 with ⟨e, _⟩ | ⟨_, _, _, e, _⟩
    · injection e with _ e _; simp at e
    · injection e with e _; cases e
  have hown : ∀ {e k q : Nat} {v : Value} {cs : List Value}, W.ownsRow B e k v q cs → v.ownBlock ≠ some gm := fun ho hc => by
    have := (ho.lt gm hc).1; have := h.lo; omega
  have ht := rown_take (q' := ys.length) h.own (by simp) hA
  have e2 : (pvCs (ys ++ [x])).take (ys.length * 4) = pvCs ys := by rw [pvCs_app, ← pvCs_len, List.take_left]
  rw [e2] at ht
  refine ⟨?_, h.to_.far (by simpa using Ne.symm h.lo.2.2) _, h.len, rfl, rown_far ht (hown ht), fun y hy => ?_, ?_, h.lo, by have := h.few; simp at this; omega, h.deep, fun y hy => h.wf y (List.mem_append_left _ hy), h.big, by rw [size_set]; exact h.room⟩
  · have := h.rec_.set_ 2 (.slice A ys.length c)
    simpa using this
  · have := h.left y (List.mem_append_left _ hy)
    exact rown_far this (hown this)
  · exact (List.pairwise_append.1 h.apart).1
end
end Go.Proofs.Ytlhkmbcjgdjegaa
namespace Go.Proofs.Ytlhkmbcjgdjegaa
open Go.RowKit
section
variable {W : World} {gm gt B n : Nat} {m : NSt} {vo : Value}
theorem alloc_away {W : World} {g t : Nat} {cs : List Value} (h : Whole W g t cs) (o : Obj) : Whole (W.alloc o) g t cs := h.keep ((Chg.refl [] W).alloc o)
set_option maxHeartbeats 1000000 in
theorem inner_none (h : Mt W gm gt B n m vo []) : Calls Try.prog 135 #[.pointer (some ⟨gm, 0, none⟩)] W fun e w' =>
    e = .returned (.tuple #[.agg #[.bool false, .int .i64 0, .int .i64 0, .slice none 0 0], .bool false]) ∧ Chg [] W w' := by
  obtain ⟨A, c, rfl, _, _, _⟩ := rown_slice h.own
  have hr := h.rec_
  simp only [List.length_nil] at hr
  clear h
  go_enter Try.func135, Try.ntmps135
  go_upto_region 1 with fail
  have hal : Chg [] W (W.alloc (.cells #[.bool false, .int .i64 0, .int .i64 0, .slice none 0 0] 179)) := (Chg.refl [] W).alloc _
  have c2 := (hr.keep hal).cell 2
  have hN : Whole (W.alloc (.cells #[.bool false, .int .i64 0, .int .i64 0, .slice none 0 0] 179)) W.heap.size 179 [.bool false, .int .i64 0, .int .i64 0, .slice none 0 0] := Whole.new W 179 [.bool false, .int .i64 0, .int .i64 0, .slice none 0 0]
  obtain ⟨g9, hg9⟩ : ∃ g, g = W.heap.size := ⟨_, rfl⟩
  rw [← hg9] at hN ⊢
  generalize W.alloc (.cells #[.bool false, .int .i64 0, .int .i64 0, .slice none 0 0] 179) = w1 at hal c2 hN ⊢
  have f0 := hN.frozen 0
  have f1 := hN.frozen 1
  have f2 := hN.frozen 2
  have f3 := hN.frozen 3
  have k0 := hN.cell 0
  have k1 := hN.cell 1
  have k2 := hN.cell 2
  have k3 := hN.cell 3
  have HC := Lib.hid (show Chg [] W (w1) from hal)
  have HN := Lib.hid hN
  have HG := Lib.hid hg9
  clear hal hN hg9 hr
  go_wp2_with fail
  have hz := (((HN.out.set_ 0 (.bool false)).set_ 1 (.int .i64 0)).set_ 2 (.int .i64 0)).set_ 3 (.slice none 0 0)
  simp only [List.set_cons_zero, List.set_cons_succ] at hz
  have HCz := Lib.hid (((((HC.out.setCell (p := ⟨g9, 0, none⟩) (fun h => absurd h (by have := HG.out; simp only; omega)) (.bool false)).setCell (p := ⟨g9, 1, none⟩) (fun h => absurd h (by have := HG.out; simp only; omega)) (.int .i64 0)).setCell (p := ⟨g9, 2, none⟩) (fun h => absurd h (by have := HG.out; simp only; omega)) (.int .i64 0)).setCell (p := ⟨g9, 3, none⟩) (fun h => absurd h (by have := HG.out; simp only; omega)) (.slice none 0 0)))
  generalize (((w1.setCell ⟨g9, 0, none⟩ (.bool false)).setCell ⟨g9, 1, none⟩ (.int .i64 0)).setCell ⟨g9, 2, none⟩ (.int .i64 0)).setCell ⟨g9, 3, none⟩ (.slice none 0 0) = w9 at hz HCz ⊢
  clear k0 k1 k2 k3 f0 f1 f2 f3 c2
  have k0 := hz.cell 0
  have k1 := hz.cell 1
  have k2 := hz.cell 2
  have k3 := hz.cell 3
  exact bodyPost_ret (v := .tuple #[.agg #[.bool false, .int .i64 0, .int .i64 0, .slice none 0 0], .bool false]) (by simp [results, Try.results135, go_sem, k0, k1, k2, k3]) rfl ⟨rfl, HCz.out⟩
set_option maxHeartbeats 2000000 in
theorem inner_some {ys : List PV} {x : PV} (h : Mt W gm gt B n m vo (ys ++ [x])) : Calls Try.prog 135 #[.pointer (some ⟨gm, 0, none⟩)] W fun e w' =>
    e = .returned (.tuple #[.agg #[.bool x.p.loop, .int .i64 (x.p.at_ : Int), .int .i64 (x.p.waits : Int), x.v], .bool true]) ∧ Chg [] W w' := by
  obtain ⟨px, vx⟩ := x
  obtain ⟨Av, cv, e, _⟩ := own_slice (h.left ⟨px, vx⟩ (by simp))
  simp only at e
  subst e
  have hl : (ys ++ [(⟨px, .slice Av px.left.length cv⟩ : PV)]).length = ys.length + 1 := by simp
  obtain ⟨A, c, rfl, hc1, hc2, _⟩ := rown_slice h.own
  have hr := h.rec_
  rw [hl] at hr hc1
  have hf := h.few
  rw [hl] at hf
  have hal : Chg [] W (W.alloc (.cells #[.bool false, .int .i64 0, .int .i64 0, .slice none 0 0] 179)) := (Chg.refl [] W).alloc _
  have hg : ∀ j u, (pvC ⟨px, .slice Av px.left.length cv⟩)[j]? = some u → j < 4 → (pvCs (ys ++ [⟨px, .slice Av px.left.length cv⟩]))[ys.length * 4 + j]? = some u := fun j u hu hj => (pvCs_get (ys ++ [⟨px, .slice Av px.left.length cv⟩]) ys.length ⟨px, .slice Av px.left.length cv⟩ j (by simp) hj).trans hu
  obtain ⟨g, rfl, j0⟩ := rown_cell (rown_keep h.own hal) rfl (hg 0 _ rfl (by omega))
  obtain ⟨g', e, j1⟩ := rown_cell (rown_keep h.own hal) rfl (hg 1 _ rfl (by omega))
  injection e with e; injection e with e; subst e
  obtain ⟨g', e, j2⟩ := rown_cell (rown_keep h.own hal) rfl (hg 2 _ rfl (by omega))
  injection e with e; injection e with e; subst e
  obtain ⟨g', e, j3⟩ := rown_cell (rown_keep h.own hal) rfl (hg 3 _ rfl (by omega))
  injection e with e; injection e with e; subst e
  generalize ys.length = q at *
  clear hg hl h
  rw [Nat.add_zero] at j0
  have hsub : IntKind.i64.wrap (((q + 1 : Nat) : Int) - 1) = (q : Int) := by rw [IntWalk.i64_in _ (by omega)]; omega
  have hne : (((q + 1 : Nat) : Int) == 0) = false := by simp; omega
  have hq0 : (0 : Int) ≤ (q : Int) := by omega
  have hq1 : (q : Int) < ((q + 1 : Nat) : Int) := by omega
  go_enter Try.func135, Try.ntmps135
  go_upto_region 1 with fail
  have c2 := (hr.keep hal).cell 2
  have hN : Whole (W.alloc (.cells #[.bool false, .int .i64 0, .int .i64 0, .slice none 0 0] 179)) W.heap.size 179 [.bool false, .int .i64 0, .int .i64 0, .slice none 0 0] := Whole.new W 179 [.bool false, .int .i64 0, .int .i64 0, .slice none 0 0]
  obtain ⟨g9, hg9⟩ : ∃ g, g = W.heap.size := ⟨_, rfl⟩
  rw [← hg9] at hN ⊢
  generalize W.alloc (.cells #[.bool false, .int .i64 0, .int .i64 0, .slice none 0 0] 179) = w1 at hal c2 hN j0 j1 j2 j3 ⊢
  have f0 := hN.frozen 0
  have f1 := hN.frozen 1
  have f2 := hN.frozen 2
  have f3 := hN.frozen 3
  have k0 := hN.cell 0
  have k1 := hN.cell 1
  have k2 := hN.cell 2
  have k3 := hN.cell 3
  have HC := Lib.hid (show Chg [] W (w1) from hal)
  have HN := Lib.hid hN
  have HG := Lib.hid hg9
  clear hal hN hg9 hr
  go_wp2_with fail
  go_region
  have hz := (((HN.out.set_ 0 (.bool px.loop)).set_ 1 (.int .i64 (px.at_ : Int))).set_ 2 (.int .i64 (px.waits : Int))).set_ 3 (.slice Av px.left.length cv)
  simp only [List.set_cons_zero, List.set_cons_succ] at hz
  have HCz := Lib.hid (((((HC.out.setCell (p := ⟨g9, 0, none⟩) (fun h => absurd h (by have := HG.out; simp only; omega)) (.bool px.loop)).setCell (p := ⟨g9, 1, none⟩) (fun h => absurd h (by have := HG.out; simp only; omega)) (.int .i64 (px.at_ : Int))).setCell (p := ⟨g9, 2, none⟩) (fun h => absurd h (by have := HG.out; simp only; omega)) (.int .i64 (px.waits : Int))).setCell (p := ⟨g9, 3, none⟩) (fun h => absurd h (by have := HG.out; simp only; omega)) (.slice Av px.left.length cv)))
  have hz2 := hz.drew
  have HCz2 := Lib.hid HCz.out.drew
  generalize ((((w1.setCell ⟨g9, 0, none⟩ (.bool px.loop)).setCell ⟨g9, 1, none⟩ (.int .i64 (px.at_ : Int))).setCell ⟨g9, 2, none⟩ (.int .i64 (px.waits : Int))).setCell ⟨g9, 3, none⟩ (.slice Av px.left.length cv)).drew = w9 at hz2 HCz2 ⊢
  clear k0 k1 k2 k3 f0 f1 f2 f3 c2 j0 j1 j2 j3 hz HCz
  have k0 := hz2.cell 0
  have k1 := hz2.cell 1
  have k2 := hz2.cell 2
  have k3 := hz2.cell 3
  go_wp2_with fail
  exact bodyPost_ret (v := .tuple #[.agg #[.bool px.loop, .int .i64 (px.at_ : Int), .int .i64 (px.waits : Int), .slice Av px.left.length cv], .bool true]) (by simp [results, Try.results135, go_sem, k0, k1, k2, k3]) rfl ⟨rfl, HCz2.out⟩
end
end Go.Proofs.Ytlhkmbcjgdjegaa
namespace Go.Proofs.Ytlhkmbcjgdjegaa
open Go.RowKit
section
variable {W : World} {gm gt B n : Nat} {m : NSt} {vo : Value}
set_option maxHeartbeats 2000000 in
theorem halve_none (h : Mt W gm gt B n m vo []) (i : Nat) : Calls Try.prog 127 #[.pointer (some ⟨gm, 0, none⟩), .int .i64 (i : Int)] W (BoolPost false W) := by
  go_enter Try.func127, Try.ntmps127
  go_wp2_with fail
  refine (inner_none h).mono ?_
  rintro e w1 ⟨rfl, hc1⟩
  have HC := Lib.hid (hc1.alloc (.cells #[.bool false, .int .i64 0, .int .i64 0, .slice none 0 0] 179))
  clear hc1 h
  go_wp2_with fail
  go_ret
  exact ⟨rfl, HC.out⟩
set_option maxHeartbeats 2000000 in
theorem halve_no {ys : List PV} {x : PV} (h : Mt W gm gt B n m vo (ys ++ [x])) (hn : x.p.loop = true ∨ x.p.waits ≠ x.p.at_) (i : Nat) : Calls Try.prog 127 #[.pointer (some ⟨gm, 0, none⟩), .int .i64 (i : Int)] W (BoolPost false W) := by
  have hin := inner_some h
  obtain ⟨⟨lp, at_, wt, lf⟩, vx⟩ := x
  obtain ⟨Av, cv, e, _⟩ := own_slice (h.left ⟨⟨lp, at_, wt, lf⟩, vx⟩ (by simp))
  simp only at e
  subst e
  simp only at hin hn
  clear h
  go_enter Try.func127, Try.ntmps127
  go_wp2_with fail
  refine hin.mono ?_
  rintro e w1 ⟨rfl, hc1⟩
  have HC := Lib.hid (hc1.alloc (.cells #[.bool lp, .int .i64 (at_ : Int), .int .i64 (wt : Int), .slice Av lf.length cv] 179))
  clear hc1 hin
  by_cases hl : lp = true
  · subst hl
    go_wp2_with fail
    go_ret
    exact ⟨rfl, HC.out⟩
  · obtain rfl : lp = false := by simpa using hl
    have hne : wt ≠ at_ := by simpa using hn
    have hd : ((wt : Int) != (at_ : Int)) = true := by simp; omega
    go_wp2_with fail
    go_ret
    exact ⟨rfl, HC.out⟩
def NextPost8 (gm gt B n : Nat) (m' : NSt) (W : World) (e : Ending) (w' : World) : Prop := e = .returned (.bool true) ∧ (∃ vo' xs', Mt w' gm gt B n m' vo' xs') ∧ Lo B [gm, gt] W w'
set_option maxHeartbeats 4000000 in
theorem halve_yes {ys : List PV} {x : PV} (h : Mt W gm gt B n m vo (ys ++ [x])) (hl : x.p.loop = false) (hw : x.p.waits = x.p.at_) (i : Nat) (hi : i < n) : Calls Try.prog 127 #[.pointer (some ⟨gm, 0, none⟩), .int .i64 (i : Int)] W
    (NextPost8 gm gt B n ⟨m.to.set x.p.at_ ((i : Int) + 1), m.deep, ⟨x.p.loop, x.p.at_, i, x.p.left⟩ :: (ys.map (·.p)).reverse⟩ W) := by
  have hin := inner_some h
  obtain ⟨⟨lp, at_, wt, lf⟩, vx⟩ := x
  obtain ⟨Av, cv, e, _⟩ := own_slice (h.left ⟨⟨lp, at_, wt, lf⟩, vx⟩ (by simp))
  simp only at e hl hw
  have hw' := hw.symm
  subst e hl hw'
  simp only at hin
  have H := Lib.hid h
  clear h
  go_enter Try.func127, Try.ntmps127
  go_wp2_with fail
  refine hin.mono ?_
  rintro e w1 ⟨rfl, hc1⟩
  clear hin
  go_upto_region 2 with fail
  have hal : Chg [] w1 (w1.alloc (.cells #[.bool false, .int .i64 (at_ : Int), .int .i64 (at_ : Int), .slice Av lf.length cv] 179)) := (Chg.refl [] w1).alloc _
  have hN : Whole (w1.alloc (.cells #[.bool false, .int .i64 (at_ : Int), .int .i64 (at_ : Int), .slice Av lf.length cv] 179)) w1.heap.size 179 [.bool false, .int .i64 (at_ : Int), .int .i64 (at_ : Int), .slice Av lf.length cv] := Whole.new w1 179 [.bool false, .int .i64 (at_ : Int), .int .i64 (at_ : Int), .slice Av lf.length cv]
  obtain ⟨g5, hg5⟩ : ∃ g, g = w1.heap.size := ⟨_, rfl⟩
  rw [← hg5] at hN ⊢
  generalize w1.alloc (.cells #[.bool false, .int .i64 (at_ : Int), .int .i64 (at_ : Int), .slice Av lf.length cv] 179) = w2 at hal hN ⊢
  have HC2 := Lib.hid (hc1.new hal)
  have H2 := Lib.hid (H.out.keep HC2.out)
  have HN := Lib.hid hN
  have HG := Lib.hid (show gm < w1.heap.size ∧ gt < w1.heap.size from ⟨(H.out.rec_.keep hc1).lt, (H.out.to_.keep hc1).lt⟩)
  have HG5 := Lib.hid hg5
  clear hal hN hc1 hg5
  have hlo := H2.out.lo
  have hat := (H2.out.wf _ (List.mem_append_right _ (List.mem_singleton_self _))).1
  simp only at hat
  obtain ⟨b0, b1, b2⟩ := (show w2.cell? ⟨g5, 0, none⟩ = some (.bool false) ∧ w2.cell? ⟨g5, 1, none⟩ = some (.int .i64 (at_ : Int)) ∧ w2.cell? ⟨g5, 2, none⟩ = some (.int .i64 (at_ : Int)) from ⟨HN.out.cell 0, HN.out.cell 1, HN.out.cell 2⟩)
  have c0 := H2.out.rec_.cell 0
  have t0 : w2.cell? ⟨gt, at_, none⟩ = some (.int .i64 (m.to[at_]'(by rw [H2.out.len]; exact hat))) := (H2.out.to_.cell at_).trans (nms_get _ _ (by rw [H2.out.len]; exact hat))
  have f0 := H2.out.to_.frozen at_
  have hat0 : (0 : Int) ≤ (at_ : Int) := by omega
  have hat1 : (at_ : Int) < (n : Int) := by omega
  have hbig := H2.out.big
  have hsum : IntKind.i64.wrap ((i : Int) + 1) = (i : Int) + 1 := IntWalk.i64_in _ (by omega)
  have hdn : ((at_ : Int) != (at_ : Int)) = false := by simp
  go_wp2_with fail
  go_region
  have H3 := Lib.hid ((H2.out.poke at_ ((i : Int) + 1)).keep (Chg.refl [] _).drew)
  have HL3 := Lib.hid (show Lo B [gm, gt] W (w2.setCell ⟨gt, at_, none⟩ (.int .i64 ((i : Int) + 1))).drew from Lo.of_chg ((HC2.out.sub (T' := [gt]) (by simp)).setCell (p := ⟨gt, at_, none⟩) (by simp) (.int .i64 ((i : Int) + 1))).drew (by simp))
  generalize (w2.setCell ⟨gt, at_, none⟩ (.int .i64 ((i : Int) + 1))).drew = w3 at H3 HL3 ⊢
  clear b0 b1 b2 c0 t0 f0 hsum hdn
  obtain ⟨A, c, rfl, hc1, hc2, _⟩ := rown_slice H3.out.own
  have hll : (ys ++ [(⟨⟨false, at_, at_, lf⟩, .slice Av lf.length cv⟩ : PV)]).length = ys.length + 1 := by simp
  have c2 := H3.out.rec_.cell 2
  obtain ⟨g, rfl, j2⟩ := rown_cell H3.out.own rfl ((pvCs_get _ ys.length _ 2 (by simp) (by omega)).trans (show (pvC ⟨⟨false, at_, at_, lf⟩, .slice Av lf.length cv⟩)[2]? = some (.int .i64 (at_ : Int)) from rfl))
  rw [hll] at c2
  have f2 : w3.frozen? ⟨g, ys.length * 4 + 2, none⟩ = false := rown_frozen H3.out.own
  have H4 := Lib.hid (H3.out.waits rfl i hi)
  have hfew := H3.out.few
  have HGB := Lib.hid (H3.out.own.lt g rfl).1
  rw [hll] at hfew
  obtain ⟨q, hq⟩ : ∃ q, q = ys.length := ⟨_, rfl⟩
  rw [← hq] at c2 j2 f2 hfew H4
  have hsub : IntKind.i64.wrap (((q + 1 : Nat) : Int) - 1) = (q : Int) := by rw [IntWalk.i64_in _ (by omega)]; omega
  have hq0 : (0 : Int) ≤ (q : Int) := by omega
  have hq1 : (q : Int) < ((q + 1 : Nat) : Int) := by omega
  clear hq hll H3
  go_wp2_with fail
  go_region
  have HL4 := Lib.hid (show Lo B [gm, gt] W (w3.setCell ⟨g, q * 4 + 2, none⟩ (.int .i64 (i : Int))).drew from HL3.out.trans (Lo.of_chg ((Chg.refl [g] w3).setCell (p := ⟨g, q * 4 + 2, none⟩) (by simp) _).drew (by have := HGB.out; simp; omega)))
  have H5 := Lib.hid (H4.out.keep (Chg.refl [] _).drew)
  generalize (w3.setCell ⟨g, q * 4 + 2, none⟩ (.int .i64 (i : Int))).drew = w4 at HL4 H5 ⊢
  clear c2 j2 f2 hsub
  go_wp2_with fail
  go_ret
  exact ⟨rfl, ⟨_, _, H5.out⟩, HL4.out⟩
end
end Go.Proofs.Ytlhkmbcjgdjegaa
namespace Go.Proofs.Ytlhkmbcjgdjegaa
open Go.RowKit
section
variable {W : World} {gm gt B n : Nat} {m : NSt} {vo : Value}
set_option maxHeartbeats 2000000 in
theorem endIf_none (h : Mt W gm gt B n m vo []) (i : Nat) : Calls Try.prog 128 #[.pointer (some ⟨gm, 0, none⟩), .int .i64 (i : Int)] W (BoolPost false W) := by
  go_enter Try.func128, Try.ntmps128
  go_wp2_with fail
  refine (inner_none h).mono ?_
  rintro e w1 ⟨rfl, hc1⟩
  have HC := Lib.hid (hc1.alloc (.cells #[.bool false, .int .i64 0, .int .i64 0, .slice none 0 0] 179))
  clear hc1 h
  go_wp2_with fail
  go_ret
  exact ⟨rfl, HC.out⟩
set_option maxHeartbeats 2000000 in
theorem endIf_no {ys : List PV} {x : PV} (h : Mt W gm gt B n m vo (ys ++ [x])) (hn : x.p.loop = true) (i : Nat) : Calls Try.prog 128 #[.pointer (some ⟨gm, 0, none⟩), .int .i64 (i : Int)] W (BoolPost false W) := by
  have hin := inner_some h
  obtain ⟨⟨lp, at_, wt, lf⟩, vx⟩ := x
  obtain ⟨Av, cv, e, _⟩ := own_slice (h.left ⟨⟨lp, at_, wt, lf⟩, vx⟩ (by simp))
  simp only at e
  subst e
  simp only at hin hn
  clear h
  subst hn
  go_enter Try.func128, Try.ntmps128
  go_wp2_with fail
  refine hin.mono ?_
  rintro e w1 ⟨rfl, hc1⟩
  have HC := Lib.hid (hc1.alloc (.cells #[.bool true, .int .i64 (at_ : Int), .int .i64 (wt : Int), .slice Av lf.length cv] 179))
  clear hc1 hin
  go_wp2_with fail
  go_ret
  exact ⟨rfl, HC.out⟩
set_option maxHeartbeats 4000000 in
theorem endIf_yes {ys : List PV} {x : PV} (h : Mt W gm gt B n m vo (ys ++ [x])) (hl : x.p.loop = false) (i : Nat) : Calls Try.prog 128 #[.pointer (some ⟨gm, 0, none⟩), .int .i64 (i : Int)] W
    (NextPost8 gm gt B n ⟨m.to.set x.p.waits (i : Int), m.deep, (ys.map (·.p)).reverse⟩ W) := by
  have hin := inner_some h
  obtain ⟨⟨lp, at_, wt, lf⟩, vx⟩ := x
  obtain ⟨Av, cv, e, _⟩ := own_slice (h.left ⟨⟨lp, at_, wt, lf⟩, vx⟩ (by simp))
  simp only at e hl
  subst e hl
  simp only at hin
  have H := Lib.hid h
  clear h
  go_enter Try.func128, Try.ntmps128
  go_wp2_with fail
  refine hin.mono ?_
  rintro e w1 ⟨rfl, hc1⟩
  clear hin
  go_upto_region 2 with fail
  have hal : Chg [] w1 (w1.alloc (.cells #[.bool false, .int .i64 (at_ : Int), .int .i64 (wt : Int), .slice Av lf.length cv] 179)) := (Chg.refl [] w1).alloc _
  have hN : Whole (w1.alloc (.cells #[.bool false, .int .i64 (at_ : Int), .int .i64 (wt : Int), .slice Av lf.length cv] 179)) w1.heap.size 179 [.bool false, .int .i64 (at_ : Int), .int .i64 (wt : Int), .slice Av lf.length cv] := Whole.new w1 179 [.bool false, .int .i64 (at_ : Int), .int .i64 (wt : Int), .slice Av lf.length cv]
  obtain ⟨g5, hg5⟩ : ∃ g, g = w1.heap.size := ⟨_, rfl⟩
  rw [← hg5] at hN ⊢
  generalize w1.alloc (.cells #[.bool false, .int .i64 (at_ : Int), .int .i64 (wt : Int), .slice Av lf.length cv] 179) = w2 at hal hN ⊢
  have HC2 := Lib.hid (hc1.new hal)
  have H2 := Lib.hid (H.out.keep HC2.out)
  have HN := Lib.hid hN
  clear hal hN hc1 hg5
  have hwt := (H2.out.wf _ (List.mem_append_right _ (List.mem_singleton_self _))).2.1
  simp only at hwt
  obtain ⟨b0, b2⟩ := (show w2.cell? ⟨g5, 0, none⟩ = some (.bool false) ∧ w2.cell? ⟨g5, 2, none⟩ = some (.int .i64 (wt : Int)) from ⟨HN.out.cell 0, HN.out.cell 2⟩)
  have c0 := H2.out.rec_.cell 0
  have t0 : w2.cell? ⟨gt, wt, none⟩ = some (.int .i64 (m.to[wt]'(by rw [H2.out.len]; exact hwt))) := (H2.out.to_.cell wt).trans (nms_get _ _ (by rw [H2.out.len]; exact hwt))
  have f0 := H2.out.to_.frozen wt
  have hat0 : (0 : Int) ≤ (wt : Int) := by omega
  have hat1 : (wt : Int) < (n : Int) := by omega
  have hbig := H2.out.big
  go_wp2_with fail
  go_region
  have H3 := Lib.hid ((H2.out.poke wt (i : Int)).keep (Chg.refl [] _).drew)
  have HL3 := Lib.hid (show Lo B [gm, gt] W (w2.setCell ⟨gt, wt, none⟩ (.int .i64 (i : Int))).drew from Lo.of_chg ((HC2.out.sub (T' := [gt]) (by simp)).setCell (p := ⟨gt, wt, none⟩) (by simp) (.int .i64 (i : Int))).drew (by simp))
  generalize (w2.setCell ⟨gt, wt, none⟩ (.int .i64 (i : Int))).drew = w3 at H3 HL3 ⊢
  clear b0 b2 c0 t0 f0
  obtain ⟨A, c, rfl, hc1, hc2, _⟩ := rown_slice H3.out.own
  have hll : (ys ++ [(⟨⟨false, at_, wt, lf⟩, .slice Av lf.length cv⟩ : PV)]).length = ys.length + 1 := by simp
  have c2 := H3.out.rec_.cell 2
  have f2 := H3.out.rec_.frozen 2
  rw [hll] at c2 hc1
  obtain ⟨g, rfl, _⟩ := rown_cell H3.out.own rfl ((pvCs_get _ ys.length _ 2 (by simp) (by omega)).trans (show (pvC ⟨⟨false, at_, wt, lf⟩, .slice Av lf.length cv⟩)[2]? = some (.int .i64 (wt : Int)) from rfl))
  have H4 := Lib.hid (H3.out.drop rfl)
  have hfew := H3.out.few
  rw [hll] at hfew
  obtain ⟨q, hq⟩ : ∃ q, q = ys.length := ⟨_, rfl⟩
  rw [← hq] at c2 hfew H4 hc1
  have hsub : IntKind.i64.wrap (((q + 1 : Nat) : Int) - 1) = (q : Int) := by rw [IntWalk.i64_in _ (by omega)]; omega
  have hq0 : (0 : Int) ≤ (q : Int) := by omega
  have hq1 : (q : Int) < ((q + 1 : Nat) : Int) := by omega
  have hq2 : (q : Int) ≤ (c : Int) := by omega
  have hqt : (q : Int).toNat = q := Int.toNat_natCast _
  clear hq hll H3
  go_wp2_with fail
  go_region
  have HL4 := Lib.hid (show Lo B [gm, gt] W (w3.setCell ⟨gm, 2, none⟩ (.slice (some ⟨g, 0, none⟩) q c)).drew from HL3.out.trans (Lo.of_chg ((Chg.refl [gm] w3).setCell (p := ⟨gm, 2, none⟩) (by simp) _).drew (by simp)))
  have H5 := Lib.hid (H4.out.keep (Chg.refl [] _).drew)
  generalize (w3.setCell ⟨gm, 2, none⟩ (.slice (some ⟨g, 0, none⟩) q c)).drew = w4 at HL4 H5 ⊢
  clear c2 f2 hsub
  go_wp2_with fail
  go_ret
  exact ⟨rfl, ⟨_, _, H5.out⟩, HL4.out⟩
end
end Go.Proofs.Ytlhkmbcjgdjegaa
namespace Go.Proofs.Ytlhkmbcjgdjegaa
open Go.RowKit
theorem setAll_snoc (v : Int) (j : Nat) : ∀ (l : List Nat) (t : List Int), setAll v (l ++ [j]) t = (setAll v l t).set j v
  | [], t => rfl
  | k :: l, t => by rw [List.cons_append, setAll, setAll_snoc v j l, setAll]
section
variable {W : World} {gm gt B n : Nat} {m : NSt} {vo : Value}
set_option maxHeartbeats 2000000 in
theorem endLoop_none (h : Mt W gm gt B n m vo []) (i : Nat) : Calls Try.prog 129 #[.pointer (some ⟨gm, 0, none⟩), .int .i64 (i : Int)] W (BoolPost false W) := by
  go_enter Try.func129, Try.ntmps129
  go_wp2_with fail
  refine (inner_none h).mono ?_
  rintro e w1 ⟨rfl, hc1⟩
  have HC := Lib.hid (hc1.alloc (.cells #[.bool false, .int .i64 0, .int .i64 0, .slice none 0 0] 179))
  clear hc1 h
  go_wp2_with fail
  go_ret
  exact ⟨rfl, HC.out⟩
set_option maxHeartbeats 2000000 in
theorem endLoop_no {ys : List PV} {x : PV} (h : Mt W gm gt B n m vo (ys ++ [x])) (hn : x.p.loop = false) (i : Nat) : Calls Try.prog 129 #[.pointer (some ⟨gm, 0, none⟩), .int .i64 (i : Int)] W (BoolPost false W) := by
  have hin := inner_some h
  obtain ⟨⟨lp, at_, wt, lf⟩, vx⟩ := x
  obtain ⟨Av, cv, e, _⟩ := own_slice (h.left ⟨⟨lp, at_, wt, lf⟩, vx⟩ (by simp))
  simp only at e
  subst e
  simp only at hin hn
  clear h
  subst hn
  go_enter Try.func129, Try.ntmps129
  go_wp2_with fail
  refine hin.mono ?_
  rintro e w1 ⟨rfl, hc1⟩
  have HC := Lib.hid (hc1.alloc (.cells #[.bool false, .int .i64 (at_ : Int), .int .i64 (wt : Int), .slice Av lf.length cv] 179))
  clear hc1 hin
  go_wp2_with fail
  go_ret
  exact ⟨rfl, HC.out⟩
set_option maxHeartbeats 4000000 in
theorem endLoop_yes {ys : List PV} {x : PV} (h : Mt W gm gt B n m vo (ys ++ [x])) (hl : x.p.loop = true) (i : Nat) (hi : i < n) : Calls Try.prog 129 #[.pointer (some ⟨gm, 0, none⟩), .int .i64 (i : Int)] W
    (NextPost8 gm gt B n ⟨setAll ((i : Int) + 1) x.p.left (m.to.set i (x.p.at_ : Int)), m.deep, (ys.map (·.p)).reverse⟩ W) := by
  have hin := inner_some h
  obtain ⟨⟨lp, at_, wt, lf⟩, vx⟩ := x
  obtain ⟨Av, cv, e, _⟩ := own_slice (h.left ⟨⟨lp, at_, wt, lf⟩, vx⟩ (by simp))
  simp only at e hl
  subst e hl
  simp only at hin
  have H := Lib.hid h
  clear h
  go_enter Try.func129, Try.ntmps129
  go_wp2_with fail
  refine hin.mono ?_
  rintro e w1 ⟨rfl, hc1⟩
  clear hin
  go_upto_region 2 with fail
  have hal : Chg [] w1 (w1.alloc (.cells #[.bool true, .int .i64 (at_ : Int), .int .i64 (wt : Int), .slice Av lf.length cv] 179)) := (Chg.refl [] w1).alloc _
  have hN : Whole (w1.alloc (.cells #[.bool true, .int .i64 (at_ : Int), .int .i64 (wt : Int), .slice Av lf.length cv] 179)) w1.heap.size 179 [.bool true, .int .i64 (at_ : Int), .int .i64 (wt : Int), .slice Av lf.length cv] := Whole.new w1 179 [.bool true, .int .i64 (at_ : Int), .int .i64 (wt : Int), .slice Av lf.length cv]
  obtain ⟨g5, hg5⟩ : ∃ g, g = w1.heap.size := ⟨_, rfl⟩
  rw [← hg5] at hN ⊢
  generalize w1.alloc (.cells #[.bool true, .int .i64 (at_ : Int), .int .i64 (wt : Int), .slice Av lf.length cv] 179) = w2 at hal hN ⊢
  have HC2 := Lib.hid (hc1.new hal)
  have H2 := Lib.hid (H.out.keep HC2.out)
  have HN := Lib.hid hN
  have HG := Lib.hid (show gt < g5 by rw [hg5]; exact (H.out.to_.keep hc1).lt)
  clear hal hN hc1 hg5
  obtain ⟨b0, b1⟩ := (show w2.cell? ⟨g5, 0, none⟩ = some (.bool true) ∧ w2.cell? ⟨g5, 1, none⟩ = some (.int .i64 (at_ : Int)) from ⟨HN.out.cell 0, HN.out.cell 1⟩)
  have c0 := H2.out.rec_.cell 0
  have t0 : w2.cell? ⟨gt, i, none⟩ = some (.int .i64 (m.to[i]'(by rw [H2.out.len]; exact hi))) := (H2.out.to_.cell i).trans (nms_get _ _ (by rw [H2.out.len]; exact hi))
  have f0 := H2.out.to_.frozen i
  have hat0 : (0 : Int) ≤ (i : Int) := by omega
  have hat1 : (i : Int) < (n : Int) := by omega
  have hbig := H2.out.big
  go_wp2_with fail
  go_region
  have H3 := Lib.hid ((H2.out.poke i (at_ : Int)).keep (Chg.refl [] _).drew)
  have HL3 := Lib.hid (show Lo B [gm, gt] W (w2.setCell ⟨gt, i, none⟩ (.int .i64 (at_ : Int))).drew from Lo.of_chg ((HC2.out.sub (T' := [gt]) (by simp)).setCell (p := ⟨gt, i, none⟩) (by simp) (.int .i64 (at_ : Int))).drew (by simp))
  have HN3 := Lib.hid (show Whole (w2.setCell ⟨gt, i, none⟩ (.int .i64 (at_ : Int))).drew g5 179 [.bool true, .int .i64 (at_ : Int), .int .i64 (wt : Int), .slice Av lf.length cv] from (HN.out.far (by have := HG.out; simp only; omega) _).drew)
  generalize (w2.setCell ⟨gt, i, none⟩ (.int .i64 (at_ : Int))).drew = w3 at H3 HL3 HN3 ⊢
  clear b0 b1 c0 t0 f0
  have b3 := HN3.out.cell 3
  have hsum : IntKind.i64.wrap ((i : Int) + 1) = (i : Int) + 1 := IntWalk.i64_in _ (by omega)
  obtain ⟨T, hT⟩ : ∃ T, T = m.to.set i (at_ : Int) := ⟨_, rfl⟩
  rw [← hT] at H3
  have HTT := Lib.hid hT
  obtain ⟨N, hN⟩ : ∃ N, N = lf.length := ⟨_, rfl⟩
  have HLF := Lib.hid (H3.out.wf _ (List.mem_append_right _ (List.mem_singleton_self _))).2.2
  have hNb : N ≤ 100000 := by have := HLF.out.1; simp only at this; omega
  rw [← hN] at b3
  have HNN := Lib.hid hN
  clear hT hN
  go_wp2_with fail
  go_loopw [8, 32] (fun _ s wr => ∃ k : Nat, k ≤ N ∧ s = .int .i64 (k : Int) ∧ Hid (Mt wr gm gt B n ⟨setAll ((i : Int) + 1) (lf.take k) T, m.deep, m.op⟩ vo (ys ++ [⟨⟨true, at_, wt, lf⟩, .slice Av lf.length cv⟩])) ∧ Hid (Lo B [gm, gt] W wr)) (fun _ s _ => N - (intOf s).toNat)
  case atStart => exact ⟨0, Nat.zero_le _, rfl, H3, HL3⟩
  case round =>
    obtain ⟨k, hk, rfl, HM, HLr⟩ := hrel
    by_cases hlt : k < N
    · have hltI : (k : Int) < (N : Int) := by omega
      have hkl : k < lf.length := by rw [← HNN.out]; exact hlt
      obtain ⟨Av', cv', e, _, _, hs, hsp⟩ := own_slice (HM.out.left _ (List.mem_append_right _ (List.mem_singleton_self _)))
      simp only at e
      injection e with e1 _ e3
      subst e1 e3
      obtain ⟨⟨bA, oA, sA⟩, rfl, _, hx⟩ := hs (by rw [nts_len]; simp only; omega)
      obtain rfl : sA = none := (hsp _ rfl).1
      have hx1 := hx k (.int .i64 ((lf[k]'hkl : Nat) : Int)) (by simp [nts, hkl])
      rw [add_plain] at hx1
      have hj := HLF.out.2 lf[k] (List.getElem_mem hkl)
      have HTK := Lib.hid (show lf.take (k + 1) = lf.take k ++ [lf[k]] by rw [List.take_succ_eq_append_getElem hkl])
      generalize lf[k] = j at hx1 hj HTK
      have hj0 : (0 : Int) ≤ (j : Int) := by omega
      have hj1 : (j : Int) < (n : Int) := by omega
      have c0 := HM.out.rec_.cell 0
      obtain ⟨T2, hT2⟩ : ∃ T9, T9 = setAll ((i : Int) + 1) (lf.take k) T := ⟨_, rfl⟩
      have HM' := HM
      rw [← hT2] at HM'
      have t0 : wr.cell? ⟨gt, j, none⟩ = some (.int .i64 (T2[j]'(by rw [HM'.out.len]; exact hj))) := (HM'.out.to_.cell j).trans (nms_get _ _ (by rw [HM'.out.len]; exact hj))
      have f0 := HM'.out.to_.frozen j
      have HMz := Lib.hid (show Mt (wr.setCell ⟨gt, j, none⟩ (.int .i64 ((i : Int) + 1))) gm gt B n ⟨setAll ((i : Int) + 1) (lf.take (k + 1)) T, m.deep, m.op⟩ vo (ys ++ [⟨⟨true, at_, wt, lf⟩, .slice (some ⟨bA, oA, none⟩) lf.length cv⟩]) from by
        have h := HM'.out.poke j ((i : Int) + 1)
        rw [HTK.out, setAll_snoc, ← hT2]
        exact h)
      have HLz := Lib.hid (show Lo B [gm, gt] W (wr.setCell ⟨gt, j, none⟩ (.int .i64 ((i : Int) + 1))) from HLr.out.trans (Lo.of_chg ((Chg.refl [gt] wr).setCell (p := ⟨gt, j, none⟩) (by simp) _) (by simp)))
      clear hx hs hsp hT2
      go_wp2_with fail
      go_roundw
      case rel => exact ⟨k + 1, by omega, by go_num, HMz, HLz⟩
      case measure => simp [intOf]; omega
    · have hltI : ¬ (k : Int) < (N : Int) := by omega
      have H3' := HM
      rw [List.take_of_length_le (by rw [← HNN.out]; omega)] at H3'
      obtain ⟨T2, hT2⟩ : ∃ T2, T2 = setAll ((i : Int) + 1) lf T := ⟨_, rfl⟩
      rw [← hT2] at H3'
      have HT2 := Lib.hid hT2
      clear hT2
      obtain ⟨A, c, rfl, hc1, hc2, _⟩ := rown_slice H3'.out.own
      have hll : (ys ++ [(⟨⟨true, at_, wt, lf⟩, .slice Av lf.length cv⟩ : PV)]).length = ys.length + 1 := by simp
      have c2 := H3'.out.rec_.cell 2
      have f2 := H3'.out.rec_.frozen 2
      rw [hll] at c2 hc1
      obtain ⟨g, rfl, _⟩ := rown_cell H3'.out.own rfl ((pvCs_get _ ys.length _ 2 (by simp) (by omega)).trans (show (pvC ⟨⟨true, at_, wt, lf⟩, .slice Av lf.length cv⟩)[2]? = some (.int .i64 (wt : Int)) from rfl))
      have H4 := Lib.hid (H3'.out.drop rfl)
      have hfew := H3'.out.few
      rw [hll] at hfew
      obtain ⟨q, hq⟩ : ∃ q, q = ys.length := ⟨_, rfl⟩
      rw [← hq] at c2 hfew H4 hc1
      have hsub : IntKind.i64.wrap (((q + 1 : Nat) : Int) - 1) = (q : Int) := by rw [IntWalk.i64_in _ (by omega)]; omega
      have hq0 : (0 : Int) ≤ (q : Int) := by omega
      have hq1 : (q : Int) < ((q + 1 : Nat) : Int) := by omega
      have hq2 : (q : Int) ≤ (c : Int) := by omega
      have hqt : (q : Int).toNat = q := Int.toNat_natCast _
      clear hq hll
      go_wp2_with fail
      go_region
      have HL4 := Lib.hid (show Lo B [gm, gt] W (wr.setCell ⟨gm, 2, none⟩ (.slice (some ⟨g, 0, none⟩) q c)).drew from HLr.out.trans (Lo.of_chg ((Chg.refl [gm] wr).setCell (p := ⟨gm, 2, none⟩) (by simp) _).drew (by simp)))
      have H5 := Lib.hid (H4.out.keep (Chg.refl [] _).drew)
      generalize (wr.setCell ⟨gm, 2, none⟩ (.slice (some ⟨g, 0, none⟩) q c)).drew = w4 at HL4 H5 ⊢
      clear c2 f2 hsub
      go_wp2_with fail
      go_ret
      have h := H5.out
      rw [HT2.out, HTT.out] at h
      exact ⟨rfl, ⟨_, _, h⟩, HL4.out⟩
end
end Go.Proofs.Ytlhkmbcjgdjegaa
namespace Go.Proofs.Ytlhkmbcjgdjegaa
open Go.RowKit
theorem leaveP_rev (i : Nat) (ys : List NPart) (x : NPart) (hx : x.loop = true) : ∀ zs : List NPart, (∀ z ∈ zs, z.loop = false) → leaveP i (zs ++ x :: ys) = some (zs ++ ⟨x.loop, x.at_, x.waits, x.left ++ [i]⟩ :: ys)
  | [], _ => by simp [leaveP, hx]
  | z :: zs, h => by
    have hz := h z (List.mem_cons_self ..)
    rw [List.cons_append, leaveP, if_neg (by simp [hz]), leaveP_rev i ys x hx zs fun y hy => h y (List.mem_cons_of_mem _ hy)]
    rfl
theorem leaveP_no (i : Nat) : ∀ zs : List NPart, (∀ z ∈ zs, z.loop = false) → leaveP i zs = none
  | [], _ => rfl
  | z :: zs, h => by
    have hz := h z (List.mem_cons_self ..)
    rw [leaveP, if_neg (by simp [hz]), leaveP_no i zs fun y hy => h y (List.mem_cons_of_mem _ hy)]
    rfl
/-- append as a step: where the row lies then is told. -/
theorem step_append_where {P : Program} {w : World} {ops : Array Oper} {o : Oper} {a : Act} {K : Act → World → Prop} {Q : Exit → Act → World → Prop} {E : Prop} (hgd : o.guard = none) (s x : Operand) (t : TypeId)
    (ho : o.op = .call { callee := .builtin .append, args := #[s, x], argTypes := #[t, t] })
    (base : Nat) (e : TypeId) (i : TypeInfo) (z : Value) (bytes : Nat) (ht : P.underlying t = some (.slice e)) (hi : P.info? e = some i) (hz : i.zero = some z)
    (hsize : i.size = 1) (hby : i.bytes = bytes) (hzs : z.cells.size = 1)
    (v : Value) (n : Nat) (xs : List Value) (hse : a.eval s = v) (hown : w.ownsRow base e 1 v n xs)
    (A : Option Addr) (m c : Nat) (news : List Value) (hxe : a.eval x = .slice A m c) (hl : news.length = m) (hs : Src w A news) (h1 : ∀ u ∈ news, u.oneCell' = true)
    (h63 : n + m ≤ maxLen) (hbytes : (n + m) * bytes ≤ 140737488355328) (hbase : base ≤ w.heap.size)
    (h : ∀ v' w', w'.ownsRow base e 1 v' (n + m) (xs ++ news) → w.grownBy w' v.ownBlock → (v'.ownBlock = v.ownBlock ∨ v'.ownBlock = some w.heap.size) → K (a.put o.dst v') w') :
    if Region.wanted o (yielded ops a.tmps) = true then Oper.wp P o a w K Q else E := by
  have hw : Region.wanted o (yielded ops a.tmps) = true := by simp [Region.wanted, hgd]
  rw [if_pos hw]
  obtain ⟨v', w', hrun, h2, h3, h4⟩ := run_append_src (P := P) w base t o.type e i z bytes ht hi hz hsize hby hzs v n xs hown A m c news hl hs h1 h63 hbytes hbase
  unfold Oper.wp execOp
  simp only [ho, resolve, invoke, builtin, Sem.run_bind, Sem.run_pure, Result.andThen_ok, List.map_toArray, List.map_cons, List.map_nil, hse, hxe, hrun]
  exact h v' w' h2 h3 h4
section
variable {W : World} {gm gt B n : Nat} {m : NSt} {vo : Value}
/-- A ~ waits in a part. -/
theorem Mt.leave {ys zs : List PV} {x : PV} {g c q i : Nat} {W1 w' : World} {v' : Value} (h : Mt W gm gt B n m vo (ys ++ x :: zs)) (hv : vo = .slice (some ⟨g, 0, none⟩) q c) (hi : i < n) (hfl : x.p.left.length < n) (hc : Chg [] W W1)
    (ho : w'.ownsRow B 3 1 v' (x.p.left.length + 1) (nts x.p.left ++ [.int .i64 (i : Int)])) (hg : W1.grownBy w' x.v.ownBlock) (hb : v'.ownBlock = x.v.ownBlock ∨ v'.ownBlock = some W1.heap.size) :
    Mt (w'.setCell ⟨g, ys.length * 4 + 3, none⟩ v') gm gt B n ⟨m.to, m.deep, (zs.map (·.p)).reverse ++ ⟨x.p.loop, x.p.at_, x.p.waits, x.p.left ++ [i]⟩ :: (ys.map (·.p)).reverse⟩ vo (ys ++ ⟨⟨x.p.loop, x.p.at_, x.p.waits, x.p.left ++ [i]⟩, v'⟩ :: zs) := by
  have h1 := h.keep hc
  subst hv
  have hxm := h1.left x (by simp)
  have hq : q = (ys ++ x :: zs).length := by
    rcases h.own.2 with ⟨e, _⟩ | ⟨_, _, _, e, _⟩
    · cases e
    · injection e
  subst hq
  have hB := (h.own.lt g rfl).1
  have hlo := h.lo
  have hopen := rown_grown h1.own hxm (by decide) hg
  have hfar : ∀ {k q2 : Nat} {u : Value} {cs : List Value}, w'.ownsRow B 3 k u q2 cs → (w'.setCell ⟨g, ys.length * 4 + 3, none⟩ v').ownsRow B 3 k u q2 cs := fun hu => rown_far hu (own_ne hopen hu (by decide) rfl)
  have hoth : ∀ y ∈ ys ++ zs, (y.v.ownBlock = none ∨ y.v.ownBlock ≠ x.v.ownBlock) := by
    have hp := h.apart
    rw [List.pairwise_append, List.pairwise_cons] at hp
    intro y hy
    rcases List.mem_append.1 hy with hy | hy
    · exact hp.2.2 y hy x (by simp)
    · rcases hp.2.1.1 y hy with h | h
      · cases hyb : y.v.ownBlock with
        | none => exact .inl rfl
        | some b => exact .inr (by rw [h]; simp)
      · exact .inr (Ne.symm h)
  have hnew : ∀ y ∈ ys ++ zs, (y.v.ownBlock = none ∨ y.v.ownBlock ≠ v'.ownBlock) := fun y hy => by
    rcases hb with e | e
    · rw [e]; exact hoth y hy
    · cases hyb : y.v.ownBlock with
      | none => exact .inl rfl
      | some b =>
        refine .inr (fun hh => ?_)
        rw [e] at hh
        injection hh with hh
        have hm : y ∈ ys ++ x :: zs := by
          rcases List.mem_append.1 hy with hy | hy
          · exact List.mem_append_left _ hy
          · exact List.mem_append_right _ (List.mem_cons_of_mem _ hy)
        have := ((h1.left y hm).lt b hyb).2
        omega
  have hleft : ∀ y ∈ ys ++ zs, (w'.setCell ⟨g, ys.length * 4 + 3, none⟩ v').ownsRow B 3 1 y.v y.p.left.length (nts y.p.left) := fun y hy => by
    have hm : y ∈ ys ++ x :: zs := by
      rcases List.mem_append.1 hy with hy | hy
      · exact List.mem_append_left _ hy
      · exact List.mem_append_right _ (List.mem_cons_of_mem _ hy)
    exact hfar ((h1.left y hm).kept hg (hoth y hy))
  refine ⟨(whole_grown h1.rec_ hxm (by decide) hg).far (by simp only; omega) _, ?_, h.len, by simp, ?_, fun y hy => ?_, ?_, h.lo, by have := h.few; simpa using this, h.deep, fun y hy => ?_, h.big, by rw [size_set]; exact Nat.le_trans h1.room hg.size⟩
  · refine Whole.far ?_ (by simp only; omega) _
    unfold Whole
    rw [hg.block gt h1.to_.lt (fun hc => by have := (hxm.lt gt hc.symm).1; omega)]
    exact h1.to_
  · have ho2 := rown_set (j := ys.length * 4 + 3) (u := v') hopen
    have e1 : (ys ++ (⟨⟨x.p.loop, x.p.at_, x.p.waits, x.p.left ++ [i]⟩, v'⟩ : PV) :: zs).length = (ys ++ x :: zs).length := by simp
    have e2 : (pvCs (ys ++ x :: zs)).set (ys.length * 4 + 3) v' = pvCs (ys ++ ⟨⟨x.p.loop, x.p.at_, x.p.waits, x.p.left ++ [i]⟩, v'⟩ :: zs) := by
      rw [pvCs_app, pvCs_app, pvCs, pvCs, List.set_append_right _ _ (by rw [pvCs_len]; omega), pvCs_len]
      rw [show ys.length * 4 + 3 - ys.length * 4 = 3 by omega]
      rfl
    rw [e1, ← e2]
    exact ho2
  · rcases List.mem_append.1 hy with hy | hy
    · exact hleft y (List.mem_append_left _ hy)
    · rcases List.mem_cons.1 hy with rfl | hy
      · have := hfar ho
        simp only [nts_app, List.length_append, List.length_cons, List.length_nil]
        exact this
      · exact hleft y (List.mem_append_right _ hy)
  · have hp := h.apart
    rw [List.pairwise_append, List.pairwise_cons] at hp ⊢
    refine ⟨hp.1, ⟨fun z hz => ?_, hp.2.1.2⟩, fun y hy z hz => ?_⟩
    · rcases hnew z (List.mem_append_right _ hz) with h | h
      · cases hvb : v'.ownBlock with
        | none => exact .inl (by simp)
        | some b => exact .inr (by simp [h])
      · exact .inr (Ne.symm h)
    · rcases List.mem_cons.1 hz with rfl | hz
      · exact hnew y (List.mem_append_left _ hy)
      · exact hp.2.2 y hy z (List.mem_cons_of_mem _ hz)
  · rcases List.mem_append.1 hy with hy | hy
    · exact h.wf y (List.mem_append_left _ hy)
    · rcases List.mem_cons.1 hy with rfl | hy
      · have := h.wf x (by simp)
        refine ⟨this.1, this.2.1, by simp only [List.length_append, List.length_cons, List.length_nil]; omega, fun j hj => ?_⟩
        rcases List.mem_append.1 hj with hj | hj
        · exact this.2.2.2 j hj
        · simp only [List.mem_cons, List.not_mem_nil, or_false] at hj
          rw [hj]; exact hi
      · exact h.wf y (by simp [hy])
set_option maxHeartbeats 2000000 in
theorem leave_no {xs : List PV} (h : Mt W gm gt B n m vo xs) (hn : ∀ x ∈ xs, x.p.loop = false) (i : Nat) : Calls Try.prog 130 #[.pointer (some ⟨gm, 0, none⟩), .int .i64 (i : Int)] W (BoolPost false W) := by
  have c2 := h.rec_.cell 2
  obtain ⟨A, c, rfl, hc1, hc2, _⟩ := rown_slice h.own
  have H := Lib.hid h
  have HN := Lib.hid hn
  have hfew := h.few
  obtain ⟨q, hq⟩ : ∃ q, q = xs.length := ⟨_, rfl⟩
  rw [← hq] at c2 hfew hc1
  have HQ := Lib.hid hq
  clear h hn hq
  have hsub : ∀ k : Nat, k ≤ 17 → IntKind.i64.wrap ((k : Int) - 1) = (k : Int) - 1 := fun k hk => IntWalk.i64_in _ (by omega)
  have hsq := hsub q (by omega)
  have HSUB := Lib.hid hsub
  clear hsub
  go_enter Try.func130, Try.ntmps130
  go_wp2_with fail
  go_loop [5] (fun s => ∃ k : Nat, k ≤ q ∧ s = .int .i64 ((k : Int) - 1)) (fun s => (intOf s + 1).toNat)
  case atStart => exact ⟨q, Nat.le_refl _, rfl⟩
  case round =>
    obtain ⟨k, hk, rfl⟩ := hrel
    by_cases hlt : 0 < k
    · obtain ⟨j, rfl⟩ : ∃ j, k = j + 1 := ⟨k - 1, by omega⟩
      have he : ((j + 1 : Nat) : Int) - 1 = (j : Int) := by omega
      rw [he]
      have hj0 : (0 : Int) ≤ (j : Int) := by omega
      have hj1 : (j : Int) < (q : Int) := by omega
      have hjx : j < xs.length := by rw [← HQ.out]; omega
      have hlp := HN.out xs[j] (List.getElem_mem hjx)
      obtain ⟨g, rfl, j0⟩ := rown_cell H.out.own (by rw [← HQ.out]) ((pvCs_get xs j xs[j] 0 (List.getElem?_eq_getElem hjx) (by omega)).trans (show (pvC xs[j])[0]? = some (.bool xs[j].p.loop) from rfl))
      rw [Nat.add_zero, hlp] at j0
      have hsj := HSUB.out j (by omega)
      clear hlp hsq
      go_wp2_with fail
      go_round
      case rel => exact ⟨j, by omega, rfl⟩
      case measure => simp [intOf]
    · obtain rfl : k = 0 := by omega
      have hz : ¬ (0 : Int) ≤ ((0 : Nat) : Int) - 1 := by omega
      go_wp2_with fail
      go_ret
      exact ⟨rfl, Chg.refl _ _⟩
set_option maxHeartbeats 4000000 in
set_option maxRecDepth 100000 in
theorem leave_yes {ys zs : List PV} {x : PV} (h : Mt W gm gt B n m vo (ys ++ x :: zs)) (hl : x.p.loop = true) (hn : ∀ z ∈ zs, z.p.loop = false) (i : Nat) (hi : i < n) (hfl : x.p.left.length < n) : Calls Try.prog 130 #[.pointer (some ⟨gm, 0, none⟩), .int .i64 (i : Int)] W
    (NextPost8 gm gt B n ⟨m.to, m.deep, (zs.map (·.p)).reverse ++ ⟨x.p.loop, x.p.at_, x.p.waits, x.p.left ++ [i]⟩ :: (ys.map (·.p)).reverse⟩ W) := by
  have HHL := Lib.hid hl
  clear hl
  have c2 := h.rec_.cell 2
  obtain ⟨A, c, rfl, hc1, hc2, _⟩ := rown_slice h.own
  have H := Lib.hid h
  have HN := Lib.hid hn
  obtain ⟨i0, hi0, hz0, hz1, hz2⟩ := info_parts info_int
  have hfew := h.few
  obtain ⟨q, hq⟩ : ∃ q, q = (ys ++ x :: zs).length := ⟨_, rfl⟩
  obtain ⟨b, hb⟩ : ∃ b, b = ys.length := ⟨_, rfl⟩
  have hbq : b < q := by rw [hb, hq]; simp
  have hxb : (ys ++ x :: zs)[b]? = some x := by rw [hb]; simp
  have hzs : ∀ (j : Nat) (hj : j < (ys ++ x :: zs).length), b < j → ((ys ++ x :: zs)[j]).p.loop = false := fun j hj hbj => by
    have : (ys ++ x :: zs)[j] ∈ zs := by
      rw [List.getElem_append_right (by omega)]
      obtain ⟨d, hd⟩ : ∃ d, j - ys.length = d + 1 := ⟨j - ys.length - 1, by omega⟩
      simp only [hd, List.getElem_cons_succ]
      exact List.getElem_mem _
    exact hn _ this
  rw [← hq] at c2 hfew hc1
  have HQ := Lib.hid hq
  have HBB := Lib.hid hb
  have HXB := Lib.hid hxb
  have HZS := Lib.hid hzs
  clear h hn hq hb hxb hzs
  have hsub : ∀ k : Nat, k ≤ 17 → IntKind.i64.wrap ((k : Int) - 1) = (k : Int) - 1 := fun k hk => IntWalk.i64_in _ (by omega)
  have hsq := hsub q (by omega)
  have HSUB := Lib.hid hsub
  clear hsub
  go_enter Try.func130, Try.ntmps130
  go_wp2_with fail
  go_loop [5] (fun s => ∃ k : Nat, k ≤ q ∧ b < k ∧ s = .int .i64 ((k : Int) - 1)) (fun s => (intOf s + 1).toNat)
  case atStart => exact ⟨q, Nat.le_refl _, hbq, rfl⟩
  case round =>
    obtain ⟨k, hk, hbk, rfl⟩ := hrel
    obtain ⟨j, rfl⟩ : ∃ j, k = j + 1 := ⟨k - 1, by omega⟩
    have he : ((j + 1 : Nat) : Int) - 1 = (j : Int) := by omega
    rw [he]
    have hj0 : (0 : Int) ≤ (j : Int) := by omega
    have hj1 : (j : Int) < (q : Int) := by omega
    by_cases hlt : b < j
    · have hjx : j < (ys ++ x :: zs).length := by rw [← HQ.out]; omega
      have hlp := HZS.out j hjx hlt
      obtain ⟨g, rfl, j0⟩ := rown_cell H.out.own (by rw [← HQ.out]) ((pvCs_get _ j (ys ++ x :: zs)[j] 0 (List.getElem?_eq_getElem hjx) (by omega)).trans (show (pvC (ys ++ x :: zs)[j])[0]? = some (.bool (ys ++ x :: zs)[j].p.loop) from rfl))
      rw [Nat.add_zero, hlp] at j0
      have hsj := HSUB.out j (by omega)
      clear hlp hsq
      go_wp2_with fail
      go_round
      case rel => exact ⟨j, by omega, by omega, rfl⟩
      case measure => simp [intOf]
    · obtain rfl : b = j := by omega
      obtain ⟨g, rfl, j0⟩ := rown_cell H.out.own (by rw [← HQ.out]) ((pvCs_get _ b x 0 HXB.out (by omega)).trans (show (pvC x)[0]? = some (.bool x.p.loop) from rfl))
      obtain ⟨g', e, j3⟩ := rown_cell H.out.own (by rw [← HQ.out]) ((pvCs_get _ b x 3 HXB.out (by omega)).trans (show (pvC x)[3]? = some x.v from rfl))
      injection e with e; injection e with e; subst e
      rw [Nat.add_zero, HHL.out] at j0
      have hxm := H.out.left x (by simp)
      obtain ⟨Av, cv, e, _⟩ := own_slice hxm
      rw [e] at j3 hxm
      have HE := Lib.hid e
      have HXM := Lib.hid hxm
      have hLL := (H.out.wf x (by simp)).2.2.1
      have hbig := H.out.big
      have hBW : B ≤ W.heap.size := Nat.le_trans (H.out.own.lt g rfl).1 (Nat.le_of_lt (H.out.own.lt g rfl).2)
      clear e hxm hsq
      have q3 : (W.alloc (.cells #[.int .i64 (i : Int)] 3)).cell? ⟨g, b * 4 + 3, none⟩ = some (.slice Av x.p.left.length cv) := cell_keep j3 ((Chg.refl [] W).alloc _)
      have q2 : (W.alloc (.cells #[.int .i64 (i : Int)] 3)).cell? ⟨gm, 2, none⟩ = some (.slice (some ⟨g, 0, none⟩) q c) := cell_keep (by simpa using c2) ((Chg.refl [] W).alloc _)
      go_wp2_with fail
      go_region_law (
        (refine step_append_where rfl (.tmp 36) (.tmp 38) 56 rfl B 3 i0 _ 8 Try.underlying56 hi0 hz0 hz1 hz2 rfl (.slice Av x.p.left.length cv) x.p.left.length (nts x.p.left) rfl (own_keep HXM.out (((Chg.refl [] W).alloc _).drew)) (some ⟨W.heap.size, 0, none⟩) 1 1 [.int .i64 (i : Int)] rfl rfl ((Src.of_all (Whole.new W 3 [.int .i64 (i : Int)])).drew) (by simp [Value.oneCell']) (by unfold maxLen; omega) (by omega) (by simp; omega) ?_
         intro v' w' ho hg hwb
         obtain ⟨A', c', rfl, _⟩ := own_slice ho
         have HO := Lib.hid ho
         have HGR := Lib.hid hg
         have HAL := Lib.hid (show Chg [] W (W.alloc (.cells #[.int .i64 (i : Int)] 3)).drew from ((Chg.refl [] W).alloc _).drew)
         have HO2 := Lib.hid (rown_grown (rown_keep H.out.own HAL.out) (own_keep HXM.out HAL.out) (by decide) hg)
         obtain ⟨g', e, k3⟩ := rown_cell HO2.out (by rw [← HQ.out]) ((pvCs_get _ b x 3 HXB.out (by omega)).trans (show (pvC x)[3]? = some x.v from rfl))
         injection e with e; injection e with e; subst e
         have kf : w'.frozen? ⟨g, b * 4 + 3, none⟩ = false := by
           have h := HO2.out
           rw [← HQ.out] at h
           exact rown_frozen h
         have k2 : w'.cell? ⟨gm, 2, none⟩ = some (.slice (some ⟨g, 0, none⟩) q c) := by
           have h := (whole_grown (H.out.rec_.keep HAL.out) (own_keep HXM.out HAL.out) (by decide) hg).cell 2
           rw [← HQ.out] at h
           simpa using h
         have HWB := Lib.hid hwb
         have hsv : (∀ j, w'.heap.size = j → True) := fun _ _ => trivial
         clear ho hg hwb hsv))
      all_goals
        have HM := Lib.hid (H.out.leave rfl hi hfl HAL.out HO.out (by rw [HE.out]; exact HGR.out) (by rw [HE.out]; exact HWB.out))
        rw [← HBB.out] at HM
        have HL := Lib.hid (show Lo B [gm, gt] W (w'.setCell ⟨g, b * 4 + 3, none⟩ (.slice A' (x.p.left.length + 1) c')) from ((Lo.of_chg HAL.out (by simp)).trans (Lo.of_grown (own_keep HXM.out HAL.out) (Nat.le_refl _) HGR.out)).trans (Lo.of_chg ((Chg.refl [g] w').setCell (p := ⟨g, b * 4 + 3, none⟩) (by simp) _) (by have := (H.out.own.lt g rfl).1; simp; omega)))
        generalize w'.setCell ⟨g, b * 4 + 3, none⟩ (.slice A' (x.p.left.length + 1) c') = w9 at HM HL ⊢
        clear k2 k3 kf
        go_wp2_with fail
        go_ret
        exact ⟨rfl, ⟨_, _, HM.out⟩, HL.out⟩
end
end Go.Proofs.Ytlhkmbcjgdjegaa
namespace Go.Proofs.Ytlhkmbcjgdjegaa
open Go.RowKit
section
variable {W : World} {gm gt B n : Nat} {m : NSt} {vo : Value} {xs : List PV}
/-- A part is opened. -/
theorem Mt.push {W1 w' : World} {v' : Value} {lp : Bool} {i : Nat} (h : Mt W gm gt B n m vo xs) (hc : Chg [] W W1) (hi : i < n) (hn : xs.length < 16)
    (ho : w'.ownsRow B 179 4 v' (xs.length + 1) (pvCs xs ++ [.bool lp, .int .i64 (i : Int), .int .i64 (i : Int), .slice none 0 0])) (hg : W1.grownBy w' vo.ownBlock) :
    Mt (w'.setCell ⟨gm, 2, none⟩ v') gm gt B n ⟨m.to, m.deep, ⟨lp, i, i, []⟩ :: m.op⟩ v' (xs ++ [⟨⟨lp, i, i, []⟩, .slice none 0 0⟩]) := by
  have h1 := h.keep hc
  have hlo := h.lo
  have hown : ∀ {e k q : Nat} {v : Value} {cs : List Value}, w'.ownsRow B e k v q cs → v.ownBlock ≠ some gm := fun ho hc => by
    have := (ho.lt gm hc).1; omega
  have hw : Whole w' gm 167 [.slice (some ⟨gt, 0, none⟩) n n, .int .i64 (m.deep : Int), vo] := whole_grown h1.rec_ h1.own (by decide) hg
  refine ⟨?_, (whole_grown h1.to_ h1.own (by decide) hg).far (by simp only; omega) _, h.len, by rw [h.op]; simp, ?_, fun y hy => ?_, ?_, h.lo, by simp; omega, h.deep, fun y hy => ?_, h.big, by rw [size_set]; exact Nat.le_trans h1.room hg.size⟩
  · have := hw.set_ 2 v'
    simpa using this
  · have ho2 := rown_far (u := v') (p := ⟨gm, 2, none⟩) ho (hown ho)
    rw [List.length_append, pvCs_app, pvCs_one]
    exact ho2
  · rcases List.mem_append.1 hy with hy | hy
    · have := rown_grown (h1.left y hy) h1.own (by decide) hg
      exact rown_far this (hown this)
    · simp only [List.mem_cons, List.not_mem_nil, or_false] at hy
      subst hy
      exact ⟨rfl, .inl ⟨rfl, rfl⟩⟩
  · rw [List.pairwise_append]
    refine ⟨h.apart, List.pairwise_singleton _ _, fun y hy z hz => ?_⟩
    simp only [List.mem_cons, List.not_mem_nil, or_false] at hz
    subst hz
    cases hy2 : y.v.ownBlock with
    | none => exact .inl rfl
    | some b => exact .inr (by simp [Value.ownBlock])
  · rcases List.mem_append.1 hy with hy | hy
    · exact h.wf y hy
    · simp only [List.mem_cons, List.not_mem_nil, or_false] at hy
      subst hy
      exact ⟨hi, hi, Nat.zero_le _, fun j hj => by cases hj⟩
/-- How deep. -/
theorem Mt.deeper (h : Mt W gm gt B n m vo xs) (d : Nat) (hd : d ≤ 16) : Mt (W.setCell ⟨gm, 1, none⟩ (.int .i64 (d : Int))) gm gt B n ⟨m.to, d, m.op⟩ vo xs := by
  have hlo := h.lo
  have hown : ∀ {e k q : Nat} {v : Value} {cs : List Value}, W.ownsRow B e k v q cs → v.ownBlock ≠ some gm := fun ho hc => by
    have := (ho.lt gm hc).1; omega
  refine { h with rec_ := ?_, to_ := h.to_.far (by simp only; omega) _, own := rown_far h.own (hown h.own), left := fun y hy => rown_far (h.left y hy) (hown (h.left y hy)), deep := hd, room := by rw [size_set]; exact h.room }
  have := h.rec_.set_ 1 (.int .i64 (d : Int))
  simpa using this
theorem info_part : (Try.prog.info? 179).map (fun i => (i.zero, i.size, i.bytes)) = some (some (.agg #[.bool false, .int .i64 0, .int .i64 0, .slice none 0 0]), 4, 48) := by kernel_rfl
/-- What a token does. -/
def TakePost8 (gm gt B n i : Nat) (s : Int) (m : NSt) (W : World) (e : Ending) (w' : World) : Prop :=
  (∃ m', nTake i s m = some m' ∧ NextPost8 gm gt B n m' W e w') ∨ (nTake i s m = none ∧ e = .returned (.bool false) ∧ Lo B [gm, gt] W w')
set_option maxHeartbeats 4000000 in
set_option maxRecDepth 100000 in
theorem take_if (h : Mt W gm gt B n m vo xs) (i : Nat) (hi : i < n) : Calls Try.prog 116 #[.pointer (some ⟨gm, 0, none⟩), .int .i64 (i : Int), .int .i32 63] W (TakePost8 gm gt B n i 63 m W) := by
  obtain ⟨i0, hi0, hz0, hz1, hz2⟩ := info_parts info_part
  have hBW := h.room
  obtain ⟨A, c, rfl, hc1, hc2, _⟩ := rown_slice h.own
  have c2 := h.rec_.cell 2
  have hfew := h.few
  have hop : m.op.length = xs.length := by rw [h.op]; simp
  have hdp := h.deep
  have H := Lib.hid h
  obtain ⟨q, hq⟩ : ∃ q, q = xs.length := ⟨_, rfl⟩
  rw [← hq] at c2 hfew hc1
  have HQ := Lib.hid hq
  have HOP := Lib.hid hop
  have HDP := Lib.hid hdp
  have hal : Chg [] W (W.alloc (.cells #[.bool false, .int .i64 (i : Int), .int .i64 (i : Int), .slice none 0 0] 179)) := (Chg.refl [] W).alloc _
  have HAL := Lib.hid hal
  have HO1 := Lib.hid (show (W.alloc (.cells #[.bool false, .int .i64 (i : Int), .int .i64 (i : Int), .slice none 0 0] 179)).ownsRow B 179 4 (.slice A q c) q (pvCs xs) from by
    have h := rown_keep H.out.own hal
    rw [← hq] at h
    exact h)
  have q2 : (W.alloc (.cells #[.bool false, .int .i64 (i : Int), .int .i64 (i : Int), .slice none 0 0] 179)).cell? ⟨gm, 2, none⟩ = some (.slice A q c) := cell_keep (by simpa using c2) hal
  clear h hq hop hdp hal
  go_enter Try.func116, Try.ntmps116
  go_wp2_with (at_builtin
               refine wpList_append_own _ rfl (.tmp 15) (.tmp 21) _ rfl B 179 i0 _ 4 48 Try.underlying165 hi0 hz0 hz1 hz2 rfl (by decide) (.slice A q c) q (pvCs xs) rfl HO1.out ⟨W.heap.size, 0, none⟩ 1 1 [.bool false, .int .i64 (i : Int), .int .i64 (i : Int), .slice none 0 0] rfl rfl ?c1 ?c2 ?c3 ?c4 ?c5 ?_
               case c1 => exact cells_page _ _ _
               case c2 => simp [Value.oneCell']
               case c3 => simp only [maxLen]; omega
               case c4 => omega
               case c5 => simp; omega
               intro v' w6 ho6 hg6 _
               obtain ⟨A6, c6, rfl, hc61, _, _⟩ := rown_slice ho6
               have HO6 := Lib.hid ho6
               have HG6 := Lib.hid hg6
               have HW6 := Lib.hid (whole_grown (H.out.rec_.keep HAL.out) HO1.out (by decide) hg6)
               have k2 : w6.cell? ⟨gm, 2, none⟩ = some (.slice A q c) := by
                 have h := HW6.out.cell 2
                 rw [← HQ.out] at h
                 simpa using h
               have f2 := HW6.out.frozen 2
               clear ho6 hg6)
  go_upto_region 5 with fail
  have HW7 := Lib.hid (HW6.out.set_ 2 (.slice A6 (q + 1) c6))
  simp only [List.set_cons_zero, List.set_cons_succ] at HW7
  have HL7 := Lib.hid (show Lo B [gm, gt] W (w6.setCell ⟨gm, 2, none⟩ (.slice A6 (q + 1) c6)) from ((Lo.of_chg HAL.out (by simp)).trans (Lo.of_grown HO1.out (Nat.le_refl _) HG6.out)).trans (Lo.of_chg ((Chg.refl [gm] w6).setCell (p := ⟨gm, 2, none⟩) (by simp) _) (by simp)))
  have HM7 := Lib.hid (fun hq16 : xs.length < 16 => show Mt (w6.setCell ⟨gm, 2, none⟩ (.slice A6 (q + 1) c6)) gm gt B n ⟨m.to, m.deep, ⟨false, i, i, []⟩ :: m.op⟩ (.slice A6 (q + 1) c6) (xs ++ [⟨⟨false, i, i, []⟩, .slice none 0 0⟩]) from H.out.push HAL.out hi hq16 (by rw [← HQ.out]; exact HO6.out) (by rw [← HQ.out]; exact HG6.out))
  generalize w6.setCell ⟨gm, 2, none⟩ (.slice A6 (q + 1) c6) = w7 at HW7 HL7 HM7 ⊢
  clear k2 f2 c2 q2
  have k1 := HW7.out.cell 1
  have k2 := HW7.out.cell 2
  have f1 := HW7.out.frozen 1
  go_wp2_with fail
  go_region
  have hmx : max (m.deep : Int) ((q : Int) + 1) = ((max m.deep (q + 1) : Nat) : Int) := by omega
  rw [hmx]
  clear hmx
  have HL8 := Lib.hid (show Lo B [gm, gt] W (w7.setCell ⟨gm, 1, none⟩ (.int .i64 ((max m.deep (q + 1) : Nat) : Int))).drew from HL7.out.trans (Lo.of_chg ((Chg.refl [gm] w7).setCell (p := ⟨gm, 1, none⟩) (by simp) _).drew (by simp)))
  have HW8 := Lib.hid (HW7.out.set_ 1 (.int .i64 ((max m.deep (q + 1) : Nat) : Int))).drew
  have HM8 := Lib.hid (fun hq16 : xs.length < 16 => (((HM7.out hq16).deeper (max m.deep (q + 1)) (by have := HDP.out; have := HQ.out; omega)).keep (Chg.refl [] _).drew))
  generalize (w7.setCell ⟨gm, 1, none⟩ (.int .i64 ((max m.deep (q + 1) : Nat) : Int))).drew = w8 at HL8 HW8 HM8 ⊢
  clear k1 k2 f1
  have k2 := HW8.out.cell 2
  by_cases hq16 : q < 16
  · have hle : (q : Int) + 1 ≤ 16 := by omega
    have HPO := Lib.hid (show TakePost8 gm gt B n i 63 m W (.returned (.bool true)) w8 from .inl ⟨_, by unfold nTake; rw [if_pos (by decide), HOP.out, ← HQ.out, if_pos (by omega)]; rfl, rfl, ⟨_, _, HM8.out (by rw [← HQ.out]; exact hq16)⟩, HL8.out⟩)
    go_wp2_with fail
    go_ret
    exact HPO.out
  · have hle : ¬ (q : Int) + 1 ≤ 16 := by omega
    have HPO := Lib.hid (show TakePost8 gm gt B n i 63 m W (.returned (.bool false)) w8 from .inr ⟨by unfold nTake; rw [if_pos (by decide), HOP.out, ← HQ.out, if_neg (by omega)], rfl, HL8.out⟩)
    go_wp2_with fail
    go_ret
    exact HPO.out
set_option maxHeartbeats 4000000 in
set_option maxRecDepth 100000 in
theorem take_loop (h : Mt W gm gt B n m vo xs) (i : Nat) (hi : i < n) : Calls Try.prog 116 #[.pointer (some ⟨gm, 0, none⟩), .int .i64 (i : Int), .int .i32 91] W (TakePost8 gm gt B n i 91 m W) := by
  obtain ⟨i0, hi0, hz0, hz1, hz2⟩ := info_parts info_part
  have hBW := h.room
  obtain ⟨A, c, rfl, hc1, hc2, _⟩ := rown_slice h.own
  have c2 := h.rec_.cell 2
  have hfew := h.few
  have hop : m.op.length = xs.length := by rw [h.op]; simp
  have hdp := h.deep
  have H := Lib.hid h
  obtain ⟨q, hq⟩ : ∃ q, q = xs.length := ⟨_, rfl⟩
  rw [← hq] at c2 hfew hc1
  have HQ := Lib.hid hq
  have HOP := Lib.hid hop
  have HDP := Lib.hid hdp
  have hal : Chg [] W (W.alloc (.cells #[.bool true, .int .i64 (i : Int), .int .i64 (i : Int), .slice none 0 0] 179)) := (Chg.refl [] W).alloc _
  have HAL := Lib.hid hal
  have HO1 := Lib.hid (show (W.alloc (.cells #[.bool true, .int .i64 (i : Int), .int .i64 (i : Int), .slice none 0 0] 179)).ownsRow B 179 4 (.slice A q c) q (pvCs xs) from by
    have h := rown_keep H.out.own hal
    rw [← hq] at h
    exact h)
  have q2 : (W.alloc (.cells #[.bool true, .int .i64 (i : Int), .int .i64 (i : Int), .slice none 0 0] 179)).cell? ⟨gm, 2, none⟩ = some (.slice A q c) := cell_keep (by simpa using c2) hal
  clear h hq hop hdp hal
  go_enter Try.func116, Try.ntmps116
  go_wp2_with (at_builtin
               refine wpList_append_own _ rfl (.tmp 15) (.tmp 21) _ rfl B 179 i0 _ 4 48 Try.underlying165 hi0 hz0 hz1 hz2 rfl (by decide) (.slice A q c) q (pvCs xs) rfl HO1.out ⟨W.heap.size, 0, none⟩ 1 1 [.bool true, .int .i64 (i : Int), .int .i64 (i : Int), .slice none 0 0] rfl rfl ?c1 ?c2 ?c3 ?c4 ?c5 ?_
               case c1 => exact cells_page _ _ _
               case c2 => simp [Value.oneCell']
               case c3 => simp only [maxLen]; omega
               case c4 => omega
               case c5 => simp; omega
               intro v' w6 ho6 hg6 _
               obtain ⟨A6, c6, rfl, hc61, _, _⟩ := rown_slice ho6
               have HO6 := Lib.hid ho6
               have HG6 := Lib.hid hg6
               have HW6 := Lib.hid (whole_grown (H.out.rec_.keep HAL.out) HO1.out (by decide) hg6)
               have k2 : w6.cell? ⟨gm, 2, none⟩ = some (.slice A q c) := by
                 have h := HW6.out.cell 2
                 rw [← HQ.out] at h
                 simpa using h
               have f2 := HW6.out.frozen 2
               clear ho6 hg6)
  go_upto_region 5 with fail
  have HW7 := Lib.hid (HW6.out.set_ 2 (.slice A6 (q + 1) c6))
  simp only [List.set_cons_zero, List.set_cons_succ] at HW7
  have HL7 := Lib.hid (show Lo B [gm, gt] W (w6.setCell ⟨gm, 2, none⟩ (.slice A6 (q + 1) c6)) from ((Lo.of_chg HAL.out (by simp)).trans (Lo.of_grown HO1.out (Nat.le_refl _) HG6.out)).trans (Lo.of_chg ((Chg.refl [gm] w6).setCell (p := ⟨gm, 2, none⟩) (by simp) _) (by simp)))
  have HM7 := Lib.hid (fun hq16 : xs.length < 16 => show Mt (w6.setCell ⟨gm, 2, none⟩ (.slice A6 (q + 1) c6)) gm gt B n ⟨m.to, m.deep, ⟨true, i, i, []⟩ :: m.op⟩ (.slice A6 (q + 1) c6) (xs ++ [⟨⟨true, i, i, []⟩, .slice none 0 0⟩]) from H.out.push HAL.out hi hq16 (by rw [← HQ.out]; exact HO6.out) (by rw [← HQ.out]; exact HG6.out))
  generalize w6.setCell ⟨gm, 2, none⟩ (.slice A6 (q + 1) c6) = w7 at HW7 HL7 HM7 ⊢
  clear k2 f2 c2 q2
  have k1 := HW7.out.cell 1
  have k2 := HW7.out.cell 2
  have f1 := HW7.out.frozen 1
  go_wp2_with fail
  go_region
  have hmx : max (m.deep : Int) ((q : Int) + 1) = ((max m.deep (q + 1) : Nat) : Int) := by omega
  rw [hmx]
  clear hmx
  have HL8 := Lib.hid (show Lo B [gm, gt] W (w7.setCell ⟨gm, 1, none⟩ (.int .i64 ((max m.deep (q + 1) : Nat) : Int))).drew from HL7.out.trans (Lo.of_chg ((Chg.refl [gm] w7).setCell (p := ⟨gm, 1, none⟩) (by simp) _).drew (by simp)))
  have HW8 := Lib.hid (HW7.out.set_ 1 (.int .i64 ((max m.deep (q + 1) : Nat) : Int))).drew
  have HM8 := Lib.hid (fun hq16 : xs.length < 16 => (((HM7.out hq16).deeper (max m.deep (q + 1)) (by have := HDP.out; have := HQ.out; omega)).keep (Chg.refl [] _).drew))
  generalize (w7.setCell ⟨gm, 1, none⟩ (.int .i64 ((max m.deep (q + 1) : Nat) : Int))).drew = w8 at HL8 HW8 HM8 ⊢
  clear k1 k2 f1
  have k2 := HW8.out.cell 2
  by_cases hq16 : q < 16
  · have hle : (q : Int) + 1 ≤ 16 := by omega
    have HPO := Lib.hid (show TakePost8 gm gt B n i 91 m W (.returned (.bool true)) w8 from .inl ⟨_, by unfold nTake; rw [if_pos (by decide), HOP.out, ← HQ.out, if_pos (by omega)]; rfl, rfl, ⟨_, _, HM8.out (by rw [← HQ.out]; exact hq16)⟩, HL8.out⟩)
    go_wp2_with fail
    go_ret
    exact HPO.out
  · have hle : ¬ (q : Int) + 1 ≤ 16 := by omega
    have HPO := Lib.hid (show TakePost8 gm gt B n i 91 m W (.returned (.bool false)) w8 from .inr ⟨by unfold nTake; rw [if_pos (by decide), HOP.out, ← HQ.out, if_neg (by omega)], rfl, HL8.out⟩)
    go_wp2_with fail
    go_ret
    exact HPO.out
set_option maxHeartbeats 1000000 in
theorem take_halve {i : Nat} {Q : Bool → World → Prop} (h : Calls Try.prog 127 #[.pointer (some ⟨gm, 0, none⟩), .int .i64 (i : Int)] W fun e w' => ∃ b, e = .returned (.bool b) ∧ Hid (Q b w')) :
    Calls Try.prog 116 #[.pointer (some ⟨gm, 0, none⟩), .int .i64 (i : Int), .int .i32 58] W fun e w' => ∃ b, e = .returned (.bool b) ∧ Hid (Q b w') := by
  go_enter Try.func116, Try.ntmps116
  go_wp2_with fail
  refine h.mono ?_
  rintro e w1 ⟨b, rfl, hq⟩
  clear h
  go_wp2_with fail
  go_ret
  exact ⟨_, rfl, hq⟩
set_option maxHeartbeats 1000000 in
theorem take_endIf {i : Nat} {Q : Bool → World → Prop} (h : Calls Try.prog 128 #[.pointer (some ⟨gm, 0, none⟩), .int .i64 (i : Int)] W fun e w' => ∃ b, e = .returned (.bool b) ∧ Hid (Q b w')) :
    Calls Try.prog 116 #[.pointer (some ⟨gm, 0, none⟩), .int .i64 (i : Int), .int .i32 59] W fun e w' => ∃ b, e = .returned (.bool b) ∧ Hid (Q b w') := by
  go_enter Try.func116, Try.ntmps116
  go_wp2_with fail
  refine h.mono ?_
  rintro e w1 ⟨b, rfl, hq⟩
  clear h
  go_wp2_with fail
  go_ret
  exact ⟨_, rfl, hq⟩
set_option maxHeartbeats 1000000 in
theorem take_endLoop {i : Nat} {Q : Bool → World → Prop} (h : Calls Try.prog 129 #[.pointer (some ⟨gm, 0, none⟩), .int .i64 (i : Int)] W fun e w' => ∃ b, e = .returned (.bool b) ∧ Hid (Q b w')) :
    Calls Try.prog 116 #[.pointer (some ⟨gm, 0, none⟩), .int .i64 (i : Int), .int .i32 93] W fun e w' => ∃ b, e = .returned (.bool b) ∧ Hid (Q b w') := by
  go_enter Try.func116, Try.ntmps116
  go_wp2_with fail
  refine h.mono ?_
  rintro e w1 ⟨b, rfl, hq⟩
  clear h
  go_wp2_with fail
  go_ret
  exact ⟨_, rfl, hq⟩
set_option maxHeartbeats 1000000 in
theorem take_leave {i : Nat} {Q : Bool → World → Prop} (h : Calls Try.prog 130 #[.pointer (some ⟨gm, 0, none⟩), .int .i64 (i : Int)] W fun e w' => ∃ b, e = .returned (.bool b) ∧ Hid (Q b w')) :
    Calls Try.prog 116 #[.pointer (some ⟨gm, 0, none⟩), .int .i64 (i : Int), .int .i32 126] W fun e w' => ∃ b, e = .returned (.bool b) ∧ Hid (Q b w') := by
  go_enter Try.func116, Try.ntmps116
  go_wp2_with fail
  refine h.mono ?_
  rintro e w1 ⟨b, rfl, hq⟩
  clear h
  go_wp2_with fail
  go_ret
  exact ⟨_, rfl, hq⟩
set_option maxHeartbeats 1000000 in
theorem take_plain {i : Nat} (s : Int) (h1 : s ≠ 63) (h2 : s ≠ 91) (h3 : s ≠ 58) (h4 : s ≠ 59) (h5 : s ≠ 93) (h6 : s ≠ 126) :
    Calls Try.prog 116 #[.pointer (some ⟨gm, 0, none⟩), .int .i64 (i : Int), .int .i32 s] W fun e w' => e = .returned (.bool true) ∧ W = w' := by
  have k1 : (s == 63) = false := by simpa using h1
  have k2 : (s == 91) = false := by simpa using h2
  have k3 : (s == 58) = false := by simpa using h3
  have k4 : (s == 59) = false := by simpa using h4
  have k5 : (s == 93) = false := by simpa using h5
  have k6 : (s == 126) = false := by simpa using h6
  clear h1 h2 h3 h4 h5 h6
  go_enter Try.func116, Try.ntmps116
  go_wp2_with fail
  go_ret
  exact ⟨rfl, rfl⟩
/-- No part has more ~ than there were tokens. -/
def Few (i : Nat) (m : NSt) : Prop := ∀ p ∈ m.op, p.left.length ≤ i
theorem few_leave {i : Nat} : ∀ {l o : List NPart}, (∀ p ∈ l, p.left.length ≤ i) → leaveP i l = some o → ∀ p ∈ o, p.left.length ≤ i + 1 := fun {l o} h ho => by
  obtain ⟨a, p, r, rfl, _, _, rfl⟩ := leaveP_split ho
  intro q hq
  rcases List.mem_append.1 hq with hq | hq
  · have := h q (List.mem_append_left _ hq); omega
  · rcases List.mem_cons.1 hq with rfl | hq
    · have := h p (by simp); simp; omega
    · have := h q (by simp [hq]); omega
theorem few_take {i : Nat} {s : Int} {m m' : NSt} (h : Few i m) (ht : nTake i s m = some m') : Few (i + 1) m' := by
  have hm : ∀ p ∈ m.op, p.left.length ≤ i + 1 := fun p hp => by have := h p hp; omega
  unfold nTake at ht
  split at ht
  · split at ht
    · injection ht with ht; subst ht
      intro p hp
      rcases List.mem_cons.1 hp with rfl | hp
      · simp
      · exact hm p hp
    · cases ht
  split at ht
  · split at ht
    · rename_i p r hop
      split at ht
      · injection ht with ht; subst ht
        intro q hq
        rcases List.mem_cons.1 hq with rfl | hq
        · exact hm p (by rw [hop]; simp)
        · exact hm q (by rw [hop]; simp [hq])
      · cases ht
    · cases ht
  split at ht
  · split at ht
    · rename_i p r hop
      split at ht
      · injection ht with ht; subst ht
        exact fun q hq => hm q (by rw [hop]; simp only at hq; simp [hq])
      · cases ht
    · cases ht
  split at ht
  · split at ht
    · rename_i p r hop
      split at ht
      · injection ht with ht; subst ht
        exact fun q hq => hm q (by rw [hop]; simp only at hq; simp [hq])
      · cases ht
    · cases ht
  split at ht
  · cases ho : leaveP i m.op with
    | none => rw [ho] at ht; cases ht
    | some o =>
      rw [ho] at ht
      injection ht with ht; subst ht
      exact few_leave h ho
  · injection ht with ht; subst ht
    exact hm
theorem last_split {α : Type} (l : List α) : l = [] ∨ ∃ ys x, l = ys ++ [x] := by
  rcases List.eq_nil_or_concat l with h | ⟨ys, x, h⟩
  · exact .inl h
  · exact .inr ⟨ys, x, by simpa using h⟩
theorem loop_split : ∀ l : List PV, (∀ x ∈ l, x.p.loop = false) ∨ ∃ ys x zs, l = ys ++ x :: zs ∧ x.p.loop = true ∧ ∀ z ∈ zs, z.p.loop = false
  | [] => .inl fun x hx => by cases hx
  | a :: l => by
    rcases loop_split l with h | ⟨ys, x, zs, rfl, h1, h2⟩
    · by_cases hl : a.p.loop = true
      · exact .inr ⟨[], a, l, rfl, hl, h⟩
      · refine .inl fun x hx => ?_
        rcases List.mem_cons.1 hx with rfl | hx
        · simpa using hl
        · exact h x hx
    · exact .inr ⟨a :: ys, x, zs, rfl, h1, h2⟩
theorem take_any (h : Mt W gm gt B n m vo xs) (i : Nat) (hi : i < n) (s : Int) (hf : Few i m) : Calls Try.prog 116 #[.pointer (some ⟨gm, 0, none⟩), .int .i64 (i : Int), .int .i32 s] W (TakePost8 gm gt B n i s m W) := by
  have hlo : ∀ {w' : World}, Chg [] W w' → Lo B [gm, gt] W w' := fun hc => Lo.of_chg hc (by simp)
  by_cases s1 : s = 63
  · subst s1; exact take_if h i hi
  by_cases s2 : s = 91
  · subst s2; exact take_loop h i hi
  have e12 : ¬ (s = 63 ∨ s = 91) := by simp [s1, s2]
  have hop := h.op
  by_cases s3 : s = 58
  · subst s3
    refine (take_halve (Q := fun b w' => TakePost8 gm gt B n i 58 m W (.returned (.bool b)) w') ?_).mono fun e w' ⟨b, he, hq⟩ => by rw [he]; exact hq.out
    rcases last_split xs with rfl | ⟨ys, x, rfl⟩
    · refine (halve_none h i).mono fun e w' ⟨he, hc⟩ => ⟨false, he, Lib.hid (.inr ⟨?_, rfl, hlo hc⟩)⟩
      simp only [List.map_nil, List.reverse_nil] at hop
      unfold nTake; rw [if_neg e12, if_pos rfl, hop]
    · simp only [List.map_append, List.map_cons, List.map_nil, List.reverse_append, List.reverse_cons, List.reverse_nil, List.nil_append, List.cons_append] at hop
      by_cases hc : x.p.loop = false ∧ x.p.waits = x.p.at_
      · refine (halve_yes h hc.1 hc.2 i hi).mono fun e w' hp => ⟨true, hp.1, Lib.hid (.inl ⟨_, ?_, hp.1 ▸ hp⟩)⟩
        unfold nTake; rw [if_neg e12, if_pos rfl, hop]; simp only; rw [if_pos hc]
      · refine (halve_no h (by
          by_cases hl : x.p.loop = true
          · exact .inl hl
          · exact .inr fun e => hc ⟨by simpa using hl, e⟩) i).mono fun e w' ⟨he, hcc⟩ => ⟨false, he, Lib.hid (.inr ⟨?_, rfl, hlo hcc⟩)⟩
        unfold nTake; rw [if_neg e12, if_pos rfl, hop]; simp only; rw [if_neg hc]
  by_cases s4 : s = 59
  · subst s4
    refine (take_endIf (Q := fun b w' => TakePost8 gm gt B n i 59 m W (.returned (.bool b)) w') ?_).mono fun e w' ⟨b, he, hq⟩ => by rw [he]; exact hq.out
    rcases last_split xs with rfl | ⟨ys, x, rfl⟩
    · refine (endIf_none h i).mono fun e w' ⟨he, hc⟩ => ⟨false, he, Lib.hid (.inr ⟨?_, rfl, hlo hc⟩)⟩
      simp only [List.map_nil, List.reverse_nil] at hop
      unfold nTake; rw [if_neg e12, if_neg s3, if_pos rfl, hop]
    · simp only [List.map_append, List.map_cons, List.map_nil, List.reverse_append, List.reverse_cons, List.reverse_nil, List.nil_append, List.cons_append] at hop
      by_cases hc : x.p.loop = false
      · refine (endIf_yes h hc i).mono fun e w' hp => ⟨true, hp.1, Lib.hid (.inl ⟨_, ?_, hp.1 ▸ hp⟩)⟩
        unfold nTake; rw [if_neg e12, if_neg s3, if_pos rfl, hop]; simp only; rw [if_pos hc]
      · refine (endIf_no h (by simpa using hc) i).mono fun e w' ⟨he, hcc⟩ => ⟨false, he, Lib.hid (.inr ⟨?_, rfl, hlo hcc⟩)⟩
        unfold nTake; rw [if_neg e12, if_neg s3, if_pos rfl, hop]; simp only; rw [if_neg hc]
  by_cases s5 : s = 93
  · subst s5
    refine (take_endLoop (Q := fun b w' => TakePost8 gm gt B n i 93 m W (.returned (.bool b)) w') ?_).mono fun e w' ⟨b, he, hq⟩ => by rw [he]; exact hq.out
    rcases last_split xs with rfl | ⟨ys, x, rfl⟩
    · refine (endLoop_none h i).mono fun e w' ⟨he, hc⟩ => ⟨false, he, Lib.hid (.inr ⟨?_, rfl, hlo hc⟩)⟩
      simp only [List.map_nil, List.reverse_nil] at hop
      unfold nTake; rw [if_neg e12, if_neg s3, if_neg s4, if_pos rfl, hop]
    · simp only [List.map_append, List.map_cons, List.map_nil, List.reverse_append, List.reverse_cons, List.reverse_nil, List.nil_append, List.cons_append] at hop
      by_cases hc : x.p.loop = true
      · refine (endLoop_yes h hc i hi).mono fun e w' hp => ⟨true, hp.1, Lib.hid (.inl ⟨_, ?_, hp.1 ▸ hp⟩)⟩
        unfold nTake; rw [if_neg e12, if_neg s3, if_neg s4, if_pos rfl, hop]; simp only; rw [if_pos hc]
      · refine (endLoop_no h (by simpa using hc) i).mono fun e w' ⟨he, hcc⟩ => ⟨false, he, Lib.hid (.inr ⟨?_, rfl, hlo hcc⟩)⟩
        unfold nTake; rw [if_neg e12, if_neg s3, if_neg s4, if_pos rfl, hop]; simp only; rw [if_neg hc]
  by_cases s6 : s = 126
  · subst s6
    refine (take_leave (Q := fun b w' => TakePost8 gm gt B n i 126 m W (.returned (.bool b)) w') ?_).mono fun e w' ⟨b, he, hq⟩ => by rw [he]; exact hq.out
    rcases loop_split xs with hno | ⟨ys, x, zs, rfl, hx, hz⟩
    · refine (leave_no h hno i).mono fun e w' ⟨he, hc⟩ => ⟨false, he, Lib.hid (.inr ⟨?_, rfl, hlo hc⟩)⟩
      unfold nTake; rw [if_neg e12, if_neg s3, if_neg s4, if_neg s5, if_pos rfl, hop, leaveP_no]
      · rfl
      · intro z hz
        simp only [List.mem_reverse, List.mem_map] at hz
        obtain ⟨y, hy, rfl⟩ := hz
        exact hno y hy
    · have hop2 : m.op = (zs.map (·.p)).reverse ++ x.p :: (ys.map (·.p)).reverse := by rw [hop]; simp
      have hfx : x.p.left.length ≤ i := hf x.p (by rw [hop2]; simp)
      refine (leave_yes h hx hz i hi (by omega)).mono fun e w' hp => ⟨true, hp.1, Lib.hid (.inl ⟨_, ?_, hp.1 ▸ hp⟩)⟩
      unfold nTake; rw [if_neg e12, if_neg s3, if_neg s4, if_neg s5, if_pos rfl, hop2, leaveP_rev i _ _ hx]
      · rfl
      · intro z hz2
        simp only [List.mem_reverse, List.mem_map] at hz2
        obtain ⟨y, hy, rfl⟩ := hz2
        exact hz y hy
  · refine (take_plain s s1 s2 s3 s4 s5 s6).mono fun e w' ⟨he, hw⟩ => ?_
    subst hw
    exact .inl ⟨m, by unfold nTake; rw [if_neg e12, if_neg s3, if_neg s4, if_neg s5, if_neg s6], he, ⟨_, _, h⟩, Lo.refl _ _ _⟩
end
end Go.Proofs.Ytlhkmbcjgdjegaa
namespace Go.Proofs.Ytlhkmbcjgdjegaa
open Go.RowKit
/-- A token. -/
structure TkV where
  sign : Int
  n : Int
  name : Int
def tkC (t : TkV) : List Value := [.int .i32 t.sign, .int .i64 t.n, .int .i32 t.name]
def tkCs : List TkV → List Value
  | [] => []
  | t :: l => tkC t ++ tkCs l
theorem tkCs_len : ∀ l, (tkCs l).length = l.length * 3
  | [] => rfl
  | t :: l => by rw [tkCs, List.length_append, tkCs_len l]; simp [tkC]; omega
theorem tkCs_app : ∀ l m, tkCs (l ++ m) = tkCs l ++ tkCs m
  | [], _ => rfl
  | t :: l, m => by rw [List.cons_append, tkCs, tkCs, tkCs_app l m, List.append_assoc]
theorem tkCs_one (t : TkV) : tkCs [t] = tkC t := by simp [tkCs]
theorem tkCs_get : ∀ (l : List TkV) (k : Nat) (t : TkV) (j : Nat), l[k]? = some t → j < 3 → (tkCs l)[k * 3 + j]? = (tkC t)[j]?
  | [], k, t, j, h, hj => by simp at h
  | u :: l, 0, t, j, h, hj => by
    simp at h; subst h
    rw [tkCs, List.getElem?_append_left (by simp [tkC]; omega)]
    congr 1; omega
  | u :: l, k + 1, t, j, h, hj => by
    simp at h
    rw [tkCs, List.getElem?_append_right (by simp [tkC]; omega)]
    rw [← tkCs_get l k t j h hj]
    congr 1; simp [tkC]; omega
def signs (l : List TkV) : List Int := l.map (·.sign)
theorem info_token : (Try.prog.info? 82).map (fun i => (i.zero, i.size, i.bytes)) = some (some (.agg #[.int .i32 0, .int .i64 0, .int .i32 0]), 3, 24) := by kernel_rfl
/-- The slice value '.slice A n c' is the tokens l. -/
structure Tks (W : World) (A : Option Addr) (n c : Nat) (l : List TkV) : Prop where
  len : l.length = n
  src : Src W A (tkCs l)
  cap : n ≤ c
  max : n ≤ 100000
  spot : 0 < n → ∀ ad, A = some ad → ad.spot = none
section
variable {W W' : World} {A : Option Addr} {n c : Nat} {l : List TkV}
theorem Tks.keep (h : Tks W A n c l) (hc : Chg [] W W') : Tks W' A n c l := ⟨h.len, h.src.keep hc, h.cap, h.max, h.spot⟩
theorem Tks.nil (W : World) : Tks W none 0 0 [] := ⟨rfl, Src.nil _ _, Nat.le_refl _, by omega, fun h => absurd h (by omega)⟩
theorem Tks.cell (h : Tks W A n c l) {k : Nat} {t : TkV} (hk : l[k]? = some t) : ∃ b o, A = some ⟨b, o, none⟩ ∧ b < W.heap.size ∧ W.cell? ⟨b, o + k * 3, none⟩ = some (.int .i32 t.sign) ∧ W.cell? ⟨b, o + k * 3 + 1, none⟩ = some (.int .i64 t.n) ∧ W.cell? ⟨b, o + k * 3 + 2, none⟩ = some (.int .i32 t.name) := by
  have hkl := (List.getElem?_eq_some_iff.1 hk).1
  obtain ⟨⟨b, o, s⟩, e, hb, hx⟩ := h.src (by rw [tkCs_len]; omega)
  obtain rfl : s = none := h.spot (by have := h.len; omega) _ e
  refine ⟨b, o, e, hb, ?_, ?_, ?_⟩
  · have := hx _ _ ((tkCs_get l k t 0 hk (by omega)).trans rfl); rwa [add_plain] at this
  · have := hx _ _ ((tkCs_get l k t 1 hk (by omega)).trans rfl); rwa [add_plain] at this
  · have := hx _ _ ((tkCs_get l k t 2 hk (by omega)).trans rfl); rwa [add_plain] at this
theorem Tks.of_own {B : Nat} {e : TypeId} {v : Value} (h : W.ownsRow B e 3 v n (tkCs l)) (hm : n ≤ 100000) : ∃ A c, v = .slice A n c ∧ Tks W A n c l := by
  have hl : l.length = n := by have := h.1; rw [tkCs_len] at this; omega
  rcases h.2 with ⟨rfl, rfl⟩ | ⟨g, cap, cur, rfl, hb, hg, hn, hc, hs, ht⟩
  · exact ⟨none, 0, rfl, hl, fun h => absurd h (by rw [tkCs_len]; omega), Nat.le_refl _, by omega, fun h => absurd h (by omega)⟩
  · refine ⟨_, cap, rfl, hl, fun _ => ⟨_, rfl, ?_, fun j u hj => h.cells rfl j u hj⟩, hn, hm, fun _ ad e => by injection e with e; subst e; rfl⟩
    rcases Nat.lt_or_ge g W.heap.size with hlt | hge
    · exact hlt
    · rw [Array.getElem?_eq_none hge] at hg; cases hg
end
end Go.Proofs.Ytlhkmbcjgdjegaa
namespace Go.Proofs.Ytlhkmbcjgdjegaa
open Go.RowKit
theorem make_ints (W : World) (n : Nat) (hn : n ≤ 100000) : (Instr.makeSlice 56 (.int .i64 (n : Int)) (.int .i64 (n : Int))).run Try.prog W = .ok (.slice (some ⟨W.heap.size, 0, none⟩) n n) (W.alloc (.cells (nms (List.replicate n 0)).toArray 3)) := by
  obtain ⟨i, hi, hz, hs1, hb⟩ := info_parts info_int
  have : nms (List.replicate n 0) = List.replicate n (.int .i64 0) := by simp [nms]
  rw [this]
  exact run_make1 56 3 i (.int .i64 0) rfl Try.underlying56 hi hz hs1 n (by rw [hb]; omega) (by omega) W
/-- What match answers. -/
def MatchPost (n : Nat) (r : Option (List Int × Nat)) (W : World) (e : Ending) (w' : World) : Prop :=
  Chg [] W w' ∧ ((∃ t d g, r = some (t, d) ∧ t.length = n ∧ e = .returned (.tuple #[.slice (some ⟨g, 0, none⟩) n n, .int .i64 (d : Int), .bool true]) ∧ Whole w' g 3 (nms t) ∧ d ≤ 16) ∨
    (r = none ∧ ∃ v d, e = .returned (.tuple #[v, .int .i64 d, .bool false])))
section
variable {W : World} {A : Option Addr} {n c : Nat} {l : List TkV}
set_option maxHeartbeats 4000000 in
set_option maxRecDepth 100000 in
theorem match_any (h : Tks W A n c l) : Calls Try.prog 92 #[.slice A n c] W (MatchPost n (nNest (signs l)) W) := by
  have hmax := h.max
  have hmk := fun W : World => make_ints W n hmax
  have H := Lib.hid h
  have hsl : (signs l).length = n := by unfold signs; rw [List.length_map]; exact h.len
  have HSL := Lib.hid hsl
  clear h hsl
  go_enter Try.func92, Try.ntmps92
  go_upto_region 2 with fail
  have hT := Whole.new W 3 (nms (List.replicate n 0))
  have hc1 : Chg [] W (W.alloc (.cells (nms (List.replicate n 0)).toArray 3)) := (Chg.refl [] W).alloc _
  obtain ⟨gt, hgt⟩ : ∃ g, g = W.heap.size := ⟨_, rfl⟩
  rw [← hgt] at hT
  have hsz : (W.alloc (.cells (nms (List.replicate n 0)).toArray 3)).heap.size = gt + 1 := by rw [hgt]; simp
  have hM := Whole.new (W.alloc (.cells (nms (List.replicate n 0)).toArray 3)) 167 [.slice (some ⟨gt, 0, none⟩) n n, .int .i64 0, .slice none 0 0]
  rw [hsz] at hM
  have hal2 : Chg [] (W.alloc (.cells (nms (List.replicate n 0)).toArray 3)) ((W.alloc (.cells (nms (List.replicate n 0)).toArray 3)).alloc (.cells #[.slice (some ⟨gt, 0, none⟩) n n, .int .i64 0, .slice none 0 0] 167)) := (Chg.refl [] _).alloc _
  have hT2 := hT.keep hal2
  have hc2 := hc1.new hal2
  have hsz2 : ((W.alloc (.cells (nms (List.replicate n 0)).toArray 3)).alloc (.cells #[.slice (some ⟨gt, 0, none⟩) n n, .int .i64 0, .slice none 0 0] 167)).heap.size = gt + 2 := by rw [hgt]; simp
  rw [← hgt]
  generalize (W.alloc (.cells (nms (List.replicate n 0)).toArray 3)).alloc (.cells #[.slice (some ⟨gt, 0, none⟩) n n, .int .i64 0, .slice none 0 0] 167) = w2 at hM hT2 hc2 hsz2 ⊢
  have HM0 := Lib.hid (show Mt w2 (gt + 1) gt (gt + 2) n ⟨List.replicate (signs l).length 0, 0, []⟩ (.slice none 0 0) [] from
    ⟨hM, by rw [HSL.out]; exact hT2, by rw [List.length_replicate]; exact HSL.out, rfl, World.ownsRow_nil _ _ _ _, fun x hx => (by cases hx), List.Pairwise.nil, by omega, by simp, by simp, fun x hx => (by cases hx), hmax, by omega⟩)
  have HC2 := Lib.hid hc2
  have HGT := Lib.hid hgt
  clear hT hc1 hsz hM hal2 hT2 hc2 hsz2 hgt hmk
  go_wp2_with fail
  go_loopw [6, 7, 14] (fun _ _ s wr => ∃ k : Nat, k ≤ n ∧ s = .int .i64 (k : Int) ∧ (∃ m vo xs, Hid (Mt wr (gt + 1) gt (gt + 2) n m vo xs) ∧ Few k m ∧ nRun 0 (signs l) ⟨List.replicate (signs l).length 0, 0, []⟩ = nRun k ((signs l).drop k) m) ∧ Hid (Chg [] W wr)) (fun _ _ s _ => n - (intOf s).toNat)
  case atStart => exact ⟨0, Nat.zero_le _, rfl, ⟨_, _, _, HM0, fun p hp => (by cases hp), rfl⟩, HC2⟩
  case round =>
    obtain ⟨k, hk, rfl, ⟨m, vo, xs, HM, hfew, hrun⟩, HCr⟩ := hrel
    have HF := Lib.hid hfew
    have HRUN := Lib.hid hrun
    clear hfew hrun
    by_cases hlt : k < n
    · have hltI : (k : Int) < (n : Int) := by omega
      have hk0 : (0 : Int) ≤ (k : Int) := by omega
      have hkl : k < l.length := by rw [H.out.len]; exact hlt
      obtain ⟨b, o, rfl, hb, t0, t1, t2⟩ := (H.out.keep HCr.out).cell (List.getElem?_eq_getElem hkl)
      have HS := Lib.hid (show (signs l).drop k = (l[k]).sign :: (signs l).drop (k + 1) from by
        rw [List.drop_eq_getElem_cons (by rw [HSL.out]; exact hlt)]
        congr 1
        simp [signs])
      generalize l[k] = t at t0 t1 t2 HS
      obtain ⟨ts, tn, tm⟩ := t
      simp only at t0 t1 t2 HS
      go_upto_region 5 with fail
      have hal : Chg [] wr (wr.alloc (.cells #[.int .i32 ts, .int .i64 tn, .int .i32 tm] 82)) := (Chg.refl [] wr).alloc _
      have hN : Whole (wr.alloc (.cells #[.int .i32 ts, .int .i64 tn, .int .i32 tm] 82)) wr.heap.size 82 [.int .i32 ts, .int .i64 tn, .int .i32 tm] := Whole.new wr 82 [.int .i32 ts, .int .i64 tn, .int .i32 tm]
      have hbt : gt < wr.heap.size := HM.out.to_.lt
      obtain ⟨g7, hg7⟩ : ∃ g, g = wr.heap.size := ⟨_, rfl⟩
      rw [← hg7] at hN hbt ⊢
      generalize wr.alloc (.cells #[.int .i32 ts, .int .i64 tn, .int .i32 tm] 82) = w3 at hal hN ⊢
      have HM3 := Lib.hid (HM.out.keep hal)
      have HC3 := Lib.hid (HCr.out.new hal)
      have HN3 := Lib.hid hN
      clear hal hN hg7 t0 t1 t2
      have c0 := HM3.out.rec_.cell 0
      have hkt : k < m.to.length := by rw [HM3.out.len]; exact hlt
      have t0 : w3.cell? ⟨gt, k, none⟩ = some (.int .i64 (m.to[k]'hkt)) := (HM3.out.to_.cell k).trans (nms_get _ _ hkt)
      have f0 := HM3.out.to_.frozen k
      go_upto_region 6 with fail
      have HM4 := Lib.hid (HM3.out.poke k (-1))
      have HL4 := Lib.hid (show Lo (gt + 2) [gt + 1, gt] w3 (w3.setCell ⟨gt, k, none⟩ (.int .i64 (-1))) from Lo.of_chg ((Chg.refl [gt] w3).setCell (p := ⟨gt, k, none⟩) (by simp) _) (by simp))
      have HC4 := Lib.hid (HL4.out.chg HC3.out (by have := HGT.out; omega) (by have := HGT.out; simp; omega))
      have HN4 := Lib.hid (HN3.out.far (p := ⟨gt, k, none⟩) (by simp only; omega) (.int .i64 (-1)))
      generalize w3.setCell ⟨gt, k, none⟩ (.int .i64 (-1)) = w4 at HM4 HL4 HC4 HN4 ⊢
      clear c0 t0 f0
      have n0 := HN4.out.cell 0
      go_wp2_with fail
      refine (take_any HM4.out k hlt ts HF.out).mono ?_
      rintro e w5 (⟨m', ht, rfl, ⟨vo', xs', hM5⟩, hL5⟩ | ⟨ht, rfl, hL5⟩)
      · have HM5 := Lib.hid hM5
        have HF5 := Lib.hid (few_take (m := ⟨m.to.set k (-1), m.deep, m.op⟩) HF.out ht)
        have HR5 := Lib.hid (show nRun 0 (signs l) ⟨List.replicate (signs l).length 0, 0, []⟩ = nRun (k + 1) ((signs l).drop (k + 1)) m' from by rw [HRUN.out, HS.out, nRun, ht]; rfl)
        have HC5 := Lib.hid (hL5.chg HC4.out (by have := HGT.out; omega) (by have := HGT.out; simp; omega))
        clear hM5 hL5 ht n0
        go_wp2_with fail
        go_roundw
        case rel => exact ⟨k + 1, by omega, by go_num, ⟨_, _, _, HM5, HF5.out, HR5.out⟩, HC5⟩
        case measure => simp [intOf]; omega
      · have HR5 := Lib.hid (show nNest (signs l) = none from by unfold nNest; rw [HRUN.out, HS.out, nRun, ht]; rfl)
        have HC5 := Lib.hid (hL5.chg HC4.out (by have := HGT.out; omega) (by have := HGT.out; simp; omega))
        have HPO := Lib.hid (show MatchPost n (nNest (signs l)) W (.returned (.tuple #[.slice none 0 0, .int .i64 0, .bool false])) w5 from ⟨HC5.out, .inr ⟨HR5.out, _, _, rfl⟩⟩)
        clear hL5 ht n0
        go_wp2_with fail
        go_ret3
        exact HPO.out
    · have hltI : ¬ (k : Int) < (n : Int) := by omega
      have HR5 := Lib.hid (show nRun 0 (signs l) ⟨List.replicate (signs l).length 0, 0, []⟩ = some m from by rw [HRUN.out, List.drop_eq_nil_of_le (by rw [HSL.out]; omega)]; rfl)
      have c0 := HM.out.rec_.cell 0
      have c1 := HM.out.rec_.cell 1
      have c2 := HM.out.rec_.cell 2
      obtain ⟨Ao, co, rfl, _, _, _⟩ := rown_slice HM.out.own
      have hop : m.op.length = xs.length := by rw [HM.out.op]; simp
      obtain ⟨q, hq⟩ : ∃ q, q = xs.length := ⟨_, rfl⟩
      rw [← hq] at c2 hop
      have HOP := Lib.hid hop
      have hfq := HM.out.few
      rw [← hq] at hfq
      clear hop hq
      have hdec : ((q : Int) == 0) = decide (q = 0) := by rw [Bool.eq_iff_iff]; simp
      go_wp2_with fail
      go_quiet (fail)
      have HPO := Lib.hid (show MatchPost n (nNest (signs l)) W (.returned (.tuple #[.slice (some ⟨gt, 0, none⟩) n n, .int .i64 (m.deep : Int), .bool (decide (q = 0))])) (wr.drewN nq) from by
        refine ⟨HCr.out.drewN _, ?_⟩
        by_cases h0 : q = 0
        · refine .inl ⟨m.to, m.deep, gt, ?_, HM.out.len, by simp [h0], (HM.out.to_.drewN _), HM.out.deep⟩
          unfold nNest
          have : m.op = [] := List.eq_nil_of_length_eq_zero (by rw [HOP.out]; exact h0)
          rw [HR5.out]; simp [this]
        · refine .inr ⟨?_, _, _, by simp [h0]; exact ⟨rfl, rfl⟩⟩
          unfold nNest
          have : m.op ≠ [] := fun e => h0 (by rw [← HOP.out, e]; rfl)
          rw [HR5.out]; simp [this])
      go_wp2_with fail
      go_ret3
      exact HPO.out
end
end Go.Proofs.Ytlhkmbcjgdjegaa
namespace Go.Proofs.Ytlhkmbcjgdjegaa
open Go.RowKit
def OfPost8 (n : Nat) (r : Option (List Int × Nat)) (W : World) (e : Ending) (w' : World) : Prop :=
  Chg [] W w' ∧ ((∃ t d g, r = some (t, d) ∧ t.length = n ∧ e = .returned (.tuple #[.slice (some ⟨g, 0, none⟩) n n, .int .i64 0]) ∧ Whole w' g 3 (nms t)) ∨
    (r = none ∧ e = .returned (.tuple #[.slice none 0 0, .int .i64 13])))
def deepI (r : Option (List Int × Nat)) : Int := match r with | some (_, d) => (d : Int) | none => -1
section
variable {W : World} {A : Option Addr} {n c : Nat} {l : List TkV}
set_option maxHeartbeats 1000000 in
theorem nof_any (h : Tks W A n c l) : Calls Try.prog 46 #[.slice A n c] W (OfPost8 n (nNest (signs l)) W) := by
  go_enter Try.func46, Try.ntmps46
  go_wp2_with fail
  refine (match_any h).mono ?_
  rintro e w1 ⟨hc, ⟨t, d, g, hr, htl, rfl, hT, _⟩ | ⟨hr, v, d, rfl⟩⟩
  · have HPO := Lib.hid (show OfPost8 n (nNest (signs l)) W (.returned (.tuple #[.slice (some ⟨g, 0, none⟩) n n, .int .i64 0])) w1 from ⟨hc, .inl ⟨t, d, g, hr, htl, rfl, hT⟩⟩)
    clear hr htl hT hc h
    go_wp2_with fail
    go_ret2
    exact HPO.out
  · have HPO := Lib.hid (show OfPost8 n (nNest (signs l)) W (.returned (.tuple #[.slice none 0 0, .int .i64 13])) w1 from ⟨hc, .inr ⟨hr, rfl⟩⟩)
    clear hr hc h
    go_wp2_with fail
    go_ret2
    exact HPO.out
set_option maxHeartbeats 1000000 in
theorem ndeep_any (h : Tks W A n c l) : Calls Try.prog 47 #[.slice A n c] W fun e w' => e = .returned (.int .i64 (deepI (nNest (signs l)))) ∧ Chg [] W w' := by
  go_enter Try.func47, Try.ntmps47
  go_wp2_with fail
  refine (match_any h).mono ?_
  rintro e w1 ⟨hc, ⟨t, d, g, hr, htl, rfl, hT, _⟩ | ⟨hr, v, d, rfl⟩⟩
  · have HR := Lib.hid hr
    have HC := Lib.hid hc
    clear hr htl hT hc h
    go_wp2_with fail
    go_ret
    exact ⟨ret_int' (by rw [HR.out]; rfl), HC.out⟩
  · have HR := Lib.hid hr
    have HC := Lib.hid hc
    clear hr hc h
    go_wp2_with fail
    go_ret
    exact ⟨ret_int' (by rw [HR.out]; rfl), HC.out⟩
end
end Go.Proofs.Ytlhkmbcjgdjegaa
namespace Go.Proofs.Ytlhkmbcjgdjegaa
open Go.RowKit
/-- The reference's state in memory. -/
structure Rt (W : World) (gt B n : Nat) (m : RSt) (vo : Value) : Prop where
  to_ : Whole W gt 3 (nms m.to)
  len : m.to.length = n
  own : W.ownsRow B 3 1 vo m.op.length (nts m.op.reverse)
  lo : gt < B
  few : m.op.length ≤ 16
  deep : m.deep ≤ 16
  wf : ∀ p ∈ m.op, p < n
  big : n ≤ 100000
  room : B ≤ W.heap.size
section
variable {W W' : World} {gt B n : Nat} {m : RSt} {vo : Value}
theorem Rt.keep (h : Rt W gt B n m vo) (hc : Chg [] W W') : Rt W' gt B n m vo :=
  { h with to_ := h.to_.keep hc, own := own_keep h.own hc, room := Nat.le_trans h.room hc.size }
theorem Rt.poke (h : Rt W gt B n m vo) (j : Nat) (x : Int) : Rt (W.setCell ⟨gt, j, none⟩ (.int .i64 x)) gt B n ⟨m.to.set j x, m.deep, m.op⟩ vo := by
  refine { h with to_ := ?_, len := by rw [List.length_set]; exact h.len, own := rown_far h.own (fun hc => by have := (h.own.lt gt hc).1; have := h.lo; omega), room := by rw [size_set]; exact h.room }
  have := h.to_.set_ j (.int .i64 x)
  rwa [nms_set] at this
theorem Rt.top {p : Nat} {r : List Nat} (h : Rt W gt B n m vo) (hm : m.op = p :: r) : ∃ g c, vo = .slice (some ⟨g, 0, none⟩) (r.length + 1) c ∧ r.length + 1 ≤ c ∧ W.cell? ⟨g, r.length, none⟩ = some (.int .i64 (p : Int)) ∧ W.frozen? ⟨g, r.length, none⟩ = false ∧ B ≤ g ∧ g < W.heap.size ∧ p < n ∧ r.length < 16 := by
  have ho := h.own
  have hf := h.few
  rw [hm] at ho hf
  simp only [List.length_cons] at ho hf
  obtain ⟨A, c, rfl, h1, _, _⟩ := rown_slice ho
  obtain ⟨g, rfl, hc⟩ := rown_cell ho rfl (j := r.length) (u := .int .i64 (p : Int)) (by simp [nts])
  exact ⟨g, c, rfl, h1, hc, rown_frozen ho, (ho.lt g rfl).1, (ho.lt g rfl).2, h.wf p (by rw [hm]; simp), by omega⟩
theorem Rt.waits {p : Nat} {r : List Nat} {g c : Nat} (h : Rt W gt B n m vo) (hm : m.op = p :: r) (hv : vo = .slice (some ⟨g, 0, none⟩) (r.length + 1) c) (i : Nat) (hi : i < n) :
    Rt (W.setCell ⟨g, r.length, none⟩ (.int .i64 (i : Int))) gt B n ⟨m.to, m.deep, i :: r⟩ vo := by
  subst hv
  have ho := h.own
  rw [hm] at ho
  simp only [List.length_cons] at ho
  have hB := (ho.lt g rfl).1
  have hlo := h.lo
  refine ⟨h.to_.far (by simp only; omega) _, h.len, ?_, h.lo, by have := h.few; rw [hm] at this; exact this, h.deep, fun q hq => ?_, h.big, by rw [size_set]; exact h.room⟩
  · have := rown_set (j := r.length) (u := .int .i64 (i : Int)) ho
    have e : (nts (p :: r).reverse).set r.length (.int .i64 (i : Int)) = nts (i :: r).reverse := by
      simp only [nts, List.reverse_cons, List.map_append, List.map_cons, List.map_nil]
      rw [List.set_append_right _ _ (by simp)]
      simp
    rw [e] at this
    exact this
  · rcases List.mem_cons.1 hq with rfl | hq
    · exact hi
    · exact h.wf q (by rw [hm]; simp [hq])
theorem Rt.drop {p : Nat} {r : List Nat} {g c : Nat} (h : Rt W gt B n m vo) (hm : m.op = p :: r) (hv : vo = .slice (some ⟨g, 0, none⟩) (r.length + 1) c) : Rt W gt B n ⟨m.to, m.deep, r⟩ (.slice (some ⟨g, 0, none⟩) r.length c) := by
  subst hv
  have ho := h.own
  rw [hm] at ho
  simp only [List.length_cons] at ho
  have ht := rown_take (q' := r.length) ho (by omega) (by simp)
  refine { h with own := ?_, few := by have := h.few; rw [hm] at this; simp at this ⊢; omega, wf := fun q hq => h.wf q (by rw [hm]; simp [show q ∈ r from hq]) }
  have e : (nts (p :: r).reverse).take (r.length * 1) = nts r.reverse := by
    simp only [nts, List.reverse_cons, List.map_append, Nat.mul_one]
    rw [List.take_left' (by simp)]
  rw [e] at ht
  exact ht
theorem Rt.push {W1 w' : World} {v' : Value} {i : Nat} (h : Rt W gt B n m vo) (hc : Chg [] W W1) (hi : i < n) (hn : m.op.length < 16) (d : Nat) (hd : d ≤ 16)
    (ho : w'.ownsRow B 3 1 v' (m.op.length + 1) (nts m.op.reverse ++ [.int .i64 (i : Int)])) (hg : W1.grownBy w' vo.ownBlock) : Rt w' gt B n ⟨m.to, d, i :: m.op⟩ v' := by
  have h1 := h.keep hc
  refine ⟨?_, h.len, ?_, h.lo, by simp; omega, hd, fun q hq => ?_, h.big, Nat.le_trans h1.room hg.size⟩
  · unfold Whole
    rw [hg.block gt h1.to_.lt (fun hc => by have := (h1.own.lt gt hc.symm).1; have := h.lo; omega)]
    exact h1.to_
  · simp only [List.length_cons, List.reverse_cons, nts_app]
    exact ho
  · rcases List.mem_cons.1 hq with rfl | hq
    · exact hi
    · exact h.wf q hq
end
section
variable {W : World} {A : Option Addr} {n c gt : Nat} {l : List TkV} {t : List Int}
theorem Tks.sign (h : Tks W A n c l) {k : Nat} {s : Int} (hk : (signs l)[k]? = some s) : ∃ b o, A = some ⟨b, o, none⟩ ∧ b < W.heap.size ∧ W.cell? ⟨b, o + k * 3, none⟩ = some (.int .i32 s) := by
  unfold signs at hk
  rw [List.getElem?_map] at hk
  cases hl : l[k]? with
  | none => rw [hl] at hk; cases hk
  | some t =>
    rw [hl] at hk
    injection hk with hk
    subst hk
    obtain ⟨b, o, e, hb, h0, _, _⟩ := h.cell hl
    exact ⟨b, o, e, hb, h0⟩
set_option maxHeartbeats 2000000 in
theorem leaves_any (h : Tks W A n c l) (ht : Whole W gt 3 (nms t)) (htl : t.length = n) (at_ : Nat) (hat : at_ < n) :
    Calls Try.prog 110 #[.slice A n c, .slice (some ⟨gt, 0, none⟩) n n, .int .i64 (at_ : Int)] W fun e w' => e = .returned (.int .i64 (leavesV (signs l) t at_ (n - at_) at_)) ∧ W = w' := by
  have hmax := h.max
  have hsl : (signs l).length = n := by unfold signs; rw [List.length_map]; exact h.len
  have H := Lib.hid h
  have HT := Lib.hid ht
  have HTL := Lib.hid htl
  have HSL := Lib.hid hsl
  clear h ht htl hsl
  go_enter Try.func110, Try.ntmps110
  go_wp2_with fail
  go_loop [7] (fun s => ∃ j : Nat, at_ ≤ j ∧ j ≤ n ∧ s = .int .i64 (j : Int) ∧ Hid (leavesV (signs l) t at_ (n - at_) at_ = leavesV (signs l) t at_ (n - j) j)) (fun s => n - (intOf s).toNat)
  case atStart => exact ⟨at_, Nat.le_refl _, by omega, rfl, Lib.hid rfl⟩
  case round =>
    obtain ⟨j, h0, h1, rfl, HV⟩ := hrel
    by_cases hlt : j < n
    · have hltI : (j : Int) < (n : Int) := by omega
      have hj0 : (0 : Int) ≤ (j : Int) := by omega
      obtain ⟨s, hs⟩ : ∃ s, (signs l)[j]? = some s := ⟨_, List.getElem?_eq_getElem (by rw [HSL.out]; exact hlt)⟩
      obtain ⟨b, o, rfl, _, t0⟩ := H.out.sign hs
      have hjt : j < t.length := by rw [HTL.out]; exact hlt
      have c1 : W.cell? ⟨gt, j, none⟩ = some (.int .i64 (t[j]'hjt)) := (HT.out.cell j).trans (nms_get _ _ hjt)
      have HS := Lib.hid hs
      have HG := Lib.hid (show t.getD j 0 = t[j]'hjt by rw [List.getD_eq_getElem?_getD, List.getElem?_eq_getElem hjt]; rfl)
      have HN := Lib.hid (show n - j = (n - (j + 1)) + 1 by omega)
      generalize t[j] = x at c1 HG
      clear hs hjt
      by_cases h93 : s = 93
      · subst h93
        by_cases hx : x < (at_ : Int)
        · have HR := Lib.hid (show leavesV (signs l) t at_ (n - at_) at_ = (j : Int) + 1 by rw [HV.out, HN.out, leavesV, if_pos ⟨HS.out, by rw [HG.out]; exact hx⟩])
          go_wp2_with fail
          go_ret
          exact ⟨ret_int' HR.out.symm, rfl⟩
        · have hxd : decide (x < (at_ : Int)) = false := by simpa using hx
          have HR := Lib.hid (show leavesV (signs l) t at_ (n - at_) at_ = leavesV (signs l) t at_ (n - (j + 1)) (j + 1) by rw [HV.out, HN.out, leavesV, if_neg (fun hc => hx (by rw [← HG.out]; exact hc.2))])
          go_wp2_with fail
          go_round
          case rel => exact ⟨j + 1, by omega, by omega, by go_num, HR⟩
          case measure => simp [intOf]; omega
      · have hsd : (s == 93) = false := by simpa using h93
        have HR := Lib.hid (show leavesV (signs l) t at_ (n - at_) at_ = leavesV (signs l) t at_ (n - (j + 1)) (j + 1) by rw [HV.out, HN.out, leavesV, if_neg (fun hc => h93 (by have := hc.1; rw [HS.out] at this; injection this))])
        go_wp2_with fail
        go_round
        case rel => exact ⟨j + 1, by omega, by omega, by go_num, HR⟩
        case measure => simp [intOf]; omega
    · have hltI : ¬ (j : Int) < (n : Int) := by omega
      have HR := Lib.hid (show leavesV (signs l) t at_ (n - at_) at_ = -1 by rw [HV.out, show n - j = 0 by omega]; rfl)
      go_wp2_with fail
      go_ret
      exact ⟨ret_int' HR.out.symm, rfl⟩
end
end Go.Proofs.Ytlhkmbcjgdjegaa
namespace Go.Proofs.Ytlhkmbcjgdjegaa
open Go.RowKit
/-- What the reference answers. -/
def RefPost (n : Nat) (r : Option (List Int × Nat)) (W : World) (e : Ending) (w' : World) : Prop :=
  Chg [] W w' ∧ ((∃ t d g, r = some (t, d) ∧ t.length = n ∧ e = .returned (.tuple #[.slice (some ⟨g, 0, none⟩) n n, .int .i64 (d : Int), .int .i64 0]) ∧ Whole w' g 3 (nms t)) ∨
    (r = none ∧ e = .returned (.tuple #[.slice none 0 0, .int .i64 (-1), .int .i64 13])))
section
variable {W : World} {A : Option Addr} {n c : Nat} {l : List TkV}
set_option maxHeartbeats 8000000 in
set_option maxRecDepth 100000 in
theorem rnest_any (h : Tks W A n c l) : Calls Try.prog 82 #[.slice A n c] W (RefPost n (rNest (signs l)) W) := by
  obtain ⟨i0, hi0, hz0, hz1, hz2⟩ := info_parts info_int
  have hmax := h.max
  have hmk := fun W : World => make_ints W n hmax
  have H := Lib.hid h
  have hsl : (signs l).length = n := by unfold signs; rw [List.length_map]; exact h.len
  have HSL := Lib.hid hsl
  clear h hsl
  go_enter Try.func82, Try.ntmps82
  go_upto_region 2 with fail
  have hT := Whole.new W 3 (nms (List.replicate n 0))
  have hc1 : Chg [] W (W.alloc (.cells (nms (List.replicate n 0)).toArray 3)) := (Chg.refl [] W).alloc _
  obtain ⟨gt, hgt⟩ : ∃ g, g = W.heap.size := ⟨_, rfl⟩
  have hsz : (W.alloc (.cells (nms (List.replicate n 0)).toArray 3)).heap.size = gt + 1 := by rw [hgt]; simp
  rw [← hgt] at hT ⊢
  generalize W.alloc (.cells (nms (List.replicate n 0)).toArray 3) = w1 at hT hc1 hsz ⊢
  have HM0 := Lib.hid (show Rt w1 gt (gt + 1) n ⟨List.replicate (signs l).length 0, 0, []⟩ (.slice none 0 0) from
    ⟨by rw [HSL.out]; exact hT, by rw [List.length_replicate]; exact HSL.out, World.ownsRow_nil _ _ _ _, by omega, by simp, by simp, fun x hx => (by cases hx), hmax, by omega⟩)
  have HC1 := Lib.hid hc1
  have HGT := Lib.hid hgt
  clear hT hc1 hsz hgt hmk
  go_wp2_with fail
  go_loopw [6, 7, 8, 15] (fun vo d _ s wr => ∃ k : Nat, k ≤ n ∧ s = .int .i64 (k : Int) ∧ (∃ m, d = .int .i64 (m.deep : Int) ∧ Hid (Rt wr gt (gt + 1) n m vo) ∧ Hid (rRun (signs l) 0 (signs l) ⟨List.replicate (signs l).length 0, 0, []⟩ = rRun (signs l) k ((signs l).drop k) m)) ∧ Hid (Chg [] W wr)) (fun _ _ _ s _ => n - (intOf s).toNat)
  case atStart => exact ⟨0, Nat.zero_le _, rfl, ⟨_, rfl, HM0, Lib.hid rfl⟩, HC1⟩
  case round =>
    obtain ⟨k, hk, rfl, ⟨m, rfl, HM, HRUN⟩, HCr⟩ := hrel
    by_cases hlt : k < n
    · have hltI : (k : Int) < (n : Int) := by omega
      have hk0 : (0 : Int) ≤ (k : Int) := by omega
      have hkb : (k : Int) ≤ 100000 := by omega
      have hkt : k < m.to.length := by rw [HM.out.len]; exact hlt
      have t0 : wr.cell? ⟨gt, k, none⟩ = some (.int .i64 (m.to[k]'hkt)) := (HM.out.to_.cell k).trans (nms_get _ _ hkt)
      have f0 := HM.out.to_.frozen k
      go_upto_region 8 with fail
      have HM4 := Lib.hid (HM.out.poke k (-1))
      have HC4 := Lib.hid (show Chg [] W (wr.setCell ⟨gt, k, none⟩ (.int .i64 (-1))) from HCr.out.setCell (fun h => absurd h (by have := HGT.out; simp only; omega)) _)
      obtain ⟨mt, md, mo⟩ := m
      simp only at HM4 ⊢
      generalize wr.setCell ⟨gt, k, none⟩ (.int .i64 (-1)) = w4 at HM4 HC4 ⊢
      clear t0 f0 hkt
      have hkl : k < (signs l).length := by rw [HSL.out]; exact hlt
      obtain ⟨b, o, rfl, hb, t0⟩ := (H.out.keep HC4.out).sign (List.getElem?_eq_getElem hkl)
      have HSK := Lib.hid (show (signs l)[k]? = some (signs l)[k] from List.getElem?_eq_getElem hkl)
      have HS := Lib.hid (show (signs l).drop k = (signs l)[k] :: (signs l).drop (k + 1) from List.drop_eq_getElem_cons hkl)
      generalize (signs l)[k]'hkl = s at t0 HS HSK
      have HNX := Lib.hid (show ∀ m', rTake (signs l) k s ⟨mt.set k (-1), md, mo⟩ = some m' → rRun (signs l) 0 (signs l) ⟨List.replicate (signs l).length 0, 0, []⟩ = rRun (signs l) (k + 1) ((signs l).drop (k + 1)) m' from fun m' hm => by rw [HRUN.out, HS.out, rRun, hm]; rfl)
      have HNO := Lib.hid (show rTake (signs l) k s ⟨mt.set k (-1), md, mo⟩ = none → rNest (signs l) = none from fun hm => by unfold rNest; rw [HRUN.out, HS.out, rRun, hm]; rfl)
      have HSG := Lib.hid (show ∀ (W' : World), Chg [] w4 W' → ∀ (j : Nat) (s' : Int), (signs l)[j]? = some s' → W'.cell? ⟨b, o + j * 3, none⟩ = some (.int .i32 s') from fun W' hW j s' hj => by
        obtain ⟨b', o', e, _, h⟩ := ((H.out.keep HC4.out).keep hW).sign hj
        injection e with e
        injection e with e1 e2
        subst e1 e2
        exact h)
      have hb1 := hb
      clear hkl
      have hfew := HM4.out.few
      have hdeep := HM4.out.deep
      simp only at hfew hdeep
      by_cases h63 : s = 63
      · subst h63
        obtain ⟨q, hq⟩ : ∃ q, q = mo.length := ⟨_, rfl⟩
        have HQ := Lib.hid hq
        rw [← hq] at hfew
        obtain ⟨Ao, co, e, _⟩ := own_slice HM4.out.own
        simp only at e
        rw [← hq] at e
        subst e
        have HAL := Lib.hid (show Chg [] w4 (w4.alloc (.cells #[.int .i64 (k : Int)] 3)) from (Chg.refl [] w4).alloc _)
        have HO1 := Lib.hid (show (w4.alloc (.cells #[.int .i64 (k : Int)] 3)).ownsRow (gt + 1) 3 1 (.slice Ao q co) q (nts mo.reverse) from by
          have h := own_keep HM4.out.own HAL.out
          simp only at h
          rw [← hq] at h
          exact h)
        have HRM := Lib.hid HM4.out.room
        clear hq
        have hmx : max (md : Int) ((q : Int) + 1) = ((max md (q + 1) : Nat) : Int) := by omega
        by_cases hq16 : q < 16
        · have hle : ¬ (16 : Int) < (q : Int) + 1 := by omega
          go_wp2_with (at_builtin
                       refine wpList_append_own _ rfl (.tmp 29) (.tmp 31) _ rfl (gt + 1) 3 i0 _ 1 8 Try.underlying56 hi0 hz0 hz1 hz2 rfl (by decide) (.slice Ao q co) q (nts mo.reverse) rfl HO1.out ⟨w4.heap.size, 0, none⟩ 1 1 [.int .i64 (k : Int)] rfl rfl (cells_page _ _ _) (by simp [Value.oneCell']) (by simp only [maxLen]; omega) (by omega) (by have := HRM.out; simp; omega) ?_
                       intro v' w6 ho6 hg6 _
                       obtain ⟨A6, c6, rfl, _⟩ := own_slice ho6
                       have HO6 := Lib.hid ho6
                       have HG6 := Lib.hid hg6
                       clear ho6 hg6)
          have HC6 := Lib.hid (show Chg [] W w6 from (HC4.out.alloc _).own HO1.out (by have := HGT.out; omega) HG6.out)
          have HR6 := Lib.hid (HM4.out.push HAL.out hlt (by simp only; have := HQ.out; omega) (max md (q + 1)) (by omega) (by simp only; rw [← HQ.out]; exact HO6.out) HG6.out)
          have HN6 := Lib.hid (HNX.out ⟨mt.set k (-1), max md (q + 1), k :: mo⟩ (by unfold rTake; rw [if_pos (by decide), if_pos (by simp only; have := HQ.out; omega), ← HQ.out]))
          go_roundw
          case rel => exact ⟨k + 1, by omega, by go_num, ⟨_, by first | rfl | exact congrArg (Value.int .i64) hmx, HR6, HN6⟩, HC6⟩
          case measure => simp [intOf]; omega
        · have hle : (16 : Int) < (q : Int) + 1 := by omega
          go_wp2_with (at_builtin
                       refine wpList_append_own _ rfl (.tmp 29) (.tmp 31) _ rfl (gt + 1) 3 i0 _ 1 8 Try.underlying56 hi0 hz0 hz1 hz2 rfl (by decide) (.slice Ao q co) q (nts mo.reverse) rfl HO1.out ⟨w4.heap.size, 0, none⟩ 1 1 [.int .i64 (k : Int)] rfl rfl (cells_page _ _ _) (by simp [Value.oneCell']) (by simp only [maxLen]; omega) (by omega) (by have := HRM.out; simp; omega) ?_
                       intro v' w6 ho6 hg6 _
                       obtain ⟨A6, c6, rfl, _⟩ := own_slice ho6
                       have HO6 := Lib.hid ho6
                       have HG6 := Lib.hid hg6
                       clear ho6 hg6)
          have HC6 := Lib.hid (show Chg [] W w6 from (HC4.out.alloc _).own HO1.out (by have := HGT.out; omega) HG6.out)
          have HPO := Lib.hid (show RefPost n (rNest (signs l)) W (.returned (.tuple #[.slice none 0 0, .int .i64 (-1), .int .i64 13])) w6 from ⟨HC6.out, .inr ⟨HNO.out (by unfold rTake; rw [if_pos (by decide), if_neg (by simp only; have := HQ.out; omega)]), rfl⟩⟩)
          go_ret3
          exact HPO.out
      by_cases h91 : s = 91
      · subst h91
        obtain ⟨q, hq⟩ : ∃ q, q = mo.length := ⟨_, rfl⟩
        have HQ := Lib.hid hq
        rw [← hq] at hfew
        obtain ⟨Ao, co, e, _⟩ := own_slice HM4.out.own
        simp only at e
        rw [← hq] at e
        subst e
        have HAL := Lib.hid (show Chg [] w4 (w4.alloc (.cells #[.int .i64 (k : Int)] 3)) from (Chg.refl [] w4).alloc _)
        have HO1 := Lib.hid (show (w4.alloc (.cells #[.int .i64 (k : Int)] 3)).ownsRow (gt + 1) 3 1 (.slice Ao q co) q (nts mo.reverse) from by
          have h := own_keep HM4.out.own HAL.out
          simp only at h
          rw [← hq] at h
          exact h)
        have HRM := Lib.hid HM4.out.room
        clear hq
        have hmx : max (md : Int) ((q : Int) + 1) = ((max md (q + 1) : Nat) : Int) := by omega
        by_cases hq16 : q < 16
        · have hle : ¬ (16 : Int) < (q : Int) + 1 := by omega
          go_wp2_with (at_builtin
                       refine wpList_append_own _ rfl (.tmp 29) (.tmp 31) _ rfl (gt + 1) 3 i0 _ 1 8 Try.underlying56 hi0 hz0 hz1 hz2 rfl (by decide) (.slice Ao q co) q (nts mo.reverse) rfl HO1.out ⟨w4.heap.size, 0, none⟩ 1 1 [.int .i64 (k : Int)] rfl rfl (cells_page _ _ _) (by simp [Value.oneCell']) (by simp only [maxLen]; omega) (by omega) (by have := HRM.out; simp; omega) ?_
                       intro v' w6 ho6 hg6 _
                       obtain ⟨A6, c6, rfl, _⟩ := own_slice ho6
                       have HO6 := Lib.hid ho6
                       have HG6 := Lib.hid hg6
                       clear ho6 hg6)
          have HC6 := Lib.hid (show Chg [] W w6 from (HC4.out.alloc _).own HO1.out (by have := HGT.out; omega) HG6.out)
          have HR6 := Lib.hid (HM4.out.push HAL.out hlt (by simp only; have := HQ.out; omega) (max md (q + 1)) (by omega) (by simp only; rw [← HQ.out]; exact HO6.out) HG6.out)
          have HN6 := Lib.hid (HNX.out ⟨mt.set k (-1), max md (q + 1), k :: mo⟩ (by unfold rTake; rw [if_pos (by decide), if_pos (by simp only; have := HQ.out; omega), ← HQ.out]))
          go_roundw
          case rel => exact ⟨k + 1, by omega, by go_num, ⟨_, by first | rfl | exact congrArg (Value.int .i64) hmx, HR6, HN6⟩, HC6⟩
          case measure => simp [intOf]; omega
        · have hle : (16 : Int) < (q : Int) + 1 := by omega
          go_wp2_with (at_builtin
                       refine wpList_append_own _ rfl (.tmp 29) (.tmp 31) _ rfl (gt + 1) 3 i0 _ 1 8 Try.underlying56 hi0 hz0 hz1 hz2 rfl (by decide) (.slice Ao q co) q (nts mo.reverse) rfl HO1.out ⟨w4.heap.size, 0, none⟩ 1 1 [.int .i64 (k : Int)] rfl rfl (cells_page _ _ _) (by simp [Value.oneCell']) (by simp only [maxLen]; omega) (by omega) (by have := HRM.out; simp; omega) ?_
                       intro v' w6 ho6 hg6 _
                       obtain ⟨A6, c6, rfl, _⟩ := own_slice ho6
                       have HO6 := Lib.hid ho6
                       have HG6 := Lib.hid hg6
                       clear ho6 hg6)
          have HC6 := Lib.hid (show Chg [] W w6 from (HC4.out.alloc _).own HO1.out (by have := HGT.out; omega) HG6.out)
          have HPO := Lib.hid (show RefPost n (rNest (signs l)) W (.returned (.tuple #[.slice none 0 0, .int .i64 (-1), .int .i64 13])) w6 from ⟨HC6.out, .inr ⟨HNO.out (by unfold rTake; rw [if_pos (by decide), if_neg (by simp only; have := HQ.out; omega)]), rfl⟩⟩)
          go_ret3
          exact HPO.out
      by_cases h58 : s = 58
      · subst h58
        rcases mo with _ | ⟨p, r⟩
        · obtain ⟨Ao, co, rfl, _⟩ := own_slice HM4.out.own
          simp only [List.length_nil]
          have HPO := Lib.hid (show RefPost n (rNest (signs l)) W (.returned (.tuple #[.slice none 0 0, .int .i64 (-1), .int .i64 13])) w4 from ⟨HC4.out, .inr ⟨HNO.out (by unfold rTake; rw [if_neg (by decide), if_pos rfl]), rfl⟩⟩)
          go_wp2_with fail
          go_ret3
          exact HPO.out
        · obtain ⟨g6, c6, rfl, hc6, k6, f6, hB6, hlt6, hpn, hr16⟩ := HM4.out.top (p := p) (r := r) rfl
          obtain ⟨sp, hsp⟩ : ∃ sp, (signs l)[p]? = some sp := ⟨_, List.getElem?_eq_getElem (by rw [HSL.out]; exact hpn)⟩
          have HSP := Lib.hid hsp
          have t1 := HSG.out w4 (Chg.refl _ _) p sp hsp
          clear hsp
          have hp0 : (0 : Int) ≤ (p : Int) := by omega
          have hp1 : (p : Int) < (n : Int) := by omega
          obtain ⟨q, hq⟩ : ∃ q, q = r.length := ⟨_, rfl⟩
          have HQ := Lib.hid hq
          rw [← hq] at hc6 k6 f6 hr16
          have hsub : IntKind.i64.wrap (((q + 1 : Nat) : Int) - 1) = (q : Int) := by rw [IntWalk.i64_in _ (by omega)]; omega
          have hq0 : (0 : Int) ≤ (q : Int) := by omega
          have hq1 : (q : Int) < ((q + 1 : Nat) : Int) := by omega
          have hq2 : (q : Int) ≤ (c6 : Int) := by omega
          have hqt : (q : Int).toNat = q := Int.toNat_natCast _
          have hne : (((q + 1 : Nat) : Int) == 0) = false := by simp; omega
          have hkw : IntKind.i64.wrap ((k : Int) + 1) = (k : Int) + 1 := IntWalk.i64_in _ (by omega)
          have hrq : r.length = q := hq.symm
          rw [hrq]
          clear hq hrq
          by_cases hsp : sp = 63
          · subst hsp
            have hjt : p < (mt.set k (-1)).length := by rw [HM4.out.len]; omega
            have t2 : w4.cell? ⟨gt, p, none⟩ = some (.int .i64 ((mt.set k (-1))[p]'hjt)) := (HM4.out.to_.cell p).trans (nms_get _ _ hjt)
            have f2 := HM4.out.to_.frozen p
            go_upto_region 19 with fail
            have HM5 := Lib.hid (HM4.out.poke p ((k : Int) + 1))
            have HC5 := Lib.hid (show Chg [] W (w4.setCell ⟨gt, p, none⟩ (.int .i64 ((k : Int) + 1))) from HC4.out.setCell (fun h => absurd h (by have := HGT.out; simp only; omega)) _)
            simp only at HM5
            generalize w4.setCell ⟨gt, p, none⟩ (.int .i64 ((k : Int) + 1)) = w5 at HM5 HC5 ⊢
            clear t2 f2 hjt k6 f6
            obtain ⟨g7, c7, e, hc7, k7, f7, hB7, hlt7, _, _⟩ := HM5.out.top (p := p) (r := r) rfl
            injection e with e _ e3
            injection e with e
            injection e with e
            subst e e3
            rw [← HQ.out] at k7 f7
            have HM6 := Lib.hid (HM5.out.waits (p := p) (r := r) rfl rfl k hlt)
            rw [← HQ.out] at HM6
            simp only at HM6
            have HC6 := Lib.hid (show Chg [] W (w5.setCell ⟨g6, q, none⟩ (.int .i64 (k : Int))) from HC5.out.setCell (fun h => absurd h (by have := HGT.out; simp only; omega)) _)
            have HN6 := Lib.hid (HNX.out ⟨(mt.set k (-1)).set p ((k : Int) + 1), md, k :: r⟩ (by unfold rTake; rw [if_neg (by decide), if_pos rfl]; simp only; rw [if_pos HSP.out]))
            go_wp2_with fail
            go_roundw
            case rel => exact ⟨k + 1, by omega, by go_num, ⟨_, rfl, HM6, HN6⟩, HC6⟩
            case measure => simp [intOf]; omega
          · have hspd : (sp != 63) = true := by simpa using hsp
            have HPO := Lib.hid (show RefPost n (rNest (signs l)) W (.returned (.tuple #[.slice none 0 0, .int .i64 (-1), .int .i64 13])) w4 from ⟨HC4.out, .inr ⟨HNO.out (by unfold rTake; rw [if_neg (by decide), if_pos rfl]; simp only; rw [if_neg (fun hc => hsp (by rw [HSP.out] at hc; injection hc))]), rfl⟩⟩)
            go_wp2_with fail
            go_ret3
            exact HPO.out
      by_cases h59 : s = 59
      · subst h59
        rcases mo with _ | ⟨p, r⟩
        · obtain ⟨Ao, co, rfl, _⟩ := own_slice HM4.out.own
          simp only [List.length_nil]
          have HPO := Lib.hid (show RefPost n (rNest (signs l)) W (.returned (.tuple #[.slice none 0 0, .int .i64 (-1), .int .i64 13])) w4 from ⟨HC4.out, .inr ⟨HNO.out (by unfold rTake; rw [if_neg (by decide), if_neg (by decide), if_pos rfl]), rfl⟩⟩)
          go_wp2_with fail
          go_ret3
          exact HPO.out
        · obtain ⟨g6, c6, rfl, hc6, k6, f6, hB6, hlt6, hpn, hr16⟩ := HM4.out.top (p := p) (r := r) rfl
          obtain ⟨sp, hsp⟩ : ∃ sp, (signs l)[p]? = some sp := ⟨_, List.getElem?_eq_getElem (by rw [HSL.out]; exact hpn)⟩
          have HSP := Lib.hid hsp
          have t1 := HSG.out w4 (Chg.refl _ _) p sp hsp
          clear hsp
          have hp0 : (0 : Int) ≤ (p : Int) := by omega
          have hp1 : (p : Int) < (n : Int) := by omega
          obtain ⟨q, hq⟩ : ∃ q, q = r.length := ⟨_, rfl⟩
          have HQ := Lib.hid hq
          rw [← hq] at hc6 k6 f6 hr16
          have hsub : IntKind.i64.wrap (((q + 1 : Nat) : Int) - 1) = (q : Int) := by rw [IntWalk.i64_in _ (by omega)]; omega
          have hq0 : (0 : Int) ≤ (q : Int) := by omega
          have hq1 : (q : Int) < ((q + 1 : Nat) : Int) := by omega
          have hq2 : (q : Int) ≤ (c6 : Int) := by omega
          have hqt : (q : Int).toNat = q := Int.toNat_natCast _
          have hne : (((q + 1 : Nat) : Int) == 0) = false := by simp; omega
          have hkw : IntKind.i64.wrap ((k : Int) + 1) = (k : Int) + 1 := IntWalk.i64_in _ (by omega)
          have hrq : r.length = q := hq.symm
          rw [hrq]
          clear hq hrq
          by_cases hsp : sp = 91
          · subst hsp
            have HPO := Lib.hid (show RefPost n (rNest (signs l)) W (.returned (.tuple #[.slice none 0 0, .int .i64 (-1), .int .i64 13])) w4 from ⟨HC4.out, .inr ⟨HNO.out (by unfold rTake; rw [if_neg (by decide), if_neg (by decide), if_pos rfl]; simp only; rw [if_pos HSP.out]), rfl⟩⟩)
            go_wp2_with fail
            go_ret3
            exact HPO.out
          · have hspd : (sp == 91) = false := by simpa using hsp
            have hjt : p < (mt.set k (-1)).length := by rw [HM4.out.len]; omega
            have t2 : w4.cell? ⟨gt, p, none⟩ = some (.int .i64 ((mt.set k (-1))[p]'hjt)) := (HM4.out.to_.cell p).trans (nms_get _ _ hjt)
            have f2 := HM4.out.to_.frozen p
            go_upto_region 24 with fail
            have HM5 := Lib.hid (HM4.out.poke p ((k : Int)))
            have HC5 := Lib.hid (show Chg [] W (w4.setCell ⟨gt, p, none⟩ (.int .i64 ((k : Int)))) from HC4.out.setCell (fun h => absurd h (by have := HGT.out; simp only; omega)) _)
            simp only at HM5
            generalize w4.setCell ⟨gt, p, none⟩ (.int .i64 ((k : Int))) = w5 at HM5 HC5 ⊢
            clear t2 f2 hjt k6 f6
            have HM6 := Lib.hid (HM5.out.drop (p := p) (r := r) rfl (by rw [← HQ.out]))
            rw [← HQ.out] at HM6
            simp only at HM6
            have HN6 := Lib.hid (HNX.out ⟨(mt.set k (-1)).set p (k : Int), md, r⟩ (by unfold rTake; rw [if_neg (by decide), if_neg (by decide), if_pos rfl]; simp only; rw [if_neg (fun hc => hsp (by rw [HSP.out] at hc; injection hc))]))
            go_wp2_with fail
            go_roundw
            case rel => exact ⟨k + 1, by omega, by go_num, ⟨_, rfl, HM6, HN6⟩, HC5⟩
            case measure => simp [intOf]; omega
      by_cases h93 : s = 93
      · subst h93
        rcases mo with _ | ⟨p, r⟩
        · obtain ⟨Ao, co, rfl, _⟩ := own_slice HM4.out.own
          simp only [List.length_nil]
          have HPO := Lib.hid (show RefPost n (rNest (signs l)) W (.returned (.tuple #[.slice none 0 0, .int .i64 (-1), .int .i64 13])) w4 from ⟨HC4.out, .inr ⟨HNO.out (by unfold rTake; rw [if_neg (by decide), if_neg (by decide), if_neg (by decide), if_pos rfl]), rfl⟩⟩)
          go_wp2_with fail
          go_ret3
          exact HPO.out
        · obtain ⟨g6, c6, rfl, hc6, k6, f6, hB6, hlt6, hpn, hr16⟩ := HM4.out.top (p := p) (r := r) rfl
          obtain ⟨sp, hsp⟩ : ∃ sp, (signs l)[p]? = some sp := ⟨_, List.getElem?_eq_getElem (by rw [HSL.out]; exact hpn)⟩
          have HSP := Lib.hid hsp
          have t1 := HSG.out w4 (Chg.refl _ _) p sp hsp
          clear hsp
          have hp0 : (0 : Int) ≤ (p : Int) := by omega
          have hp1 : (p : Int) < (n : Int) := by omega
          obtain ⟨q, hq⟩ : ∃ q, q = r.length := ⟨_, rfl⟩
          have HQ := Lib.hid hq
          rw [← hq] at hc6 k6 f6 hr16
          have hsub : IntKind.i64.wrap (((q + 1 : Nat) : Int) - 1) = (q : Int) := by rw [IntWalk.i64_in _ (by omega)]; omega
          have hq0 : (0 : Int) ≤ (q : Int) := by omega
          have hq1 : (q : Int) < ((q + 1 : Nat) : Int) := by omega
          have hq2 : (q : Int) ≤ (c6 : Int) := by omega
          have hqt : (q : Int).toNat = q := Int.toNat_natCast _
          have hne : (((q + 1 : Nat) : Int) == 0) = false := by simp; omega
          have hkw : IntKind.i64.wrap ((k : Int) + 1) = (k : Int) + 1 := IntWalk.i64_in _ (by omega)
          have hrq : r.length = q := hq.symm
          rw [hrq]
          clear hq hrq
          by_cases hsp : sp = 91
          · subst hsp
            have hjt : k < (mt.set k (-1)).length := by rw [HM4.out.len]; omega
            have t2 : w4.cell? ⟨gt, k, none⟩ = some (.int .i64 ((mt.set k (-1))[k]'hjt)) := (HM4.out.to_.cell k).trans (nms_get _ _ hjt)
            have f2 := HM4.out.to_.frozen k
            go_upto_region 29 with fail
            have HM5 := Lib.hid (HM4.out.poke k ((p : Int)))
            have HC5 := Lib.hid (show Chg [] W (w4.setCell ⟨gt, k, none⟩ (.int .i64 ((p : Int)))) from HC4.out.setCell (fun h => absurd h (by have := HGT.out; simp only; omega)) _)
            simp only at HM5
            generalize w4.setCell ⟨gt, k, none⟩ (.int .i64 ((p : Int))) = w5 at HM5 HC5 ⊢
            clear t2 f2 hjt k6 f6
            have HM6 := Lib.hid (HM5.out.drop (p := p) (r := r) rfl (by rw [← HQ.out]))
            rw [← HQ.out] at HM6
            simp only at HM6
            have HN6 := Lib.hid (HNX.out ⟨(mt.set k (-1)).set k (p : Int), md, r⟩ (by unfold rTake; rw [if_neg (by decide), if_neg (by decide), if_neg (by decide), if_pos rfl]; simp only; rw [if_pos HSP.out]))
            go_wp2_with fail
            go_roundw
            case rel => exact ⟨k + 1, by omega, by go_num, ⟨_, rfl, HM6, HN6⟩, HC5⟩
            case measure => simp [intOf]; omega
          · have hspd : (sp != 91) = true := by simpa using hsp
            have HPO := Lib.hid (show RefPost n (rNest (signs l)) W (.returned (.tuple #[.slice none 0 0, .int .i64 (-1), .int .i64 13])) w4 from ⟨HC4.out, .inr ⟨HNO.out (by unfold rTake; rw [if_neg (by decide), if_neg (by decide), if_neg (by decide), if_pos rfl]; simp only; rw [if_neg (fun hc => hsp (by rw [HSP.out] at hc; injection hc))]), rfl⟩⟩)
            go_wp2_with fail
            go_ret3
            exact HPO.out
      have k1 : (s == 63) = false := by simpa using h63
      have k2 : (s == 91) = false := by simpa using h91
      have k3 : (s == 58) = false := by simpa using h58
      have k4 : (s == 59) = false := by simpa using h59
      have k5 : (s == 93) = false := by simpa using h93
      have HN6 := Lib.hid (HNX.out ⟨mt.set k (-1), md, mo⟩ (by unfold rTake; rw [if_neg (by simp [h63, h91]), if_neg h58, if_neg h59, if_neg h93]))
      clear h63 h91 h58 h59 h93
      go_wp2_with fail
      go_roundw
      case rel => exact ⟨k + 1, by omega, by go_num, ⟨_, rfl, HM4, HN6⟩, HC4⟩
      case measure => simp [intOf]; omega
    · have hltI : ¬ (k : Int) < (n : Int) := by omega
      have HR5 := Lib.hid (show rRun (signs l) 0 (signs l) ⟨List.replicate (signs l).length 0, 0, []⟩ = some m from by rw [HRUN.out, List.drop_eq_nil_of_le (by rw [HSL.out]; omega)]; rfl)
      obtain ⟨Ao, co, rfl, _⟩ := own_slice HM.out.own
      obtain ⟨q, hq⟩ : ∃ q, q = m.op.length := ⟨_, rfl⟩
      have HQ := Lib.hid hq
      have hqe : m.op.length = q := hq.symm
      rw [hqe]
      clear hq hqe
      by_cases h0 : 0 < q
      · have h0I : (0 : Int) < (q : Int) := by omega
        have HPO := Lib.hid (show RefPost n (rNest (signs l)) W (.returned (.tuple #[.slice none 0 0, .int .i64 (-1), .int .i64 13])) wr from ⟨HCr.out, .inr ⟨by
          unfold rNest
          rw [HR5.out]
          show (if m.op = [] then _ else none) = none
          rw [if_neg (fun e => by have := HQ.out; rw [e] at this; simp at this; omega)], rfl⟩⟩)
        go_wp2_with fail
        go_ret3
        exact HPO.out
      · have h0I : ¬ (0 : Int) < (q : Int) := by omega
        have HOP := Lib.hid (show m.op = [] from List.eq_nil_of_length_eq_zero (by have := HQ.out; omega))
        have HRN := Lib.hid (show rNest (signs l) = (fillR (signs l) 0 (signs l) m.to).map fun t => (t, m.deep) from by
          unfold rNest
          rw [HR5.out]
          show (if m.op = [] then _ else none) = _
          rw [if_pos HOP.out])
        have HTO := Lib.hid HM.out.to_
        have HLE := Lib.hid HM.out.len
        obtain ⟨mt, md, mo⟩ := m
        simp only at HTO HLE HRN ⊢
        go_wp2_with fail
        go_loopw [9, 144] (fun _ s wx => ∃ k : Nat, k ≤ n ∧ s = .int .i64 (k : Int) ∧ (∃ t, t.length = n ∧ Hid (Whole wx gt 3 (nms t)) ∧ Hid (fillR (signs l) 0 (signs l) mt = fillR (signs l) k ((signs l).drop k) t)) ∧ Hid (Chg [] W wx)) (fun _ s _ => n - (intOf s).toNat)
        case atStart => exact ⟨0, Nat.zero_le _, rfl, ⟨_, HLE.out, HTO, Lib.hid rfl⟩, HCr⟩
        case round =>
          obtain ⟨k, hk, rfl, ⟨t, htl, HT, HF⟩, HCx⟩ := hrel
          have HTL := Lib.hid htl
          clear htl
          by_cases hlt2 : k < n
          · have hltI : (k : Int) < (n : Int) := by omega
            have hk0 : (0 : Int) ≤ (k : Int) := by omega
            have hkl : k < (signs l).length := by rw [HSL.out]; exact hlt2
            obtain ⟨b, o, rfl, hb, t0⟩ := (H.out.keep HCx.out).sign (List.getElem?_eq_getElem hkl)
            have HS := Lib.hid (show (signs l).drop k = (signs l)[k] :: (signs l).drop (k + 1) from List.drop_eq_getElem_cons hkl)
            generalize (signs l)[k]'hkl = s at t0 HS
            clear hkl
            by_cases hs : s = 126
            · subst hs
              obtain ⟨v, hv⟩ : ∃ v, v = leavesV (signs l) t k (n - k) k := ⟨_, rfl⟩
              have HV := Lib.hid (show v = leavesV (signs l) t k ((signs l).length - k) k from by rw [HSL.out]; exact hv)
              have hkt : k < t.length := by rw [HTL.out]; exact hlt2
              have t2 : wr.cell? ⟨gt, k, none⟩ = some (.int .i64 (t[k]'hkt)) := (HT.out.cell k).trans (nms_get _ _ hkt)
              have f2 := HT.out.frozen k
              have HLV := Lib.hid (leaves_any (H.out.keep HCx.out) HT.out HTL.out k hlt2)
              have hv' := hv.symm
              have HVV := Lib.hid hv'
              clear hv hv'
              go_upto_region 38 with (go_at_call 110; refine HLV.out.mono ?_; rintro e w' ⟨rfl, rfl⟩; rw [HVV.out])
              have HT3 := Lib.hid (HT.out.set_ k (.int .i64 v))
              rw [nms_set] at HT3
              have HC3 := Lib.hid (show Chg [] W (wr.setCell ⟨gt, k, none⟩ (.int .i64 v)) from HCx.out.setCell (fun h => absurd h (by have := HGT.out; simp only; omega)) _)
              generalize wr.setCell ⟨gt, k, none⟩ (.int .i64 v) = w3 at HT3 HC3 ⊢
              have hl3 : (t.set k v).length = n := by rw [List.length_set]; exact HTL.out
              have t3 : w3.cell? ⟨gt, k, none⟩ = some (.int .i64 v) := (HT3.out.cell k).trans (by rw [nms_get _ _ (by rw [hl3]; exact hlt2), List.getElem_set_self])
              have HL3 := Lib.hid hl3
              clear t2 f2 hl3
              by_cases hneg : v < 0
              · have HPO := Lib.hid (show RefPost n (rNest (signs l)) W (.returned (.tuple #[.slice none 0 0, .int .i64 (-1), .int .i64 13])) w3 from ⟨HC3.out, .inr ⟨by rw [HRN.out, HF.out, HS.out, fillR, if_pos rfl, ← HV.out, if_pos hneg]; rfl, rfl⟩⟩)
                go_wp2_with fail
                go_ret3
                exact HPO.out
              · have HF3 := Lib.hid (show fillR (signs l) 0 (signs l) mt = fillR (signs l) (k + 1) ((signs l).drop (k + 1)) (t.set k v) from by rw [HF.out, HS.out, fillR, if_pos rfl, ← HV.out, if_neg hneg])
                go_wp2_with fail
                go_roundw
                case rel => exact ⟨k + 1, by omega, by go_num, ⟨_, HL3.out, HT3, HF3⟩, HC3⟩
                case measure => simp [intOf]; omega
            · have hsd : (s == 126) = false := by simpa using hs
              have HF3 := Lib.hid (show fillR (signs l) 0 (signs l) mt = fillR (signs l) (k + 1) ((signs l).drop (k + 1)) t from by rw [HF.out, HS.out, fillR, if_neg hs])
              go_wp2_with fail
              go_roundw
              case rel => exact ⟨k + 1, by omega, by go_num, ⟨_, HTL.out, HT, HF3⟩, HCx⟩
              case measure => simp [intOf]; omega
          · have hltI : ¬ (k : Int) < (n : Int) := by omega
            have HPO := Lib.hid (show RefPost n (rNest (signs l)) W (.returned (.tuple #[.slice (some ⟨gt, 0, none⟩) n n, .int .i64 (md : Int), .int .i64 0])) wr from ⟨HCx.out, .inl ⟨t, md, gt, by rw [HRN.out, HF.out, List.drop_eq_nil_of_le (by rw [HSL.out]; omega)]; rfl, HTL.out, rfl, HT.out⟩⟩)
            go_wp2_with fail
            go_ret3
            exact HPO.out
end
end Go.Proofs.Ytlhkmbcjgdjegaa
namespace Go.Proofs.Ytlhkmbcjgdjegaa
open Go.RowKit

/-- A disk: its struct lies in block p, the lasting bytes L in bL, the seen ones S in bS, what waits (V) in bW. -/
structure Dsk (w : World) (p bL bS bW : Nat) (L S : List UInt8) (V : List Bool) : Prop where
  rec_ : Whole w p 100 [.slice (some ⟨bL, 0, none⟩) L.length L.length, .slice (some ⟨bS, 0, none⟩) S.length S.length, .slice (some ⟨bW, 0, none⟩) V.length V.length]
  last : Whole w bL 5 (bts L)
  seen : Whole w bS 5 (bts S)
  wait : Whole w bW 4 (bls V)
  lenL : L.length = 64 * V.length
  lenS : S.length = 64 * V.length
  pos : 0 < V.length
  le : V.length ≤ 160
  ne : bL ≠ bS

section
variable {w w' : World} {p bL bS bW : Nat} {L S : List UInt8} {V : List Bool}
theorem Dsk.keep (h : Dsk w p bL bS bW L S V) (hc : Chg [] w w') : Dsk w' p bL bS bW L S V :=
  ⟨h.rec_.keep hc, h.last.keep hc, h.seen.keep hc, h.wait.keep hc, h.lenL, h.lenS, h.pos, h.le, h.ne⟩
theorem Dsk.away {T : List Nat} (h : Dsk w p bL bS bW L S V) (hc : Chg T w w') (h0 : p ∉ T) (h1 : bL ∉ T) (h2 : bS ∉ T) (h3 : bW ∉ T) : Dsk w' p bL bS bW L S V :=
  ⟨h.rec_.chg hc h0, h.last.chg hc h1, h.seen.chg hc h2, h.wait.chg hc h3, h.lenL, h.lenS, h.pos, h.le, h.ne⟩

set_option maxHeartbeats 400000 in
theorem len_any (h : Dsk w p bL bS bW L S V) : Calls Try.prog 100 #[.pointer (some ⟨p, 0, none⟩)] w fun e w' => e = .returned (.int .i64 (V.length : Int)) ∧ w = w' := by
  have c2 := h.rec_.cell 2
  go_enter Try.func100, Try.ntmps100
  go_wp2_with fail
  go_ret
  exact ⟨rfl, rfl⟩

set_option maxHeartbeats 400000 in
theorem has_yes (h : Dsk w p bL bS bW L S V) (i : Int) (h0 : 0 ≤ i) (h1 : i < V.length) :
    Calls Try.prog 97 #[.pointer (some ⟨p, 0, none⟩), .int .i64 i] w fun e w' => e = .returned (.bool true) ∧ w = w' := by
  go_enter Try.func97, Try.ntmps97
  go_wp2_with (go_at_call 100; refine (len_any h).mono ?_; rintro e w' ⟨rfl, rfl⟩)
  go_ret
  exact ⟨rfl, rfl⟩

set_option maxHeartbeats 400000 in
theorem has_no (h : Dsk w p bL bS bW L S V) (i : Int) (h0 : i < 0 ∨ (V.length : Int) ≤ i) :
    Calls Try.prog 97 #[.pointer (some ⟨p, 0, none⟩), .int .i64 i] w fun e w' => e = .returned (.bool false) ∧ w = w' := by
  rcases h0 with h0 | h0
  · have hd : decide (0 ≤ i) = false := by simp; omega
    go_enter Try.func97, Try.ntmps97
    go_wp2_with (go_at_call 100; refine (len_any h).mono ?_; rintro e w' ⟨rfl, rfl⟩)
    go_ret
    exact ⟨rfl, rfl⟩
  · by_cases hi : 0 ≤ i
    · go_enter Try.func97, Try.ntmps97
      go_wp2_with (go_at_call 100; refine (len_any h).mono ?_; rintro e w' ⟨rfl, rfl⟩)
      go_ret
      exact ⟨by simp; omega, rfl⟩
    · have := h.pos
      exact absurd h0 (by omega)
end
end Go.Proofs.Ytlhkmbcjgdjegaa
namespace Go.Proofs.Ytlhkmbcjgdjegaa
open Go.RowKit
set_option maxHeartbeats 400000 in
theorem dsector_any {w : World} {g n c : Nat} (k : Nat) (h : 64 * (k + 1) ≤ n) (hc : n ≤ c) (hn : c ≤ 1000000) :
    Calls Try.prog 98 #[.slice (some ⟨g, 0, none⟩) n c, .int .i64 (k : Int)] w fun e w' => e = .returned (.slice (some ⟨g, k * 64, none⟩) 64 (c - k * 64)) ∧ w = w' := by
  go_enter Try.func98, Try.ntmps98
  go_wp2_with fail
  go_ret
  exact ⟨by show Ending.returned (.slice _ ((k + 1) * 64 - k * 64) _) = _; rw [show (k + 1) * 64 - k * 64 = 64 by omega], rfl⟩

section
variable {w : World} {p bL bS bW : Nat} {L S : List UInt8} {V : List Bool}
set_option maxHeartbeats 400000 in
theorem image_any (h : Dsk w p bL bS bW L S V) :
    Calls Try.prog 95 #[.pointer (some ⟨p, 0, none⟩)] w fun e w' => e = .returned (.slice (some ⟨w.heap.size, 0, none⟩) L.length L.length) ∧ Whole w' w.heap.size 5 (bts L) ∧ Chg [] w w' := by
  have c0 := h.rec_.cell 0
  have hb := h.lenL
  have hv := h.le
  have hlt : L.length ≤ 1000000 := by omega
  clear hb
  go_enter Try.func95, Try.ntmps95
  go_wp2_with (go_at_call 60; refine (fresh_any (bts_len L) (Src.of_all h.last) (bts_one L) hlt).mono ?_; rintro e w1 ⟨rfl, HB, HC⟩)
  go_ret
  exact ⟨rfl, HB, HC⟩
set_option maxHeartbeats 400000 in
theorem seen_any (h : Dsk w p bL bS bW L S V) :
    Calls Try.prog 23 #[.pointer (some ⟨p, 0, none⟩)] w fun e w' => e = .returned (.slice (some ⟨w.heap.size, 0, none⟩) S.length S.length) ∧ Whole w' w.heap.size 5 (bts S) ∧ Chg [] w w' := by
  have c0 := h.rec_.cell 1
  have hb := h.lenS
  have hv := h.le
  have hlt : S.length ≤ 1000000 := by omega
  clear hb
  go_enter Try.func23, Try.ntmps23
  go_wp2_with (go_at_call 60; refine (fresh_any (bts_len S) (Src.of_all h.seen) (bts_one S) hlt).mono ?_; rintro e w1 ⟨rfl, HB, HC⟩)
  go_ret
  exact ⟨rfl, HB, HC⟩
end
end Go.Proofs.Ytlhkmbcjgdjegaa
namespace Go.Proofs.Ytlhkmbcjgdjegaa
open Go.RowKit

/-- Numbers, as cells hold them. -/
def nmsN (l : List Nat) : List Value := l.map fun (i : Nat) => Value.int .i64 (i : Int)
theorem nmsN_len (l : List Nat) : (nmsN l).length = l.length := by simp [nmsN]
theorem nmsN_get (l : List Nat) (i : Nat) (h : i < l.length) : (nmsN l)[i]? = some (.int .i64 (l[i] : Int)) := by simp [nmsN, h]
/-- Which of the first k wait, rising. -/
def wl (V : List Bool) (k : Nat) : List Nat := (List.range k).filter fun i => V.getD i false
theorem wl_le (V : List Bool) (k : Nat) : (wl V k).length ≤ k := by
  have := List.length_filter_le (fun i => V.getD i false) (List.range k)
  simpa [wl] using this
theorem wl_yes (V : List Bool) (k : Nat) (h : k < V.length) (hv : V[k] = true) : wl V (k + 1) = wl V k ++ [k] := by
  unfold wl
  rw [List.range_succ, List.filter_append]
  simp [List.getD, h, hv]
theorem wl_no (V : List Bool) (k : Nat) (h : k < V.length) (hv : V[k] = false) : wl V (k + 1) = wl V k := by
  unfold wl
  rw [List.range_succ, List.filter_append]
  simp [List.getD, h, hv]

theorem nmsN_app (l : List Nat) (k : Nat) : nmsN (l ++ [k]) = nmsN l ++ [.int .i64 (k : Int)] := by simp [nmsN]
theorem chg_grown {T : List Nat} {a w w' : World} {row : Option Nat} (h : Chg T a w) (hg : w.grownBy w' row) (hr : ∀ g, row = some g → a.heap.size ≤ g) : Chg T a w' :=
  h.then_ (T' := row.toList) (Chg.of_grown hg fun g e _ => by simp [e]) fun i hi hlt => by
    have := hr i (by simpa using hi)
    omega

section
variable {w : World} {p bL bS bW : Nat} {L S : List UInt8} {V : List Bool}
set_option maxHeartbeats 1000000 in
theorem waits_any (h : Dsk w p bL bS bW L S V) :
    Calls Try.prog 38 #[.pointer (some ⟨p, 0, none⟩)] w fun e w' => ∃ v, e = .returned v ∧ w'.ownsRow w.heap.size 3 1 v (wl V V.length).length (nmsN (wl V V.length)) ∧ Chg [] w w' := by
  obtain ⟨i0, hi, hz0, hz1, hz2⟩ := info_parts info_int
  have c2 := h.rec_.cell 2
  have hle := h.le
  go_enter Try.func38, Try.ntmps38
  go_wp2_with fail
  go_loopw [3, 11] (fun v i wr => ∃ k : Nat, k ≤ V.length ∧ i = .int .i64 (k : Int) ∧ wr.ownsRow w.heap.size 3 1 v (wl V k).length (nmsN (wl V k)) ∧ Chg [] w wr) (fun _ i _ => V.length - (intOf i).toNat)
  case atStart => exact ⟨0, Nat.zero_le _, rfl, by simpa [wl, nmsN] using World.ownsRow_nil w w.heap.size 3 1, Chg.refl _ _⟩
  case round =>
    obtain ⟨k, hk, rfl, hown, hcg⟩ := hrel
    have hd := h.keep hcg
    have hll := wl_le V k
    have hwr := hcg.size
    by_cases hlt : k < V.length
    · have c4 := (hd.wait.cell k).trans (bls_get V k hlt)
      cases hv : V[k] with
      | true =>
        rw [hv] at c4
        have HY := Lib.hid (wl_yes V k hlt hv)
        clear hv
        obtain ⟨X, hX⟩ : ∃ X, X = nmsN (wl V k) := ⟨_, rfl⟩
        obtain ⟨N, hN⟩ : ∃ N, N = (wl V k).length := ⟨_, rfl⟩
        rw [← hX, ← hN] at hown
        have HX := Lib.hid hX
        have HN := Lib.hid hN
        rw [← hN] at hll
        clear hX hN
        go_wp2_with (first
          | (at_builtin
             refine wpList_append_own _ rfl (.tmp 17) (.tmp 19) _ rfl w.heap.size 3 i0 (.int .i64 0) 1 8 Try.underlying56 hi hz0 hz1 hz2 rfl (by decide) _ N X rfl (hown.alloc _) ⟨wr.heap.size, 0, none⟩ 1 1 [.int .i64 (k : Int)] rfl rfl ?c1 ?c2 ?c3 ?c4 ?c5 ?_
             case c1 => exact cell_one_new _ _ _
             case c2 => simp [Value.oneCell']
             case c3 => simp only [maxLen]; omega
             case c4 => omega
             case c5 => simp; omega
             intro v' w1 hown' hg' _))
        go_roundw
        case rel =>
          refine ⟨k + 1, by omega, by go_num, ?_, chg_grown (hcg.alloc _) hg' fun g hgg => (hown.lt g hgg).1⟩
          rw [HY.out, nmsN_app, List.length_append, ← HX.out, ← HN.out]
          exact hown'
        case measure => simp [intOf]; omega
      | false =>
        rw [hv] at c4
        have HY := Lib.hid (wl_no V k hlt hv)
        clear hv
        go_wp2_with fail
        go_roundw
        case rel => exact ⟨k + 1, by omega, by go_num, by rw [HY.out]; exact hown, hcg⟩
        case measure => simp [intOf]; omega
    · obtain rfl : k = V.length := by omega
      go_wp2_with fail
      go_ret
      exact ⟨_, rfl, hown, hcg⟩
end
end Go.Proofs.Ytlhkmbcjgdjegaa
namespace Go.Proofs.Ytlhkmbcjgdjegaa
open Go.RowKit
section
variable {w : World}
set_option maxHeartbeats 1000000 in
theorem same_yes {A B : Option Addr} {n c d : Nat} {l : List Nat} (hl : l.length = n) (hn : n ≤ 1000000) (ha : Src w A (nmsN l)) (hb : Src w B (nmsN l)) (hA : ∀ ad, A = some ad → ad.spot = none) (hB : ∀ ad, B = some ad → ad.spot = none) :
    Calls Try.prog 79 #[.slice A n c, .slice B n d] w (LawPost w) := by
  have HL := Lib.hid hl
  have HA := Lib.hid hA
  have HB := Lib.hid hB
  clear hl hA hB
  go_enter Try.func79, Try.ntmps79
  go_wp2_with fail
  go_loopw [5] (fun i wr => ∃ k : Nat, k ≤ n ∧ i = .int .i64 (k : Int) ∧ Chg [] w wr) (fun i _ => n - (intOf i).toNat)
  case atStart => exact ⟨0, Nat.zero_le _, rfl, Chg.refl _ _⟩
  case round =>
    obtain ⟨k, hk, rfl, hc⟩ := hrel
    by_cases hlt : k < n
    · have ha2 := ha.keep hc
      have hb2 := hb.keep hc
      obtain ⟨a1, rfl, _, hx⟩ := ha2 (by rw [nmsN_len, HL.out]; omega)
      obtain ⟨a2, rfl, _, hy⟩ := hb2 (by rw [nmsN_len, HL.out]; omega)
      have hx1 := hx k _ (nmsN_get l k (by rw [HL.out]; exact hlt))
      have hy1 := hy k _ (nmsN_get l k (by rw [HL.out]; exact hlt))
      clear hx hy
      obtain ⟨b1, o1, s1⟩ := a1
      obtain rfl : s1 = none := HA.out _ rfl
      obtain ⟨b2, o2, s2⟩ := a2
      obtain rfl : s2 = none := HB.out _ rfl
      rw [add_plain] at hx1 hy1
      generalize l[k]'(by rw [HL.out]; exact hlt) = q at hx1 hy1
      have hki : (k : Int) < (n : Int) := by omega
      go_wp2_with fail
      go_quiet (fail)
      go_wp2_with fail
      go_roundw
      case rel => exact ⟨k + 1, by omega, by go_num, hc.drewN _⟩
      case measure => simp [intOf]; omega
    · go_wp2_with fail
      go_ret
      exact ⟨rfl, hc⟩
end
end Go.Proofs.Ytlhkmbcjgdjegaa
namespace Go.Proofs.Ytlhkmbcjgdjegaa
open Go.RowKit
/-- r is a number of lo .. hi, and n itself where n is one. -/
def Into (n lo hi r : Int) : Prop := lo ≤ r ∧ r ≤ hi ∧ (lo ≤ n → n ≤ hi → r = n)
/-- What Within has done. -/
def WithinPost (n lo hi : Int) (w : World) (e : Ending) (w' : World) : Prop := ∃ r : Int, Into n lo hi r ∧ e = .returned (.int .i64 r) ∧ w = w'
/-- The number itself, or brought into lo .. hi. -/
def withinI (n lo hi : Int) : Int := if lo ≤ n ∧ n ≤ hi then n else if n.tmod (hi - lo + 1) < 0 then lo + (n.tmod (hi - lo + 1) + hi - lo + 1) else lo + n.tmod (hi - lo + 1)
theorem into_within (n lo hi : Int) (h1 : lo ≤ hi) : Into n lo hi (withinI n lo hi) := by
  have b1 := Int.tmod_lt_of_pos n (show 0 < hi - lo + 1 by omega)
  have b2 := Int.lt_tmod_of_pos n (show 0 < hi - lo + 1 by omega)
  unfold withinI
  split
  · rename_i h; exact ⟨h.1, h.2, fun _ _ => rfl⟩
  · rename_i h
    split
    · exact ⟨by omega, by omega, fun ha hb => absurd ⟨ha, hb⟩ h⟩
    · exact ⟨by omega, by omega, fun ha hb => absurd ⟨ha, hb⟩ h⟩
theorem ret_within {a b : Int} (h : a = b) : Ending.returned (.int .i64 a) = .returned (.int .i64 b) := by rw [h]
section
variable {w : World}
set_option maxHeartbeats 1000000 in
theorem within_is (n lo hi : Int) (h0 : -1000000 ≤ lo) (h1 : lo ≤ hi) (h2 : hi ≤ 1000000) (hn0 : -9223372036854775808 ≤ n) (hn1 : n ≤ 9223372036854775807) :
    Calls Try.prog 18 #[.int .i64 n, .int .i64 lo, .int .i64 hi] w fun e w' => e = .returned (.int .i64 (withinI n lo hi)) ∧ w = w' := by
  have b1 := Int.tmod_lt_of_pos n (show 0 < hi - lo + 1 by omega)
  have b2 := Int.lt_tmod_of_pos n (show 0 < hi - lo + 1 by omega)
  have hne : ((hi - lo + 1) == 0) = false := by simp; omega
  by_cases ha : lo ≤ n
  · by_cases hb : n ≤ hi
    · have HI := Lib.hid (show withinI n lo hi = n by unfold withinI; rw [if_pos ⟨ha, hb⟩])
      go_enter Try.func18, Try.ntmps18
      go_wp2_with fail
      go_ret
      exact ⟨ret_within HI.out.symm, rfl⟩
    · by_cases hm : n.tmod (hi - lo + 1) < 0
      · have HI := Lib.hid (show withinI n lo hi = lo + (n.tmod (hi - lo + 1) + hi - lo + 1) by unfold withinI; rw [if_neg (fun h => hb h.2), if_pos hm])
        go_enter Try.func18, Try.ntmps18
        go_wp2_with fail
        go_ret
        exact ⟨ret_within HI.out.symm, rfl⟩
      · have HI := Lib.hid (show withinI n lo hi = lo + n.tmod (hi - lo + 1) by unfold withinI; rw [if_neg (fun h => hb h.2), if_neg hm])
        go_enter Try.func18, Try.ntmps18
        go_wp2_with fail
        go_ret
        exact ⟨ret_within HI.out.symm, rfl⟩
  · have hd : decide (lo ≤ n) = false := by simp; omega
    by_cases hm : n.tmod (hi - lo + 1) < 0
    · have HI := Lib.hid (show withinI n lo hi = lo + (n.tmod (hi - lo + 1) + hi - lo + 1) by unfold withinI; rw [if_neg (fun h => ha h.1), if_pos hm])
      go_enter Try.func18, Try.ntmps18
      go_wp2_with fail
      go_ret
      exact ⟨ret_within HI.out.symm, rfl⟩
    · have HI := Lib.hid (show withinI n lo hi = lo + n.tmod (hi - lo + 1) by unfold withinI; rw [if_neg (fun h => ha h.1), if_neg hm])
      go_enter Try.func18, Try.ntmps18
      go_wp2_with fail
      go_ret
      exact ⟨ret_within HI.out.symm, rfl⟩
/-- A number of lo .. hi. -/
theorem within_any (n lo hi : Int) (h0 : -1000000 ≤ lo) (h1 : lo ≤ hi) (h2 : hi ≤ 1000000) (hn0 : -9223372036854775808 ≤ n) (hn1 : n ≤ 9223372036854775807) :
    Calls Try.prog 18 #[.int .i64 n, .int .i64 lo, .int .i64 hi] w (WithinPost n lo hi w) :=
  (within_is n lo hi h0 h1 h2 hn0 hn1).mono fun _ _ ⟨h1', h2'⟩ => ⟨_, into_within n lo hi h1, h1', h2'⟩
end
end Go.Proofs.Ytlhkmbcjgdjegaa
namespace Go.Proofs.Ytlhkmbcjgdjegaa
open Go.RowKit
/-- A tape as it lies in memory: its numbers, where it stands. -/
structure Tp (w : World) (p : Nat) (A : Option Addr) (n c : Nat) (l : List Int) (at_ : Nat) : Prop where
  rec_ : Whole w p 117 [.slice A n c, .int .i64 (at_ : Int)]
  len : l.length = n
  src : Src w A (nms l)
  spot : 0 < n → ∀ ad, A = some ad → ad.spot = none ∧ ad.block < p
  rng : ∀ x ∈ l, -9223372036854775808 ≤ x ∧ x ≤ 9223372036854775807
  le : at_ ≤ n
  max : n ≤ 9223372036854775807
theorem nms_at (l : List Int) (i : Nat) (h : i < l.length) : (nms l)[i]? = some (.int .i64 l[i]) := by simp [nms, h]
section
variable {w : World}
set_option maxHeartbeats 1000000 in
theorem within_big (n lo hi : Int) (h0 : -1000000 ≤ lo) (h1 : lo ≤ hi) (h2 : hi ≤ 2000000000) (hn0 : -9223372036854775808 ≤ n) (hn1 : n ≤ 9223372036854775807) :
    Calls Try.prog 18 #[.int .i64 n, .int .i64 lo, .int .i64 hi] w fun e w' => e = .returned (.int .i64 (withinI n lo hi)) ∧ w = w' := by
  have b1 := Int.tmod_lt_of_pos n (show 0 < hi - lo + 1 by omega)
  have b2 := Int.lt_tmod_of_pos n (show 0 < hi - lo + 1 by omega)
  have hne : ((hi - lo + 1) == 0) = false := by simp; omega
  by_cases ha : lo ≤ n
  · by_cases hb : n ≤ hi
    · have HI := Lib.hid (show withinI n lo hi = n by unfold withinI; rw [if_pos ⟨ha, hb⟩])
      go_enter Try.func18, Try.ntmps18
      go_wp2_with fail
      go_ret
      exact ⟨ret_within HI.out.symm, rfl⟩
    · by_cases hm : n.tmod (hi - lo + 1) < 0
      · have HI := Lib.hid (show withinI n lo hi = lo + (n.tmod (hi - lo + 1) + hi - lo + 1) by unfold withinI; rw [if_neg (fun h => hb h.2), if_pos hm])
        go_enter Try.func18, Try.ntmps18
        go_wp2_with fail
        go_ret
        exact ⟨ret_within HI.out.symm, rfl⟩
      · have HI := Lib.hid (show withinI n lo hi = lo + n.tmod (hi - lo + 1) by unfold withinI; rw [if_neg (fun h => hb h.2), if_neg hm])
        go_enter Try.func18, Try.ntmps18
        go_wp2_with fail
        go_ret
        exact ⟨ret_within HI.out.symm, rfl⟩
  · have hd : decide (lo ≤ n) = false := by simp; omega
    by_cases hm : n.tmod (hi - lo + 1) < 0
    · have HI := Lib.hid (show withinI n lo hi = lo + (n.tmod (hi - lo + 1) + hi - lo + 1) by unfold withinI; rw [if_neg (fun h => ha h.1), if_pos hm])
      go_enter Try.func18, Try.ntmps18
      go_wp2_with fail
      go_ret
      exact ⟨ret_within HI.out.symm, rfl⟩
    · have HI := Lib.hid (show withinI n lo hi = lo + n.tmod (hi - lo + 1) by unfold withinI; rw [if_neg (fun h => ha h.1), if_neg hm])
      go_enter Try.func18, Try.ntmps18
      go_wp2_with fail
      go_ret
      exact ⟨ret_within HI.out.symm, rfl⟩
end
section
variable {w w' : World} {p n c at_ : Nat} {A : Option Addr} {l : List Int}
theorem Tp.keep (h : Tp w p A n c l at_) (hc : Chg [] w w') : Tp w' p A n c l at_ := ⟨h.rec_.keep hc, h.len, h.src.keep hc, h.spot, h.rng, h.le, h.max⟩
theorem Tp.other (h : Tp w p A n c l at_) {g j : Nat} (hg : g ≠ p) (hA : ∀ ad, A = some ad → 0 < n → ad.block ≠ g) (u : Value) : Tp (w.setCell ⟨g, j, none⟩ u) p A n c l at_ := by
  refine ⟨h.rec_.far (by simpa using Ne.symm hg) u, h.len, fun hp => ?_, h.spot, h.rng, h.le, h.max⟩
  obtain ⟨ad, e, hb, hy⟩ := h.src hp
  have hn : 0 < n := by have := h.len; simp [nms] at hp; omega
  refine ⟨ad, e, by simpa [World.setCell] using hb, fun i v hi => ?_⟩
  have h1 := hy i v hi
  have e2 : (ad.add i).block = ad.block := by unfold Addr.add; split <;> rfl
  rw [← h1]
  exact World.cell?_of_block (w := w) (Below.heap_setCell w _ u _ (by rw [e2]; exact hA ad e hn))
theorem Tp.grown {B2 m k2 : Nat} {e2 : TypeId} {v2 : Value} {ys : List Value} (h : Tp w p A n c l at_) (h2 : w.ownsRow B2 e2 k2 v2 m ys) (hg : w.grownBy w' v2.ownBlock) (hne : 117 ≠ e2) (hB : p < B2) : Tp w' p A n c l at_ := by
  refine ⟨whole_grown h.rec_ h2 hne hg, h.len, fun hp => ?_, h.spot, h.rng, h.le, h.max⟩
  obtain ⟨ad, e, hb, hy⟩ := h.src hp
  have hn : 0 < n := by have := h.len; simp [nms] at hp; omega
  refine ⟨ad, e, Nat.lt_of_lt_of_le hb hg.size, fun i v hi => ?_⟩
  have h1 := hy i v hi
  have e3 : (ad.add i).block = ad.block := by unfold Addr.add; split <;> rfl
  rw [← h1]
  refine World.cell?_of_block (w := w) (hg.block _ (by rw [e3]; exact hb) (fun hc => ?_))
  rw [e3] at hc
  have := (h2.lt _ hc.symm).1
  have := (h.spot hn ad e).2
  omega
theorem chg_grown2 {T : List Nat} {a w w' : World} {row : Option Nat} (h : Chg T a w) (hg : w.grownBy w' row) (hr : ∀ g, row = some g → a.heap.size ≤ g) : Chg T a w' :=
  h.then_ (T' := row.toList) (Chg.of_grown hg fun g e _ => by simp [e]) fun i hi hlt => by
    have := hr i (by simpa using hi)
    omega
theorem Tp.lt (h : Tp w p A n c l at_) : p < w.heap.size := h.rec_.lt
/-- A number of 0 .. m - 1, and the tape one further. -/
def NextPost (w : World) (p : Nat) (A : Option Addr) (n c : Nat) (l : List Int) (m : Nat) (e : Ending) (w' : World) : Prop :=
  ∃ (r a' : Nat), r < m ∧ e = .returned (.int .i64 (r : Int)) ∧ Tp w' p A n c l a' ∧ Chg [p] w w'
set_option maxHeartbeats 4000000 in
set_option maxRecDepth 100000 in
theorem next_any (h : Tp w p A n c l at_) (m : Nat) (hm : 0 < m) (hm2 : m ≤ 1000000) :
    Calls Try.prog 74 #[.pointer (some ⟨p, 0, none⟩), .int .i64 (m : Int)] w (NextPost w p A n c l m) := by
  have c0 := h.rec_.cell 0
  have c1 := h.rec_.cell 1
  have f1 := h.rec_.frozen 1
  have hle := h.le
  have hmax := h.max
  have H := Lib.hid h
  clear h
  have hmd : ¬ (m : Int) < 1 := by omega
  have hmd1 : decide ((m : Int) < 1) = false := by simp; omega
  by_cases hlt : at_ < n
  · have hd1 : decide (n ≤ at_) = false := by simp; omega
    have hd2 : decide ((n : Int) ≤ (at_ : Int)) = false := by simp; omega
    obtain ⟨ad, rfl, _, hx⟩ := H.out.src (by simp [nms]; have := H.out.len; omega)
    have hx1 := hx at_ _ (nms_at l at_ (by have := H.out.len; omega))
    obtain ⟨b, o, s⟩ := ad
    obtain ⟨hs, hbp⟩ := H.out.spot (by omega) _ rfl
    simp only at hs hbp
    subst hs
    rw [add_plain] at hx1
    have hal : at_ < l.length := by have := H.out.len; omega
    have hrz := H.out.rng l[at_] (List.getElem_mem hal)
    generalize l[at_] = z at hx1 hrz
    obtain ⟨hz0, hz1⟩ := hrz
    clear hx
    go_enter Try.func74, Try.ntmps74
    go_wp2_with fail
    go_quiet (fail)
    go_wp2_with fail
    have hR3 := ((H.out.rec_.keep ((Chg.refl [] w).drewN nq)).set_ 1 (.int .i64 ((at_ : Int) + 1)))
    have hc3 : Chg [p] w ((w.drewN nq).setCell ⟨p, 1, none⟩ (.int .i64 ((at_ : Int) + 1))) := ((Chg.refl [p] w).drewN nq).setCell (by simp) _
    generalize (w.drewN nq).setCell ⟨p, 1, none⟩ (.int .i64 ((at_ : Int) + 1)) = w3 at hR3 hc3 ⊢
    have hs3 : Src w3 (some ⟨b, o, none⟩) (nms l) := fun hp => by
      obtain ⟨ad, e, hb, hy⟩ := H.out.src hp
      injection e with e
      subst e
      refine ⟨_, rfl, Nat.lt_of_lt_of_le hb hc3.size, fun j v hj => ?_⟩
      have := hy j v hj
      rw [add_plain] at this ⊢
      rw [← this]
      exact World.cell?_of_block (w := w) (hc3.block b hb (by simp; omega))
    have hT3 : Tp w3 p (some ⟨b, o, none⟩) n c l (at_ + 1) := ⟨by simpa using hR3, H.out.len, hs3, H.out.spot, H.out.rng, by omega, H.out.max⟩
    have k0 := hT3.rec_.cell 0
    have k1 := hT3.rec_.cell 1
    have k2 : w3.cell? ⟨b, o + at_, none⟩ = some (.int .i64 z) := by
      rw [← hx1]
      exact World.cell?_of_block (w := w) (hc3.block b (block_lt_of_cell hx1) (by simp; omega))
    clear hx1 c0 c1 f1 hR3 hs3
    obtain ⟨q, hq, hq2⟩ : ∃ q : Nat, withinI z 0 1073741824 = (q : Int) ∧ q ≤ 1073741824 := by
      have hin := into_within z 0 1073741824 (by omega)
      exact ⟨(withinI z 0 1073741824).toNat, by have := hin.1; omega, by have h1 := hin.1; have h2 := hin.2.1; omega⟩
    have hw : ∀ W : World, Calls Try.prog 18 #[.int .i64 z, .int .i64 0, .int .i64 1073741824] W fun e w' => e = .returned (.int .i64 (q : Int)) ∧ w' = W := fun W =>
      (within_big z 0 1073741824 (by omega) (by omega) (by omega) hz0 hz1).mono fun _ _ ⟨h1, h2⟩ => ⟨by rw [h1, hq], h2.symm⟩
    have HT := Lib.hid hT3
    have HW := Lib.hid hw
    have HC := Lib.hid hc3
    have hsub : IntKind.i64.wrap (at_ : Int) = (at_ : Int) := IntWalk.i64_in _ (by omega)
    have hatn : (at_ : Int).toNat = at_ := Int.toNat_natCast _
    have hat0 : (0 : Int) ≤ (at_ : Int) := by omega
    have htm : (q : Int).tmod (m : Int) = ((q % m : Nat) : Int) := rfl
    have hlast : q % m < m := Nat.mod_lt _ hm
    have hatI : (at_ : Int) < (n : Int) := by omega
    have hm0 : ((m : Int) == 0) = false := by simp; omega
    clear hT3 hw hc3 hq H
    go_quiet ((go_at_call 18; exact Calls.quiet_of_same (HW.out _)))
    go_wp2_with fail
    go_ret
    exact ⟨q % m, at_ + 1, hlast, rfl, HT.out.keep ((Chg.refl _ _).drewN _), HC.out.drewN _⟩
  · have hd1 : decide (n ≤ at_) = true := by simp; omega
    have hd2 : decide ((n : Int) ≤ (at_ : Int)) = true := by simp; omega
    go_enter Try.func74, Try.ntmps74
    go_wp2_with fail
    go_quiet (fail)
    go_wp2_with fail
    go_ret
    exact ⟨0, at_, hm, rfl, H.out.keep ((Chg.refl _ _).drewN _), (Chg.refl _ _).drewN _⟩
end
end Go.Proofs.Ytlhkmbcjgdjegaa
namespace Go.Proofs.Ytlhkmbcjgdjegaa
open Go.RowKit
/-- The runes from a place on. -/
def runesAt (s : ByteArray) : Nat → Nat → List Nat
  | 0, _ => []
  | f + 1, pos => if pos < s.size then (Utf8.decode s pos).1 :: runesAt s f (pos + (Utf8.decode s pos).2) else []
def runesL (s : ByteArray) : List Nat := runesAt s s.size 0
theorem width_pos (s : ByteArray) (pos : Nat) (h : pos < s.size) : 1 ≤ (Utf8.decode s pos).2 := by
  by_cases ha : (s[pos]'h).toNat < 128
  · rw [decode_ascii s pos h ha]; exact Nat.le_refl _
  · exact (decode_high s pos h (by omega)).2
theorem runesAt_more (s : ByteArray) : ∀ (f g pos : Nat), s.size - pos ≤ f → f ≤ g → runesAt s f pos = runesAt s g pos
  | 0, 0, _, _, _ => rfl
  | 0, g + 1, pos, h, _ => by
    rw [runesAt, runesAt, if_neg (by omega)]
  | f + 1, g + 1, pos, h, hg => by
    rw [runesAt, runesAt]
    by_cases hp : pos < s.size
    · rw [if_pos hp, if_pos hp, runesAt_more s f g _ (by have := width_pos s pos hp; omega) (by omega)]
    · rw [if_neg hp, if_neg hp]
theorem runesAt_len (s : ByteArray) : ∀ (f pos : Nat), (runesAt s f pos).length ≤ f
  | 0, _ => Nat.le_refl _
  | f + 1, pos => by
    rw [runesAt]
    split
    · have := runesAt_len s f (pos + (Utf8.decode s pos).2); simp; omega
    · simp
theorem runesAt_le (s : ByteArray) : ∀ (f pos : Nat), ∀ r ∈ runesAt s f pos, r ≤ 2147483647
  | 0, _, r, h => by cases h
  | f + 1, pos, r, h => by
    rw [runesAt] at h
    split at h
    · rcases List.mem_cons.1 h with rfl | h
      · exact decode_le s pos
      · exact runesAt_le s f _ r h
    · cases h
/-- Runes, as cells. -/
def r32 (l : List Nat) : List Value := l.map fun k : Nat => Value.int .i32 (k : Int)
theorem r32_len (l : List Nat) : (r32 l).length = l.length := by simp [r32]
theorem r32_app (l m : List Nat) : r32 (l ++ m) = r32 l ++ r32 m := by simp [r32]
theorem info_rune : (Try.prog.info? 21).map (fun i => (i.zero, i.size, i.bytes)) = some (some (.int .i32 0), 1, 4) := by kernel_rfl
def RunesPost (s : ByteArray) (w : World) (e : Ending) (w' : World) : Prop := ∃ v, e = .returned v ∧ w'.ownsRow w.heap.size 21 1 v (runesL s).length (r32 (runesL s)) ∧ Chg [] w w'
set_option maxHeartbeats 2000000 in
theorem runes_any (s : ByteArray) (w : World) (hs : s.size ≤ 1000000) : Calls Try.prog 89 #[.string s] w (RunesPost s w) := by
  obtain ⟨i0, hi0, hz0, hz1, hz2⟩ := info_parts info_rune
  go_enter Try.func89, Try.ntmps89
  go_upto_region 3 with fail
  have hI : (w.iter s 0).heap[w.heap.size]? = some (.stringIter s 0) := World.iter_heap w s 0
  have hc0 : Chg [] w (w.iter s 0) := (Chg.refl [] w).alloc _
  obtain ⟨kI, hkI⟩ : ∃ k, k = w.heap.size := ⟨_, rfl⟩
  have hsz : (w.iter s 0).heap.size = kI + 1 := by rw [hkI]; simp [World.iter]
  rw [← hkI] at hI ⊢
  generalize w.iter s 0 = w1 at hI hc0 hsz ⊢
  have HI := Lib.hid hI
  have HC0 := Lib.hid hc0
  have HK := Lib.hid hkI
  have HSZ := Lib.hid hsz
  clear hI hc0 hkI hsz
  go_loopw [3, 5] (fun v _ wr => (∃ out : List Nat, wr.ownsRow (kI + 1) 21 1 v out.length (r32 out) ∧ out.length ≤ 1000000 ∧ ∃ pos f, Hid (wr.heap[kI]? = some (.stringIter s pos)) ∧ s.size - pos ≤ f ∧ out.length + f ≤ s.size ∧ Hid (runesL s = out ++ runesAt s f pos)) ∧ Hid (Chg [kI] w1 wr)) (fun _ _ wr => s.size - wr.iterPos kI)
  case atStart => exact ⟨⟨[], World.ownsRow_nil _ _ _ _, by simp, 0, s.size, HI, by omega, by simp, Lib.hid rfl⟩, Lib.hid (Chg.refl _ _)⟩
  case round =>
    obtain ⟨⟨out, ho, hol, pos, f, HIr, hf, hof, HR⟩, HCr⟩ := hrel
    have HO := Lib.hid ho
    clear ho
    by_cases hlt : pos < s.size
    · obtain ⟨f', rfl⟩ : ∃ f', f = f' + 1 := ⟨f - 1, by omega⟩
      have hnx := fun ty => Lib.run_next_any_at (P := Try.prog) wr kI s pos ty HIr.out hlt
      go_upto_region 5 with fail
      obtain ⟨d, hd⟩ : ∃ d, d = (Utf8.decode s pos).2 := ⟨_, rfl⟩
      obtain ⟨r, hr⟩ : ∃ r, r = (Utf8.decode s pos).1 := ⟨_, rfl⟩
      have hw := width_pos s pos hlt
      rw [← hd] at hw
      have HR2 := Lib.hid (show runesL s = (out ++ [r]) ++ runesAt s f' (pos + d) from by rw [HR.out, runesAt, if_pos hlt, ← hd, ← hr]; simp)
      have HI2 := Lib.hid (Lib.iterAt_heap wr kI s pos (pos + d) HIr.out)
      have HC2 := Lib.hid (show Chg [kI] w1 (wr.iterAt kI s (pos + d)) from HCr.out.trans ⟨rfl, rfl, rfl, by rw [Lib.iterAt_size]; exact Nat.le_refl _, fun i _ hn => Lib.iterAt_other wr kI i s (pos + d) (by simpa using hn)⟩)
      have HO2 := Lib.hid (show (wr.iterAt kI s (pos + d)).ownsRow (kI + 1) 21 1 _ out.length (r32 out) from rown_chg HO.out (T := [kI]) ⟨rfl, rfl, rfl, by rw [Lib.iterAt_size]; exact Nat.le_refl _, fun i _ hn => Lib.iterAt_other wr kI i s (pos + d) (by simpa using hn)⟩ (by simp))
      rw [← hd, ← hr]
      generalize wr.iterAt kI s (pos + d) = w3 at HI2 HC2 HO2 ⊢
      have HMP := Lib.hid (show wr.iterPos kI = pos from by unfold World.iterPos; rw [HIr.out])
      have hkw : kI < w3.heap.size := Lib.hid (Array.getElem?_eq_some_iff.1 HI2.out).1 |>.out
      have hr32 : (r : Int) ≤ 2147483647 := by have := decode_le s pos; omega
      clear hr hd hnx
      go_wp2_with (at_builtin
                   refine wpList_append_own _ rfl (.tmp 11) (.tmp 13) _ rfl (kI + 1) 21 i0 _ 1 4 Try.underlying129 hi0 hz0 hz1 hz2 rfl (by decide) u3 out.length (r32 out) rfl (own_keep HO2.out ((Chg.refl [] w3).alloc _)) ⟨w3.heap.size, 0, none⟩ 1 1 [.int .i32 (r : Int)] rfl rfl (cells_page _ _ _) (by simp [Value.oneCell']) (by simp only [maxLen]; omega) (by omega) (by simp; omega) ?_
                   intro v' w6 ho6 hg6 _
                   have HO6 := Lib.hid ho6
                   have HG6 := Lib.hid hg6
                   clear ho6 hg6)
      have HOW := Lib.hid (own_keep HO2.out ((Chg.refl [] w3).alloc (.cells #[.int .i32 (r : Int)] 21)))
      have HI6 := Lib.hid (show w6.heap[kI]? = some (.stringIter s (pos + d)) from by
        rw [HG6.out.block kI (by simp; omega) (fun hc => by have := (HOW.out.lt kI hc.symm).1; omega)]
        exact (((Chg.refl [] w3).alloc (.cells #[.int .i32 (r : Int)] 21)).block kI hkw (by simp)).trans HI2.out)
      have HC6 := Lib.hid (show Chg [kI] w1 w6 from chg_grown2 (HC2.out.alloc _) HG6.out (fun g hg => by have := (HOW.out.lt g hg).1; have := HSZ.out; omega))
      have HP6 := Lib.hid (show w6.iterPos kI = pos + d from by unfold World.iterPos; rw [HI6.out])
      go_roundw
      case rel => exact ⟨⟨out ++ [r], by rw [List.length_append, r32_app]; exact HO6.out, by simp; omega, pos + d, f', HI6, by omega, by simp; omega, HR2⟩, HC6⟩
      case measure => rw [HP6.out, HMP.out]; omega
    · have HRZ := Lib.hid (show runesL s = out from by rw [HR.out]; cases f with
        | zero => simp [runesAt]
        | succ f => rw [runesAt, if_neg hlt]; simp)
      have hnx := fun ty => Lib.run_next_end_at (P := Try.prog) wr kI s pos ty HIr.out hlt
      have HCz := Lib.hid (show Chg [] w wr from HC0.out.then_ HCr.out (fun i hi hl => by have := HK.out; simp only [List.mem_cons, List.not_mem_nil, or_false] at hi; omega))
      have HOz := Lib.hid (show RunesPost s w (.returned u3) wr from ⟨_, rfl, by rw [HRZ.out]; exact own_more HO.out (by have := HK.out; omega), HCz.out⟩)
      go_wp2_with fail
      go_ret
      exact HOz.out
end Go.Proofs.Ytlhkmbcjgdjegaa
namespace Go.Proofs.Ytlhkmbcjgdjegaa
open Go.RowKit
def hasB (s : ByteArray) (r : Int) : Bool := (runesL s).any fun x => (x : Int) == r
set_option maxHeartbeats 2000000 in
theorem has_any (s : ByteArray) (r : Int) (w : World) (hs : s.size ≤ 1000000) : Calls Try.prog 115 #[.string s, .int .i32 r] w (BoolPost (hasB s r) w) := by
  go_enter Try.func115, Try.ntmps115
  go_upto_region 2 with fail
  have hI : (w.iter s 0).heap[w.heap.size]? = some (.stringIter s 0) := World.iter_heap w s 0
  have hc0 : Chg [] w (w.iter s 0) := (Chg.refl [] w).alloc _
  obtain ⟨kI, hkI⟩ : ∃ k, k = w.heap.size := ⟨_, rfl⟩
  rw [← hkI] at hI ⊢
  generalize w.iter s 0 = w1 at hI hc0 ⊢
  have HI := Lib.hid hI
  have HC0 := Lib.hid hc0
  have HK := Lib.hid hkI
  clear hI hc0 hkI
  go_loopw [6] (fun _ wr => (∃ pos f, Hid (wr.heap[kI]? = some (.stringIter s pos)) ∧ s.size - pos ≤ f ∧ Hid (hasB s r = (runesAt s f pos).any fun x => (x : Int) == r)) ∧ Hid (Chg [kI] w1 wr)) (fun _ wr => s.size - wr.iterPos kI)
  case atStart => exact ⟨⟨0, s.size, HI, by omega, Lib.hid rfl⟩, Lib.hid (Chg.refl _ _)⟩
  case round =>
    obtain ⟨⟨pos, f, HIr, hf, HR⟩, HCr⟩ := hrel
    have HCZ := Lib.hid (fun (W : World) (hW : Chg [kI] w1 W) => show Chg [] w W from HC0.out.then_ hW (fun i hi hl => by have := HK.out; simp only [List.mem_cons, List.not_mem_nil, or_false] at hi; omega))
    by_cases hlt : pos < s.size
    · obtain ⟨f', rfl⟩ : ∃ f', f = f' + 1 := ⟨f - 1, by omega⟩
      have hnx := fun ty => Lib.run_next_any_at (P := Try.prog) wr kI s pos ty HIr.out hlt
      go_upto_region 4 with fail
      obtain ⟨d, hd⟩ : ∃ d, d = (Utf8.decode s pos).2 := ⟨_, rfl⟩
      obtain ⟨x, hx⟩ : ∃ r, r = (Utf8.decode s pos).1 := ⟨_, rfl⟩
      have hw := width_pos s pos hlt
      rw [← hd] at hw
      have HR2 := Lib.hid (show hasB s r = (((x : Int) == r) || (runesAt s f' (pos + d)).any fun x => (x : Int) == r) from by rw [HR.out, runesAt, if_pos hlt, ← hd, ← hx]; simp)
      have HI2 := Lib.hid (Lib.iterAt_heap wr kI s pos (pos + d) HIr.out)
      have HC2 := Lib.hid (show Chg [kI] w1 (wr.iterAt kI s (pos + d)) from HCr.out.trans ⟨rfl, rfl, rfl, by rw [Lib.iterAt_size]; exact Nat.le_refl _, fun i _ hn => Lib.iterAt_other wr kI i s (pos + d) (by simpa using hn)⟩)
      rw [← hd, ← hx]
      have HMP := Lib.hid (show wr.iterPos kI = pos from by unfold World.iterPos; rw [HIr.out])
      have HP2 := Lib.hid (show (wr.iterAt kI s (pos + d)).iterPos kI = pos + d from by unfold World.iterPos; rw [HI2.out])
      generalize wr.iterAt kI s (pos + d) = w3 at HI2 HC2 HP2 ⊢
      clear hx hd hnx
      by_cases hxr : (x : Int) = r
      · have hxd : ((x : Int) == r) = true := by simpa using hxr
        have HPO := Lib.hid (show BoolPost (hasB s r) w (.returned (.bool true)) w3 from ⟨by rw [HR2.out, hxd]; rfl, HCZ.out _ HC2.out⟩)
        clear hxr
        go_wp2_with fail
        go_ret
        exact HPO.out
      · have hxd : ((x : Int) == r) = false := by simpa using hxr
        have HR3 := Lib.hid (show hasB s r = (runesAt s f' (pos + d)).any fun x => (x : Int) == r from by rw [HR2.out, hxd]; rfl)
        go_wp2_with fail
        go_roundw
        case rel => exact ⟨⟨pos + d, f', HI2, by omega, HR3⟩, HC2⟩
        case measure => rw [HP2.out, HMP.out]; omega
    · have hnx := fun ty => Lib.run_next_end_at (P := Try.prog) wr kI s pos ty HIr.out hlt
      have HPO := Lib.hid (show BoolPost (hasB s r) w (.returned (.bool false)) wr from ⟨by rw [HR.out]; cases f with
        | zero => simp [runesAt]
        | succ f => rw [runesAt, if_neg hlt]; simp, HCZ.out _ HCr.out⟩)
      go_wp2_with fail
      go_ret
      exact HPO.out
def nameB (r : Int) : Bool := (decide (97 ≤ r) && decide (r ≤ 122)) || (decide (255 < r) && (r != 65533) && decide (r ≤ 1114111) && (decide (r < 55296) || decide (57343 < r)))
def signL : List Nat := [43, 45, 42, 47, 37, 38, 124, 94, 60, 61, 33, 46, 44, 64, 36, 35, 63, 58, 59, 91, 93, 126, 171, 187, 169, 174, 164, 161, 955, 960]
def knownB (r : Int) : Bool := (decide (97 ≤ r) && decide (r ≤ 122)) || (decide (65 ≤ r) && decide (r ≤ 90)) || signL.any fun x => (x : Int) == r
set_option maxHeartbeats 1000000 in
theorem name_any (r : Int) (w : World) : Calls Try.prog 90 #[.int .i32 r] w fun e w' => e = .returned (.bool (nameB r)) ∧ w = w' := by
  obtain ⟨b, hb⟩ : ∃ b, b = nameB r := ⟨_, rfl⟩
  rw [← hb]
  have HB := Lib.hid hb
  clear hb
  by_cases h1 : 97 ≤ r
  · by_cases h2 : r ≤ 122
    · have HE := Lib.hid (show b = true from by rw [HB.out]; simp [nameB, h1, h2])
      go_enter Try.func90, Try.ntmps90
      go_wp2_with fail
      go_ret
      exact ⟨ret_bool HE.out.symm, rfl⟩
    · have h2d : decide (r ≤ 122) = false := by simpa using h2
      by_cases h3 : 255 < r
      · by_cases h4 : r = 65533
        · subst h4
          have HE := Lib.hid (show b = false from by rw [HB.out]; rfl)
          clear h1 h2 h2d h3
          go_enter Try.func90, Try.ntmps90
          go_wp2_with fail
          go_ret
          exact ⟨ret_bool HE.out.symm, rfl⟩
        · have h4d : (r != 65533) = true := by simpa using h4
          by_cases h5 : r ≤ 1114111
          · by_cases h6 : r < 55296
            · have HE := Lib.hid (show b = true from by rw [HB.out]; simp [nameB, h3, h4, h5, h6])
              go_enter Try.func90, Try.ntmps90
              go_wp2_with fail
              go_ret
              exact ⟨ret_bool HE.out.symm, rfl⟩
            · have h6d : decide (r < 55296) = false := by simpa using h6
              by_cases h7 : 57343 < r
              · have HE := Lib.hid (show b = true from by rw [HB.out]; simp [nameB, h3, h4, h5, h7])
                go_enter Try.func90, Try.ntmps90
                go_wp2_with fail
                go_ret
                exact ⟨ret_bool HE.out.symm, rfl⟩
              · have h7d : decide (57343 < r) = false := by simpa using h7
                have HE := Lib.hid (show b = false from by rw [HB.out]; simp [nameB, h2, h6, h7])
                go_enter Try.func90, Try.ntmps90
                go_wp2_with fail
                go_ret
                exact ⟨ret_bool HE.out.symm, rfl⟩
          · have h5d : decide (r ≤ 1114111) = false := by simpa using h5
            have HE := Lib.hid (show b = false from by rw [HB.out]; simp [nameB, h2, h5])
            go_enter Try.func90, Try.ntmps90
            go_wp2_with fail
            go_ret
            exact ⟨ret_bool HE.out.symm, rfl⟩
      · have h3d : decide (255 < r) = false := by simpa using h3
        have HE := Lib.hid (show b = false from by rw [HB.out]; simp [nameB, h2, h3])
        go_enter Try.func90, Try.ntmps90
        go_wp2_with fail
        go_ret
        exact ⟨ret_bool HE.out.symm, rfl⟩
  · have h1d : decide (97 ≤ r) = false := by simpa using h1
    have h3d : decide (255 < r) = false := by simp; omega
    have h3 : ¬ 255 < r := by omega
    have HE := Lib.hid (show b = false from by rw [HB.out]; simp [nameB, h1, h3])
    go_enter Try.func90, Try.ntmps90
    go_wp2_with fail
    go_ret
    exact ⟨ret_bool HE.out.symm, rfl⟩
def signS : ByteArray := ⟨#[43, 45, 42, 47, 37, 38, 124, 94, 60, 61, 33, 46, 44, 64, 36, 35, 63, 58, 59, 91, 93, 126, 194, 171, 194, 187, 194, 169, 194, 174, 194, 164, 194, 161, 206, 187, 207, 128]⟩
theorem sign_runes : runesL signS = signL := by decide +kernel
set_option maxRecDepth 10000 in
theorem sign_any (r : Int) (w : World) : Calls Try.prog 115 #[.string ⟨#[43, 45, 42, 47, 37, 38, 124, 94, 60, 61, 33, 46, 44, 64, 36, 35, 63, 58, 59, 91, 93, 126, 194, 171, 194, 187, 194, 169, 194, 174, 194, 164, 194, 161, 206, 187, 207, 128]⟩, .int .i32 r] w (BoolPost (signL.any fun x => (x : Int) == r) w) := by
  have h := has_any signS r w (by decide)
  unfold hasB at h
  rw [sign_runes] at h
  exact h
set_option maxHeartbeats 1000000 in
set_option maxRecDepth 10000 in
theorem known_any (r : Int) (w : World) : Calls Try.prog 91 #[.int .i32 r] w (BoolPost (knownB r) w) := by
  obtain ⟨b, hb⟩ : ∃ b, b = knownB r := ⟨_, rfl⟩
  rw [← hb]
  have HB := Lib.hid hb
  clear hb
  have hsg := Lib.hid (sign_any r w)
  by_cases hz : 97 ≤ r ∧ r ≤ 122
  · obtain ⟨h1, h2⟩ := hz
    have HE := Lib.hid (show b = true from by rw [HB.out]; simp [knownB, h1, h2])
    go_enter Try.func91, Try.ntmps91
    go_wp2_with fail
    go_ret
    exact ⟨ret_bool HE.out.symm, Chg.refl _ _⟩
  · by_cases hZ : 65 ≤ r ∧ r ≤ 90
    · obtain ⟨h3, h4⟩ := hZ
      have h1d : decide (97 ≤ r) = false := by simp; omega
      have h1 : ¬ 97 ≤ r := by omega
      have HE := Lib.hid (show b = true from by rw [HB.out]; simp [knownB, h3, h4])
      go_enter Try.func91, Try.ntmps91
      go_wp2_with fail
      go_ret
      exact ⟨ret_bool HE.out.symm, Chg.refl _ _⟩
    · have HE := Lib.hid (show b = signL.any fun x => (x : Int) == r from by
        rw [HB.out]
        unfold knownB
        have e1 : (decide (97 ≤ r) && decide (r ≤ 122)) = false := by simp; omega
        have e2 : (decide (65 ≤ r) && decide (r ≤ 90)) = false := by simp; omega
        rw [e1, e2]; simp)
      by_cases h1 : 97 ≤ r
      · have h2 : ¬ r ≤ 122 := fun h => hz ⟨h1, h⟩
        have h2d : decide (r ≤ 122) = false := by simpa using h2
        have h3 : 65 ≤ r := by omega
        have h4 : ¬ r ≤ 90 := by omega
        have h4d : decide (r ≤ 90) = false := by simpa using h4
        clear hz hZ
        go_enter Try.func91, Try.ntmps91
        go_wp2_with fail
        refine hsg.out.mono ?_
        rintro e w1 ⟨rfl, hc⟩
        have HC := Lib.hid hc
        clear hc
        rw [← HE.out]
        go_wp2_with fail
        go_ret
        exact ⟨rfl, HC.out⟩
      · have h1d : decide (97 ≤ r) = false := by simpa using h1
        clear hz
        by_cases h3 : 65 ≤ r
        · have h4 : ¬ r ≤ 90 := fun h => hZ ⟨h3, h⟩
          have h4d : decide (r ≤ 90) = false := by simpa using h4
          clear hZ
          go_enter Try.func91, Try.ntmps91
          go_wp2_with fail
          refine hsg.out.mono ?_
          rintro e w1 ⟨rfl, hc⟩
          have HC := Lib.hid hc
          clear hc
          rw [← HE.out]
          go_wp2_with fail
          go_ret
          exact ⟨rfl, HC.out⟩
        · have h3d : decide (65 ≤ r) = false := by simpa using h3
          clear hZ
          go_enter Try.func91, Try.ntmps91
          go_wp2_with fail
          refine hsg.out.mono ?_
          rintro e w1 ⟨rfl, hc⟩
          have HC := Lib.hid hc
          clear hc
          rw [← HE.out]
          go_wp2_with fail
          go_ret
          exact ⟨rfl, HC.out⟩
end Go.Proofs.Ytlhkmbcjgdjegaa
