/-
  A disk and the reference's, of one image, apart from each other.
-/
import Derived.Test.YtlhkmbcjgdjegaaNew
import Derived.Test.YtlhkmbcjgdjegaaRefOf
import Derived.Test.YtlhkmbcjgdjegaaDskS
import Derived.Test.YtlhkmbcjgdjegaaShare
namespace Go.Proofs.Ytlhkmbcjgdjegaa
open Go.RowKit
def St.img (l : List UInt8) : St := ⟨l, l, falses (l.length / 64)⟩
/-- The blocks of both. -/
structure Bk where
  p : Nat
  bL : Nat
  bS : Nat
  bW : Nat
  q : Nat
  gL : Nat
  gN : Nat
  gW : Nat
/-- Apart, and made behind B0. -/
structure Bk.Apart (B0 : Nat) (k : Bk) : Prop where
  a1 : k.p ≠ k.q ∧ k.p ≠ k.gL ∧ k.p ≠ k.gN ∧ k.p ≠ k.gW
  a2 : k.bL ≠ k.q ∧ k.bL ≠ k.gL ∧ k.bL ≠ k.gN ∧ k.bL ≠ k.gW
  a3 : k.bS ≠ k.q ∧ k.bS ≠ k.gL ∧ k.bS ≠ k.gN ∧ k.bS ≠ k.gW
  a4 : k.bW ≠ k.q ∧ k.bW ≠ k.gL ∧ k.bW ≠ k.gN ∧ k.bW ≠ k.gW
  low : B0 ≤ k.p ∧ B0 ≤ k.bL ∧ B0 ≤ k.bS ∧ B0 ≤ k.bW
  low2 : B0 ≤ k.q ∧ B0 ≤ k.gL ∧ B0 ≤ k.gN ∧ B0 ≤ k.gW
/-- Both hold s. -/
structure Two (w : World) (k : Bk) (rL rN : List Value) (m : Int) (s : St) : Prop where
  d : DskS w k.p k.bL k.bS k.bW s
  r : Rfd w k.q k.gL k.gN k.gW rL rN m s
theorem Two.keep {w w' : World} {k : Bk} {rL rN : List Value} {m : Int} {s : St} (h : Two w k rL rN m s) (hc : Chg [] w w') : Two w' k rL rN m s := ⟨Dsk.keep h.d hc, h.r.keep hc⟩
/-- The reference stays while the disk is written, and the other way round. -/
theorem Bk.Apart.ref {B0 : Nat} {k : Bk} (ha : k.Apart B0) {w w' : World} {rL rN : List Value} {m : Int} {s : St} (h : Rfd w k.q k.gL k.gN k.gW rL rN m s) (hc : Chg [k.bS, k.bW] w w') : Rfd w' k.q k.gL k.gN k.gW rL rN m s := by
  exact h.away hc (not2 ha.a3.1 ha.a4.1) (not2 ha.a3.2.1 ha.a4.2.1) (not2 ha.a3.2.2.1 ha.a4.2.2.1) (not2 ha.a3.2.2.2 ha.a4.2.2.2)
theorem Bk.Apart.dsk {B0 : Nat} {k : Bk} (ha : k.Apart B0) {w w' : World} {s : St} (h : DskS w k.p k.bL k.bS k.bW s) (hc : Chg [k.q, k.gN, k.gW] w w') : DskS w' k.p k.bL k.bS k.bW s := by
  have h' : Dsk w k.p k.bL k.bS k.bW s.L s.S s.V := h
  exact h'.away hc (not3 ha.a1.1 ha.a1.2.2.1 ha.a1.2.2.2) (not3 ha.a2.1 ha.a2.2.2.1 ha.a2.2.2.2) (not3 ha.a3.1 ha.a3.2.2.1 ha.a3.2.2.2) (not3 ha.a4.1 ha.a4.2.2.1 ha.a4.2.2.2)
/-- What either writes is new. -/
theorem Bk.Apart.new {B0 : Nat} {k : Bk} (_ha : k.Apart B0) {a w w' : World} {T : List Nat} (h : Chg [] a w) (hB : a.heap.size ≤ B0) (hc : Chg T w w') (hT : ∀ i, i ∈ T → B0 ≤ i) : Chg [] a w' :=
  h.then_ hc fun i hi hlt => absurd (hT i hi) (by omega)
theorem Bk.Apart.new1 {B0 : Nat} {k : Bk} (ha : k.Apart B0) {a w w' : World} (h : Chg [] a w) (hB : a.heap.size ≤ B0) (hc : Chg [k.bS, k.bW] w w') : Chg [] a w' :=
  ha.new h hB hc fun i hi => by
    rcases (by simpa using hi : i = k.bS ∨ i = k.bW) with e | e
    · rw [e]; exact ha.low.2.2.1
    · rw [e]; exact ha.low.2.2.2
theorem Bk.Apart.new2 {B0 : Nat} {k : Bk} (ha : k.Apart B0) {a w w' : World} (h : Chg [] a w) (hB : a.heap.size ≤ B0) (hc : Chg [k.q, k.gN, k.gW] w w') : Chg [] a w' :=
  ha.new h hB hc fun i hi => by
    rcases (by simpa using hi : i = k.q ∨ i = k.gN ∨ i = k.gW) with e | e | e
    · rw [e]; exact ha.low2.1
    · rw [e]; exact ha.low2.2.2.1
    · rw [e]; exact ha.low2.2.2.2
/-- What pair answers. -/
def PairPost (w : World) (l : List UInt8) (e : Ending) (w' : World) : Prop :=
  ∃ (k : Bk) (rL rN : List Value) (m : Int), e = .returned (.tuple #[.pointer (some ⟨k.p, 0, none⟩), .pointer (some ⟨k.q, 0, none⟩)]) ∧ Two w' k rL rN m (St.img l) ∧ k.Apart w.heap.size ∧ Chg [] w w'
theorem pair_end {w w1 w2 : World} {p bL bS bW q gL gN gW : Nat} {rL rN : List Value} {m : Int} {l : List UInt8} (hd : Dsk w1 p bL bS bW l l (falses (l.length / 64))) (h1 : w.heap.size ≤ p) (h2 : w.heap.size ≤ bL) (h3 : w.heap.size ≤ bS) (h4 : w.heap.size ≤ bW)
    (hr : Rfd w2 q gL gN gW rL rN m ⟨l, l, falses (l.length / 64)⟩) (k1 : w1.heap.size ≤ q) (k2 : w1.heap.size ≤ gL) (k3 : w1.heap.size ≤ gN) (k4 : w1.heap.size ≤ gW) (hc1 : Chg [] w w1) (hc2 : Chg [] w1 w2) :
    PairPost w l (.returned (.tuple #[.pointer (some ⟨p, 0, none⟩), .pointer (some ⟨q, 0, none⟩)])) w2 := by
  have e1 := hd.rec_.lt; have e2 := hd.last.lt; have e3 := hd.seen.lt; have e4 := hd.wait.lt
  have hs := hc1.size
  exact ⟨⟨p, bL, bS, bW, q, gL, gN, gW⟩, rL, rN, m, rfl, ⟨Dsk.keep hd hc2, hr⟩, ⟨⟨by simp only; omega, by simp only; omega, by simp only; omega, by simp only; omega⟩, ⟨by simp only; omega, by simp only; omega, by simp only; omega, by simp only; omega⟩, ⟨by simp only; omega, by simp only; omega, by simp only; omega, by simp only; omega⟩, ⟨by simp only; omega, by simp only; omega, by simp only; omega, by simp only; omega⟩, ⟨h1, h2, h3, h4⟩, ⟨by simp only; omega, by simp only; omega, by simp only; omega, by simp only; omega⟩⟩, hc1.new hc2⟩
end Go.Proofs.Ytlhkmbcjgdjegaa
