/-
  A list of asks of memory as it comes in.
-/
import Derived.Test.YtigbnmckdjlihaaChecked
import Derived.Test.YtigbnmckdjlihaaFrame
import Derived.Test.YtigbnmckdjlihaaWordPure
import Derived.Deep.Slices
import Derived.Deep.Fields
import Derived.ChangeSame
import Derived.Below
namespace Go.Proofs.Ytigbnmckdjlihaa
open Go.RowKit Go.ChangeShapes Go.WideShapes Go.Deep

/-- n asks from A on: where, what, how wide. -/
def Asks (w : World) (A : Option Addr) (n : Nat) : Prop :=
  ∀ i, i < n → ∃ (b o : Nat) (a k : Int) (wd : Bool), A = some ⟨b, o, none⟩ ∧ b < w.heap.size ∧ w.cell? ⟨b, o + i * 4 + 1, none⟩ = some (.int .i64 a) ∧ w.cell? ⟨b, o + i * 4 + 2, none⟩ = some (.int .i64 k) ∧
    w.cell? ⟨b, o + i * 4 + 3, none⟩ = some (.bool wd) ∧ In64 a ∧ In64 k
theorem Asks.below {w w' : World} {A : Option Addr} {n : Nat} (h : Asks w A n) (hb : Below w.heap.size w w') : Asks w' A n := by
  intro i hi
  obtain ⟨b, o, a, k, wd, hA, hlt, h1, h2, h3, h4, h5⟩ := h i hi
  refine ⟨b, o, a, k, wd, hA, Nat.lt_of_lt_of_le hlt hb.size, ?_, ?_, ?_, h4, h5⟩
  · rw [hb.cell (p := ⟨b, o + i * 4 + 1, none⟩) hlt]; exact h1
  · rw [hb.cell (p := ⟨b, o + i * 4 + 2, none⟩) hlt]; exact h2
  · rw [hb.cell (p := ⟨b, o + i * 4 + 3, none⟩) hlt]; exact h3
theorem spot_none {w : World} {x : Addr} {v : Value} (hc : w.cell? x = some v) (hi : ∃ k, v = .int .i64 k) : x.spot = none := by
  obtain ⟨k, rfl⟩ := hi
  cases hs : x.spot with
  | none => rfl
  | some u =>
    exfalso
    unfold World.cell? at hc
    rw [hs] at hc
    split at hc
    · simp at hc
    · cases hc
section
variable {H : Type} {enc : TypeId × Value → H} {w : World} {base : Nat} {spare : Nat → Bool} {held : Bool}
theorem asks_fields : ∃ fs, Try.prog.underlying 39 = some (.struct fs) ∧ oneCellFields Try.prog fs = true ∧ fs.map (·.type) = #[3, 2, 2, 4] :=
  ⟨_, Try.underlying39, by kernel_rfl, by kernel_rfl⟩
theorem four_list {α : Type} {l : List α} (h : l.length = 4) : ∃ a b c d, l = [a, b, c, d] := by
  match l, h with
  | [a, b, c, d], _ => exact ⟨a, b, c, d, rfl⟩
theorem field_at {fs : Array Field} {ts : Array TypeId} (h : fs.map (·.type) = ts) (j : Nat) (t : TypeId) (hj : ts[j]? = some t) : ∃ f : Field, fs[j]? = some f ∧ f.type = t := by
  rw [← h, Array.getElem?_map] at hj
  cases hf : fs[j]? with
  | none => rw [hf] at hj; cases hj
  | some f => rw [hf] at hj; exact ⟨f, rfl, by simpa using hj⟩
theorem asks_open {fuel : Nat} {cs : List Value} {x : DataW H × List MemPlace} (h : DataW.trod enc Try.prog w base spare held fuel 34 cs = some x) (v : Value) (hv : cs = [v]) :
    ∃ A n c, v = .slice A n c ∧ Asks w A n ∧ n ≤ c ∧ c ≤ maxLen := by
  subst hv
  rcases open_slice Try.underlying34 h with ⟨h0, _⟩ | ⟨a, len, cap, m, f, D, Pl, hcs, hb, hl, hm, hmm, hx, hi⟩
  · simp only [List.cons.injEq, and_true] at h0
    exact ⟨none, 0, 0, h0, fun i hi => by omega, Nat.le_refl _, by unfold maxLen; omega⟩
  · simp only [List.cons.injEq, and_true] at hcs
    have key : ∀ i, i < len → ∃ (z0 z1 z2 : Int) (z3 : Bool), w.cell? (a.add (i * 4)) = some (.int .i64 z0) ∧ w.cell? ((a.add (i * 4)).add 1) = some (.int .i64 z1) ∧ w.cell? ((a.add (i * 4)).add 2) = some (.int .i64 z2) ∧ w.cell? ((a.add (i * 4)).add 3) = some (.bool z3) ∧ In64 z1 ∧ In64 z2 := by
     intro i hlt
     have hC : Try.prog.cellsOf 39 = 4 := by kernel_rfl
     have him : i < m := by rw [hmm]; split <;> omega
     obtain ⟨cs', hc, ht'⟩ := hi i him
     rw [hC] at hc
     obtain ⟨fs, hu, hone, hty⟩ := asks_fields
     have hfs : fs.size = 4 := by have := congrArg Array.size hty; simpa using this
     obtain ⟨xs, n', hn', hy, hlen, hxl, hf⟩ := DataW.trod_struct hu ht'
     obtain ⟨_, hcl, hat⟩ := World.cells?_some hc
     rw [hfs] at hxl
     obtain ⟨f0, g0, t0⟩ := field_at hty 0 _ rfl
     obtain ⟨f1, g1, t1⟩ := field_at hty 1 _ rfl
     obtain ⟨f2, g2, t2⟩ := field_at hty 2 _ rfl
     obtain ⟨f3, g3, t3⟩ := field_at hty 3 _ rfl
     obtain ⟨o0, k0⟩ := hone_of hone 0 _ g0
     obtain ⟨o1, k1⟩ := hone_of hone 1 _ g1
     obtain ⟨o2, k2⟩ := hone_of hone 2 _ g2
     obtain ⟨o3, k3⟩ := hone_of hone 3 _ g3
     have q0 := hf 0 _ g0
     have q1 := hf 1 _ g1
     have q2 := hf 2 _ g2
     have q3 := hf 3 _ g3
     rw [o0, k0, t0] at q0
     rw [o1, k1, t1] at q1
     rw [o2, k2, t2] at q2
     rw [o3, k3, t3] at q3
     obtain ⟨v0, v1, v2, v3, rfl⟩ := four_list hcl
     obtain ⟨y0, y1, y2, y3, rfl⟩ := four_list hxl
     simp only [List.drop_zero, List.drop_succ_cons, List.take_succ_cons, List.take_zero, List.getElem?_cons_zero, List.getElem?_cons_succ] at q0 q1 q2 q3
     obtain ⟨z0, e0, _, _⟩ := DataW.trod_int Try.underlying3 q0
     obtain ⟨z1, e1, _, w1⟩ := DataW.trod_int Try.underlying2 q1
     obtain ⟨z2, e2, _, w2⟩ := DataW.trod_int Try.underlying2 q2
     obtain ⟨z3, e3, _⟩ := DataW.trod_bool Try.underlying4 q3
     simp only [List.cons.injEq, and_true] at e0 e1 e2 e3
     subst e0 e1 e2 e3
     have a0 := hat 0 (by omega)
     have a1 := hat 1 (by omega)
     have a2 := hat 2 (by omega)
     have a3 := hat 3 (by omega)
     simp only [List.getElem?_cons_zero, List.getElem?_cons_succ] at a0 a1 a2 a3
     exact ⟨z0, z1, z2, z3, by simpa [Addr.add] using a0, a1, a2, a3, arg_i64 w1, arg_i64 w2⟩
    refine ⟨some a, len, cap, hcs, fun i hlt => ?_, hl, hm⟩
    obtain ⟨b, o, s⟩ := a
    have hs : s = none := by
      obtain ⟨z0, _, _, _, h0, _⟩ := key 0 (by omega)
      have := spot_none h0 ⟨z0, rfl⟩
      simpa [Addr.add] using this
    subst hs
    obtain ⟨z0, z1, z2, z3, _, h1, h2, h3, h4, h5⟩ := key i hlt
    rw [add_plain, add_plain] at h1 h2 h3
    exact ⟨b, o, z1, z2, z3, rfl, block_lt_of_cell h1, h1, h2, h3, h4, h5⟩
end
end Go.Proofs.Ytigbnmckdjlihaa
