/-
  A list of changes as it comes in.
-/
import Derived.Test.YteodadngnlekfaaDelta
import Derived.Test.YteodadngnlekfaaFrame
import Derived.Deep.Slices
import Derived.Deep.Fields
import Derived.ChangeSame
import Derived.ChangeSlices
namespace Go.Proofs.Yteodadngnlekfaa
open Go.RowKit Go.ChangeShapes Go.WideShapes Go.Deep
theorem list_of {α : Type} {P : Nat → α → Prop} (n : Nat) (h : ∀ i, i < n → ∃ a, P i a) : ∃ l : List α, l.length = n ∧ ∀ i a, l[i]? = some a → P i a := by
  induction n with
  | zero => exact ⟨[], rfl, fun i a h => by simp at h⟩
  | succ n ih =>
    obtain ⟨l, hl, hx⟩ := ih fun i hi => h i (by omega)
    obtain ⟨a, ha⟩ := h n (by omega)
    refine ⟨l ++ [a], by simp [hl], fun i b hb => ?_⟩
    rcases Nat.lt_trichotomy i n with hi | hi | hi
    · rw [List.getElem?_append_left (by omega)] at hb
      exact hx i b hb
    · subst hi
      rw [← hl, List.getElem?_concat_length] at hb
      cases hb
      exact ha
    · rw [List.getElem?_eq_none (by simp; omega)] at hb
      cases hb
section
variable {H : Type} {enc : TypeId × Value → H} {w : World} {base : Nat} {held : Bool}
theorem ints_row {k : IntKind} {P : Program} {t e : TypeId} {fuel : Nat} {v : Value} {x : DataW H × List MemPlace} (ht : P.underlying t = some (.slice e)) (he : P.underlying e = some (.int k)) (hc : P.cellsOf e = 1)
    (h : DataW.trod enc P w base (fun _ => true) held fuel t [v] = some x) : ∃ A n c zs, v = .slice A n c ∧ IsRow k w A n c zs := by
  rcases open_ints ht he hc h with ⟨hcs, _⟩ | ⟨x, l, c, zs, hcs, _, hl, hm, hz, hx, hcell, hwz⟩
  · simp only [List.cons.injEq, and_true] at hcs
    exact ⟨none, 0, 0, [], hcs, .inl ⟨rfl, rfl, rfl, rfl⟩⟩
  · simp only [List.cons.injEq, and_true] at hcs
    exact ⟨some x, l, c, zs, hcs, .inr ⟨x, rfl, hl, hm, by simpa using hz, hcell, hwz⟩⟩
theorem dch_fields : ∃ fs, Try.prog.underlying 25 = some (.struct fs) ∧ oneCellFields Try.prog fs = true ∧ fs.map (·.type) = #[3, 22] :=
  ⟨_, Try.underlying25, by kernel_rfl, by kernel_rfl⟩
theorem dtwo_list {α : Type} {l : List α} (h : l.length = 2) : ∃ a b, l = [a, b] := by
  match l, h with
  | [a, b], _ => exact ⟨a, b, rfl⟩
theorem dfield_at {fs : Array Field} {ts : Array TypeId} (h : fs.map (·.type) = ts) (j : Nat) (t : TypeId) (hj : ts[j]? = some t) : ∃ f : Field, fs[j]? = some f ∧ f.type = t := by
  rw [← h, Array.getElem?_map] at hj
  cases hf : fs[j]? with
  | none => rw [hf] at hj; cases hj
  | some f => rw [hf] at hj; exact ⟨f, rfl, by simpa using hj⟩
theorem dspot_none {w : World} {x : Addr} {k : Int} (hc : w.cell? x = some (.int .i64 k)) : x.spot = none := by
  cases hs : x.spot with
  | none => rfl
  | some u =>
    exfalso
    unfold World.cell? at hc
    rw [hs] at hc
    split at hc
    · simp at hc
    · cases hc
theorem dch_open {fuel : Nat} {cs : List Value} {x : DataW H × List MemPlace} (h : DataW.trod enc Try.prog w base (fun _ => true) held fuel 26 cs = some x) (v : Value) (hv : cs = [v]) :
    ∃ A n c l, v = .slice A n c ∧ l.length = n ∧ Chs w A l ∧ n ≤ c ∧ c ≤ maxLen := by
  subst hv
  rcases open_slice Try.underlying26 h with ⟨h0, _⟩ | ⟨a, len, cap, m, f, D, Pl, hcs, hb, hl, hm, hmm, hx, hi⟩
  · simp only [List.cons.injEq, and_true] at h0
    exact ⟨none, 0, 0, [], h0, rfl, Chs.nil _ _, Nat.le_refl _, by unfold maxLen; omega⟩
  · simp only [List.cons.injEq, and_true] at hcs
    rw [if_pos rfl] at hmm
    subst hmm
    have key : ∀ i, i < len → ∃ q : ChV, ChOk w q ∧ w.cell? (a.add (i * 2)) = some (.int .i64 q.page) ∧ w.cell? ((a.add (i * 2)).add 1) = some (.slice q.bA q.bn q.bc) := by
      intro i hlt
      have hC : Try.prog.cellsOf 25 = 2 := by kernel_rfl
      obtain ⟨cs', hc, ht'⟩ := hi i (by omega)
      rw [hC] at hc
      obtain ⟨fs, hu, hone, hty⟩ := dch_fields
      have hfs : fs.size = 2 := by have := congrArg Array.size hty; simpa using this
      obtain ⟨xs, n', hn', hy, hlen, hxl, hf⟩ := DataW.trod_struct hu ht'
      obtain ⟨_, hcl, hat⟩ := World.cells?_some hc
      rw [hfs] at hxl
      obtain ⟨f0, g0, t0⟩ := dfield_at hty 0 _ rfl
      obtain ⟨f1, g1, t1⟩ := dfield_at hty 1 _ rfl
      obtain ⟨o0, k0⟩ := hone_of hone 0 _ g0
      obtain ⟨o1, k1⟩ := hone_of hone 1 _ g1
      have q0 := hf 0 _ g0
      have q1 := hf 1 _ g1
      rw [o0, k0, t0] at q0
      rw [o1, k1, t1] at q1
      obtain ⟨v0, v1, rfl⟩ := dtwo_list hcl
      obtain ⟨y0, y1, rfl⟩ := dtwo_list hxl
      simp only [List.drop_zero, List.drop_succ_cons, List.take_succ_cons, List.take_zero, List.getElem?_cons_zero, List.getElem?_cons_succ] at q0 q1
      obtain ⟨z0, e0, _, w0⟩ := DataW.trod_int Try.underlying3 q0
      obtain ⟨A2, n2, c2, r2, e2, w2⟩ := ints_row Try.underlying22 Try.underlying5 (by kernel_rfl) q1
      simp only [List.cons.injEq, and_true] at e0
      subst e0 e2
      have a0 := hat 0 (by omega)
      have a1 := hat 1 (by omega)
      simp only [List.getElem?_cons_zero, List.getElem?_cons_succ] at a0 a1
      obtain ⟨B, hB⟩ := Bs.of_row w2
      obtain ⟨i00, i01⟩ := arg_i64 w0
      exact ⟨⟨z0, A2, n2, c2, B⟩, ⟨i00, i01, hB⟩, by simpa [Addr.add] using a0, a1⟩
    obtain ⟨l, hll, hlx⟩ := list_of len key
    refine ⟨some a, len, m, l, hcs, hll, ⟨fun h0 => ?_, fun q hq => ?_⟩, hl, hm⟩
    · obtain ⟨b, o, s⟩ := a
      have hs : s = none := by
        obtain ⟨_, h0, _⟩ := hlx 0 _ (List.getElem?_eq_getElem h0)
        have := dspot_none h0
        simpa [Addr.add] using this
      subst hs
      refine ⟨b, o, rfl, ?_, fun k q hq => ?_⟩
      · obtain ⟨_, h0, _⟩ := hlx 0 _ (List.getElem?_eq_getElem h0)
        rw [add_plain] at h0
        exact block_lt_of_cell h0
      · obtain ⟨_, h0, h1⟩ := hlx k q hq
        rw [add_plain] at h0
        rw [add_plain, add_plain] at h1
        exact ⟨h0, h1⟩
    · obtain ⟨i, hi, rfl⟩ := List.getElem_of_mem hq
      exact (hlx i _ (List.getElem?_eq_getElem hi)).1
end
end Go.Proofs.Yteodadngnlekfaa
