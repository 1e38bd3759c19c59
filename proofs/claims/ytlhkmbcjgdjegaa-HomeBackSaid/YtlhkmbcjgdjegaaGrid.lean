/-
  A slice of slices of bytes as it comes in.
-/
import Derived.Test.YtlhkmbcjgdjegaaLists
import Derived.Test.YtlhkmbcjgdjegaaFrame
import Derived.Test.YtlhkmbcjgdjegaaChecked
import Derived.Deep.Slices
import Derived.ChangeSlices
namespace Go.Proofs.Ytlhkmbcjgdjegaa
open Go.RowKit Go.ChangeShapes Go.WideShapes Go.Deep
theorem pair_list {α β : Type} {P : Nat → α → β → Prop} (n : Nat) (h : ∀ i, i < n → ∃ a b, P i a b) : ∃ (l : List α) (m : List β), l.length = n ∧ m.length = n ∧ ∀ i a b, l[i]? = some a → m[i]? = some b → P i a b := by
  induction n with
  | zero => exact ⟨[], [], rfl, rfl, fun i a b h => by simp at h⟩
  | succ n ih =>
    obtain ⟨l, m, hl, hm, hx⟩ := ih fun i hi => h i (by omega)
    obtain ⟨a, b, hab⟩ := h n (by omega)
    refine ⟨l ++ [a], m ++ [b], by simp [hl], by simp [hm], fun i x y hx1 hy1 => ?_⟩
    rcases Nat.lt_trichotomy i n with hi | hi | hi
    · rw [List.getElem?_append_left (by omega)] at hx1 hy1
      exact hx i x y hx1 hy1
    · subst hi
      rw [← hl, List.getElem?_concat_length] at hx1
      rw [← hm, List.getElem?_concat_length] at hy1
      cases hx1
      cases hy1
      exact hab
    · rw [List.getElem?_eq_none (by simp; omega)] at hx1
      cases hx1
section
variable {H : Type} {enc : TypeId × Value → H} {w : World} {base : Nat} {held : Bool}
theorem grid_open {fuel : Nat} {cs : List Value} {x : DataW H × List MemPlace} (h : DataW.trod enc Try.prog w base (fun _ => true) held fuel 30 cs = some x) (v : Value) (hv : cs = [v]) :
    ∃ A n c vs ls, v = .slice A n c ∧ vs.length = n ∧ Src w A vs ∧ (0 < n → ∀ ad, A = some ad → ad.spot = none) ∧ Lists w vs ls ∧ n ≤ 9223372036854775807 := by
  subst hv
  rcases open_slice Try.underlying30 h with ⟨h0, _⟩ | ⟨a, len, cap, m, f, D, Pl, hcs, hb, hl, hm, hmm, hx, hi⟩
  · simp only [List.cons.injEq, and_true] at h0
    exact ⟨none, 0, 0, [], [], h0, rfl, Src.nil _ _, fun h => absurd h (by omega), ⟨rfl, fun i v X hv _ => by simp at hv⟩, by omega⟩
  · simp only [List.cons.injEq, and_true] at hcs
    rw [if_pos rfl] at hmm
    subst hmm
    have key : ∀ i, i < len → ∃ (u : Value) (X : List UInt8), w.cell? (a.add i) = some u ∧ ∃ A n c, u = .slice A n c ∧ Bs w A n c X := by
      intro i hlt
      have hC : Try.prog.cellsOf 22 = 1 := by kernel_rfl
      obtain ⟨cs', hc, ht'⟩ := hi i (by omega)
      rw [hC, Nat.mul_one] at hc
      obtain ⟨_, hcl, hat⟩ := World.cells?_some hc
      match cs', hcl with
      | [u], _ =>
        have h0 := hat 0 (by omega)
        rw [List.getElem?_cons_zero, show ((a.add i).add 0) = a.add i by simp [Addr.add]] at h0
        rcases open_ints Try.underlying22 Try.underlying5 (by kernel_rfl) ht' with ⟨hcs, _⟩ | ⟨ad, l, c, zs, hcs, _, hl, hm, hz, hx, hcell, hwz⟩
        · simp only [List.cons.injEq, and_true] at hcs
          exact ⟨u, [], h0, none, 0, 0, hcs, Bs.nil w⟩
        · simp only [List.cons.injEq, and_true] at hcs
          obtain ⟨X, hX⟩ := Bs.of_row (show IsRow .u8 w (some ad) l c zs from .inr ⟨ad, rfl, hl, hm, by simpa using hz, hcell, hwz⟩)
          exact ⟨u, X, h0, some ad, l, c, hcs, hX⟩
    obtain ⟨vs, ls, hvl, hll, hkx⟩ := pair_list len key
    have hbk : ∀ i, (a.add i).block = a.block := fun i => by unfold Addr.add; split <;> rfl
    refine ⟨some a, len, m, vs, ls, hcs, hvl, fun hp => ?_, fun h0 ad e => ?_, ⟨by omega, fun i u X hu hX => (hkx i u X hu hX).2⟩, by unfold maxLen at hm; omega⟩
    · refine ⟨a, rfl, ?_, fun j u hj => ?_⟩
      · obtain ⟨h1, _⟩ := hkx 0 _ _ (List.getElem?_eq_getElem hp) (List.getElem?_eq_getElem (by omega))
        rw [← hbk 0]
        exact block_lt_of_cell h1
      · have hj2 := (List.getElem?_eq_some_iff.1 hj).1
        exact (hkx j u _ hj (List.getElem?_eq_getElem (by omega))).1
    · injection e with e
      subst e
      obtain ⟨h1, A1, n1, c1, e1, _⟩ := hkx 0 _ _ (List.getElem?_eq_getElem (by omega)) (List.getElem?_eq_getElem (by omega))
      rw [show a.add 0 = a by simp [Addr.add]] at h1
      cases hs : a.spot with
      | none => rfl
      | some s =>
        exfalso
        unfold World.cell? at h1
        rw [hs] at h1
        split at h1
        · rw [e1] at h1; simp at h1
        · cases h1
end
end Go.Proofs.Ytlhkmbcjgdjegaa
