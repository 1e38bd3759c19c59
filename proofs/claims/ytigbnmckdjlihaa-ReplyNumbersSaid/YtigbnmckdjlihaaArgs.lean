/-
  More arguments as the walks take them: int32, rows of truths.
-/
import Derived.Test.YtigbnmckdjlihaaFrame
import Derived.Test.YtigbnmckdjlihaaRead
import Derived.Test.YtigbnmckdjlihaaChecked
import Derived.Deep.Grids
namespace Go.Proofs.Ytigbnmckdjlihaa
open Go.RowKit
theorem arg_i32 {a : Int} (h : (Lit.int .i32 a).wf = true) : -2147483648 ≤ a ∧ a ≤ 2147483647 := by
  simpa [Lit.wf, IntKind.min, IntKind.max, IntKind.signed, IntKind.bits] using h
/-- A slice of truths that came in. -/
def IsBools (w : World) (A : Option Addr) (n : Nat) (l : List Bool) : Prop := l.length = n ∧ Src w A (bls l) ∧ (0 < n → ∀ ad, A = some ad → ad.spot = none)
open Go.ChangeShapes Go.WideShapes Go.Deep in
theorem bools_open {H : Type} {enc : TypeId × Value → H} {P : Program} {w : World} {base : Nat} {held : Bool} {t e : TypeId} {fuel : Nat} {A : Option Addr} {n c : Nat} {x : DataW H × List MemPlace} (ht : P.underlying t = some (.slice e)) (he : P.underlying e = some .bool) (hc : P.cellsOf e = 1)
    (h : DataW.trod enc P w base (fun _ => true) held fuel t (Value.cells (.slice A n c)).toList = some x) : ∃ l, IsBools w A n l ∧ n ≤ 9223372036854775807 := by
  rcases open_bools ht he hc h with ⟨hcs, _⟩ | ⟨a, len, cap, B, hcs, _, hl, hm, _, hcell⟩
  · simp [Value.cells] at hcs
    obtain ⟨rfl, rfl, rfl⟩ := hcs
    exact ⟨[], ⟨rfl, Src.nil _ _, fun h => absurd h (by omega)⟩, by omega⟩
  · simp [Value.cells] at hcs
    obtain ⟨rfl, rfl, rfl⟩ := hcs
    have hbk : ∀ i, (a.add i).block = a.block := fun i => by unfold Addr.add; split <;> rfl
    refine ⟨(List.range n).map B, ⟨by simp, fun hp => ?_, fun h0 ad e => ?_⟩, by unfold maxLen at hm; omega⟩
    · have h0 : 0 < n := by simpa [bls] using hp
      refine ⟨a, rfl, by rw [← hbk 0]; exact block_lt_of_cell (hcell 0 (by omega)), fun j v hj => ?_⟩
      simp only [bls, List.map_map, List.getElem?_map] at hj
      rcases Nat.lt_or_ge j n with hjn | hjn
      · rw [List.getElem?_range hjn] at hj
        simp only [Option.map_some, Option.some.injEq] at hj
        rw [← hj]
        exact hcell j (by omega)
      · rw [List.getElem?_eq_none (by simpa using hjn)] at hj; cases hj
    · injection e with e
      subst e
      have h1 := hcell 0 (by omega)
      rw [show a.add 0 = a by simp [Addr.add]] at h1
      cases hs : a.spot with
      | none => rfl
      | some u =>
        exfalso
        unfold World.cell? at h1
        rw [hs] at h1
        split at h1
        · simp at h1
        · cases h1
end Go.Proofs.Ytigbnmckdjlihaa
