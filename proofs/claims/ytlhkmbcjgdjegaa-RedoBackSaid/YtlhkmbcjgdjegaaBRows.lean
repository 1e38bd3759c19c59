/-
  Slices of bytes of our own.
-/
import Derived.Test.YtlhkmbcjgdjegaaOwn
import Derived.Test.YtlhkmbcjgdjegaaFresh
namespace Go.Proofs.Ytlhkmbcjgdjegaa
open Go.RowKit
/-- Slices of bytes of our own, one for each list. -/
def Rows (B : Nat) (w : World) (vs : List Value) (rs : List (List UInt8)) : Prop :=
  vs.length = rs.length ∧ ∀ (i : Nat) (v : Value) (l : List UInt8), vs[i]? = some v → rs[i]? = some l → w.ownsRow B 5 1 v l.length (bts l)
theorem Rows.keep {B : Nat} {w w' : World} {vs : List Value} {rs : List (List UInt8)} (h : Rows B w vs rs) (hc : Chg [] w w') : Rows B w' vs rs :=
  ⟨h.1, fun i v l hv hl => own_keep (h.2 i v l hv hl) hc⟩
theorem Rows.nil (B : Nat) (w : World) : Rows B w [] [] := ⟨rfl, fun i v l hv => by simp at hv⟩
theorem Rows.snoc {B : Nat} {w : World} {vs : List Value} {rs : List (List UInt8)} (h : Rows B w vs rs) {v : Value} {l : List UInt8} (ho : w.ownsRow B 5 1 v l.length (bts l)) : Rows B w (vs ++ [v]) (rs ++ [l]) := by
  refine ⟨by simp [h.1], fun i u x hu hx => ?_⟩
  rcases Nat.lt_or_ge i vs.length with hi | hi
  · rw [List.getElem?_append_left hi] at hu
    rw [List.getElem?_append_left (by rw [← h.1]; exact hi)] at hx
    exact h.2 i u x hu hx
  · rw [List.getElem?_append_right hi] at hu
    rw [List.getElem?_append_right (by rw [← h.1]; exact hi)] at hx
    rw [← h.1] at hx
    cases hj : i - vs.length with
    | zero => rw [hj] at hu hx; simp at hu hx; subst hu; subst hx; exact ho
    | succ j => rw [hj] at hu; simp at hu
theorem own_grown {w w' : World} {B B2 n m : Nat} {e e2 : TypeId} {v v2 : Value} {xs ys : List Value} (h : w.ownsRow B e 1 v n xs) (h2 : w.ownsRow B2 e2 1 v2 m ys) (hne : e ≠ e2) (hg : w.grownBy w' v2.ownBlock) : w'.ownsRow B e 1 v n xs := by
  refine ⟨h.1, h.2.imp id ?_⟩
  rintro ⟨g, cap, cur, rfl, hb, hh, r⟩
  refine ⟨g, cap, cur, rfl, hb, ?_, r⟩
  rw [hg.block g ?_ ?_]
  · exact hh
  · rcases Nat.lt_or_ge g w.heap.size with hlt | hge
    · exact hlt
    · rw [Array.getElem?_eq_none hge] at hh; cases hh
  · intro hc
    rcases h2.2 with ⟨rfl, _⟩ | ⟨g2, cap2, cur2, rfl, hb2, hh2, _⟩
    · simp [Value.ownBlock] at hc
    · simp [Value.ownBlock] at hc
      subst hc
      rw [hh] at hh2
      simp at hh2
      exact hne hh2.2
theorem Rows.grown {B B2 m : Nat} {w w' : World} {vs : List Value} {rs : List (List UInt8)} (h : Rows B w vs rs) {v2 : Value} {ys : List Value} (h2 : w.ownsRow B2 22 1 v2 m ys) (hg : w.grownBy w' v2.ownBlock) : Rows B w' vs rs :=
  ⟨h.1, fun i v l hv hl => own_grown (h.2 i v l hv hl) h2 (by decide) hg⟩
theorem info_bytes : (Try.prog.info? 22).map (fun i => (i.zero, i.size, i.bytes)) = some (some (.slice none 0 0), 1, 24) := by kernel_rfl
theorem cells_slice : (Value.slice none 0 0).cells.size = 1 := rfl
end Go.Proofs.Ytlhkmbcjgdjegaa
