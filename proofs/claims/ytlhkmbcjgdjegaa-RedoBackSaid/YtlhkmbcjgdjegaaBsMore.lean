/-
  More of slices of bytes: a beginning; own rows as whole blocks.
-/
import Derived.Test.YtlhkmbcjgdjegaaBs
namespace Go.Proofs.Ytlhkmbcjgdjegaa
open Go.RowKit
section
variable {w : World} {A : Option Addr} {n c : Nat} {l : List UInt8}
theorem Bs.take (h : Bs w A n c l) {m : Nat} (hm : m ≤ n) : Bs w A m c (l.take m) :=
  ⟨by rw [List.length_take, h.len]; omega, src_pre m h.src, Nat.le_trans hm h.cap, h.max, fun h0 => h.spot (by omega)⟩
where
  src_pre (m : Nat) {w : World} {A : Option Addr} {l : List UInt8} (hs : Src w A (bts l)) : Src w A (bts (l.take m)) := fun hp => by
    obtain ⟨ad, e, hb, hx⟩ := hs (by simp [bts] at hp ⊢; omega)
    refine ⟨ad, e, hb, fun j v hj => hx j v ?_⟩
    unfold bts at hj ⊢
    rw [List.map_take, List.getElem?_take] at hj
    split at hj
    · exact hj
    · cases hj

end
theorem bts_app (l m : List UInt8) : bts (l ++ m) = bts l ++ bts m := by simp [bts]
theorem add0 (A : Option Addr) : Option.map (fun x : Addr => x.add 0) A = A := by cases A <;> simp [Addr.add]
/-- An own row that is not empty: its block, whole. -/
theorem own_whole {w : World} {B n : Nat} {e : TypeId} {v : Value} {xs : List Value} (h : w.ownsRow B e 1 v n xs) (hn : 0 < n) :
    ∃ g r, v = .slice (some ⟨g, 0, none⟩) n (n + r.length) ∧ B ≤ g ∧ Whole w g e (xs ++ r) ∧ n + r.length ≤ maxLen := by
  rcases h.2 with ⟨_, h0⟩ | ⟨g, cap, cur, rfl, hb, hg, hc, hm, hs, ht⟩
  · omega
  · have hl : cur.toList.length = cap := by rw [Array.length_toList]; omega
    have h1 : n * 1 = n := Nat.mul_one n
    rw [h1] at ht
    have e1 : cap = n + (cur.toList.drop n).length := by rw [List.length_drop, hl]; omega
    refine ⟨g, cur.toList.drop n, by rw [← e1], hb, ?_, by omega⟩
    unfold Whole
    rw [← ht, List.take_append_drop]
    exact hg

end Go.Proofs.Ytlhkmbcjgdjegaa
