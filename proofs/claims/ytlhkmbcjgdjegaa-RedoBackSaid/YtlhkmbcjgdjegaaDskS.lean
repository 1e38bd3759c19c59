/-
  A disk in a state; slices of own rows; the front of a block as a text.
-/
import Derived.Test.YtlhkmbcjgdjegaaDsk
import Derived.Test.YtlhkmbcjgdjegaaSt
import Derived.Test.YtlhkmbcjgdjegaaOwn
namespace Go.Proofs.Ytlhkmbcjgdjegaa
open Go.RowKit
theorem own_form {w : World} {base n e : Nat} {v : Value} {xs : List Value} (h : w.ownsRow base e 1 v n xs) : ∃ A c, v = .slice A n c ∧ Src w A xs ∧ xs.length = n ∧ ∀ ad, A = some ad → ad.spot = none ∧ base ≤ ad.block := by
  have hl : xs.length = n := by simpa using h.1
  rcases h.2 with ⟨rfl, h0⟩ | ⟨g, cap, cur, rfl, hb, hg, _⟩
  · subst h0
    exact ⟨none, 0, rfl, fun hp => absurd hp (by omega), hl, by simp⟩
  · refine ⟨_, cap, rfl, fun _ => ⟨_, rfl, ?_, h.cells rfl⟩, hl, fun ad e => ?_⟩
    · rcases Nat.lt_or_ge g w.heap.size with hlt | hge
      · exact hlt
      · rw [Array.getElem?_eq_none hge] at hg; cases hg
    · injection e with e
      subst e
      exact ⟨rfl, hb⟩
def DskS (w : World) (p bL bS bW : Nat) (s : St) : Prop := Dsk w p bL bS bW s.L s.S s.V
theorem str_front {w : World} {g : Nat} {X : List UInt8} {r : List Value} (h : Whole w g 5 (bts X ++ r)) (n : Nat) (hn : X.length = n) (c : Nat) :
    (convert 22 9 (.slice (some ⟨g, 0, none⟩) n c)).run Try.prog w = .ok (.string (strOf X)) w := by
  subst hn
  have hs : Src w (some ⟨g, 0, none⟩) (bts X) := by
    have := Src.of_whole h 0 X.length
    rwa [List.drop_zero, List.take_append_of_le_length (by rw [bts_len]; omega), List.take_of_length_le (by rw [bts_len]; omega)] at this
  exact run_str 22 5 9 Try.underlying22 Try.underlying5 Try.underlying9 _ X c w hs (fun ad e => by injection e with e; subst e; rfl)
end Go.Proofs.Ytlhkmbcjgdjegaa
