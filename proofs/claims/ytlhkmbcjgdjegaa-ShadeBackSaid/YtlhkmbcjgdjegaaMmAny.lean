/-
  A Store, whatever it answers.
-/
import Derived.Test.YtlhkmbcjgdjegaaMmStore
import Derived.Test.YtlhkmbcjgdjegaaMmNew
namespace Go.Proofs.Ytlhkmbcjgdjegaa
open Go.RowKit
section
variable {w : World} {p gC gD : Nat} {L : List UInt8} {X : List Value} {V : List Bool} {Y : List Value} {most : Nat}
/-- A Store, whatever it answers. -/
def StAny (w : World) (p gC gD : Nat) (L : List UInt8) (X : List Value) (V : List Bool) (Y : List Value) (most : Nat) (e : Ending) (w' : World) : Prop :=
  ∃ b L' V', e = .returned (.bool b) ∧ Mm w' p gC gD L' X V' Y most ∧ L'.length = L.length ∧ V'.length = V.length ∧ Chg [gC, gD] w w'
theorem store_any (h : Mm w p gC gD L X V Y most) (r n : Int) (wide : Bool) :
    Calls Try.prog 25 #[.pointer (some ⟨p, 0, none⟩), .int .i64 r, .int .i64 n, .bool wide] w (StAny w p gC gD L X V Y most) := by
  obtain ⟨s, hs⟩ : ∃ s : Nat, s = if wide then 8 else 1 := ⟨_, rfl⟩
  by_cases hin : 0 ≤ r ∧ r + s ≤ L.length
  · obtain ⟨k, rfl⟩ := Int.eq_ofNat_of_zero_le hin.1
    refine (store_yes h k n wide s hs (by omega)).mono ?_
    rintro e w' ⟨rfl, hM, hc⟩
    exact ⟨true, _, _, rfl, hM, stL_len _ _ _ _, stV_len _ _ _, hc⟩
  · refine (store_no h r n wide s hs (by omega)).mono ?_
    rintro e w' ⟨rfl, rfl⟩
    exact ⟨false, L, V, rfl, h, rfl, rfl, Chg.refl _ _⟩
end
end Go.Proofs.Ytlhkmbcjgdjegaa
