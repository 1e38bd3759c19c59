/-
  A slice that reads as these cells, as a fact of a flow.
-/
import Derived.Test.YtlhkmbcjgdjegaaLaw
namespace Go.Proofs.Ytlhkmbcjgdjegaa
open Go.RowKit
/-- A slice that reads as these cells. -/
def srcF (n : Nat) (xs : List Value) : Fact := fun v W => ∃ A c, v = .slice A n c ∧ Src W A xs ∧ ∀ ad, A = some ad → ad.spot = none
theorem keeps_src (n : Nat) (xs : List Value) : Keeps (Chg []) (srcF n xs) := fun _ _ _ ⟨A, c, h1, h2, h3⟩ hc => ⟨A, c, h1, h2.keep hc, h3⟩
end Go.Proofs.Ytlhkmbcjgdjegaa
