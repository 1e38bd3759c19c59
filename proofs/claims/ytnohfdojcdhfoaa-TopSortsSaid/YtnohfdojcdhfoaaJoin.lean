/-
  What frames ask of the whole program, besides where it may be entered.
-/
import Derived.Test.YtnohfdojcdhfoaaJoinA
namespace Go.Proofs.Ytnohfdojcdhfoaa.join
theorem lifts_of {P : Program} {L : List Char} {r : List (List Char)} (h1 : P.initOrder.toList = L) (h2 : behindMainWord (wordsSigns L) = "cut".toList :: r) : P.headLifts = [] := by
  unfold Program.headLifts
  rw [h1, h2]
  simp only [strip_]
  rfl
theorem final_of {P : Program} {L : List Char} {r : List (List Char)} (h1 : P.initOrder.toList = L) (h2 : behindMainWord (wordsSigns L) = "cut".toList :: r) : P.liftsFinal = false := by
  unfold Program.liftsFinal
  rw [lifts_of h1 h2, h1, h2]
  rfl
theorem make_of {P : Program} {L : List Char} {r : List (List Char)} (h1 : P.initOrder.toList = L) (h2 : behindMainWord (wordsSigns L) = "cut".toList :: r) : P.make = some .cut := by
  unfold Program.make
  rw [h1, h2]
  rfl
theorem j_lifts : Try.prog.liftsFinal = false := final_of list_ words_
theorem j_make : Try.prog.make = some .cut := make_of list_ words_
end Go.Proofs.Ytnohfdojcdhfoaa.join
