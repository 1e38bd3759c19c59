/-
  Where the program may be entered: read off the first words of its own list, once.
-/
import Derived.Test.YtnohfdojcdhfoaaRows
import Derived.JoinedOf
import Derived.ProofKit
import Derived.WalkKit
namespace Go.Proofs.Ytnohfdojcdhfoaa.join
set_option maxRecDepth 100000 in
/-- The list's letters. -/
def signs_ : List Char := ['h', 'a', 'r', 'n', 'e', 's', 's', ' ', '9', '6', 'f', '3', '4', 'b', 'f', 'e', '8', '7', '2', 'f', '0', '9', '5', '3', '2', 'e', '8', '7', '8', '9', '6', 'f', 'c', 'f', '6', 'd', '2', 'c', '4', '7', '7', '1', 'c', '9', 'c', '3', 'c', '7', '0', '4', 'a', '4', 'a', 'b', '7', '1', '0', '3', 'f', '7', 'b', 'c', '5', '7', '9', '1', '5', 'd', '7', 'a', '4', 'a', ' ', 'c', 'u', 't', ' ', 'a', 't', ' ', 'e', 'n', 'g', 'r', 'a', 'm', '/', 'e', 'n', 'g', 'r', 'a', 'm', 'l', 'a', 'w', '1', '4', '.', 'E', 'n', 'g', 'i', 'n', 'e', 'A', 's', 'k', 's', ' ', 'e', 'n', 'g', 'r', 'a', 'm', '/', 'e', 'n', 'g', 'r', 'a', 'm', 'l', 'a', 'w', '1', '4', '.', 'E', 'n', 'g', 'i', 'n', 'e', 'C', 'o', 'p', 'i', 'e', 's', ' ', 'e', 'n', 'g', 'r', 'a', 'm', '/', 'e', 'n', 'g', 'r', 'a', 'm', 'l', 'a', 'w', '1', '4', '.', 'E', 'n', 'g', 'i', 'n', 'e', 'F', 'u', 'e', 'l', ' ', 'e', 'n', 'g', 'r', 'a', 'm', '/', 'e', 'n', 'g', 'r', 'a', 'm', 't', 'o', 'p', '.', 'T', 'o', 'p', 'S', 'u', 'm', 's', ' ', 'e', 'n', 'g', 'r', 'a', 'm', '/', 'e', 'n', 'g', 'r', 'a', 'm', 't', 'o', 'p', '.', 'T', 'o', 'p', 'P', 'o', 'w', 'e', 'r', 's', ' ', 'e', 'n', 'g', 'r', 'a', 'm', '/', 'e', 'n', 'g', 'r', 'a', 'm', 't', 'o', 'p', '.', 'T', 'o', 'p', 'G', 'c', 'd', 's', ' ', 'e', 'n', 'g', 'r', 'a', 'm', '/', 'e', 'n', 'g', 'r', 'a', 'm', 't', 'o', 'p', '.', 'T', 'o', 'p', 'C', 'a', 'l', 'l', 's', ' ', 'e', 'n', 'g', 'r', 'a', 'm', '/', 'e', 'n', 'g', 'r', 'a', 'm', 't', 'o', 'p', '.', 'T', 'o', 'p', 'S', 'w', 'a', 'p', 's', ' ', 'e', 'n', 'g', 'r', 'a', 'm', '/', 'e', 'n', 'g', 'r', 'a', 'm', 't', 'o', 'p', '.', 'T', 'o', 'p', 'T', 'r', 'a', 'p', 's', ' ', 'e', 'n', 'g', 'r', 'a', 'm', '/', 'e', 'n', 'g', 'r', 'a', 'm', 't', 'o', 'p', '.', 'T', 'o', 'p', 'G', 'r', 'o', 'w', 's', ' ', 'e', 'n', 'g', 'r', 'a', 'm', '/', 'e', 'n', 'g', 'r', 'a', 'm', 't', 'o', 'p', '.', 'T', 'o', 'p', 'F', 'i', 'b', 's', ' ', 'e', 'n', 'g', 'r', 'a', 'm', '/', 'e', 'n', 'g', 'r', 'a', 'm', 't', 'o', 'p', '.', 'T', 'o', 'p', 'P', 'r', 'i', 'm', 'e', 's', ' ', 'e', 'n', 'g', 'r', 'a', 'm', '/', 'e', 'n', 'g', 'r', 'a', 'm', 't', 'o', 'p', '.', 'T', 'o', 'p', 'S', 't', 'e', 'p', 's', ' ', 'e', 'n', 'g', 'r', 'a', 'm', '/', 'e', 'n', 'g', 'r', 'a', 'm', 't', 'o', 'p', '.', 'T', 'o', 'p', 'B', 'i', 't', 's', ' ', 'e', 'n', 'g', 'r', 'a', 'm', '/', 'e', 'n', 'g', 'r', 'a', 'm', 't', 'o', 'p', '.', 'T', 'o', 'p', 'L', 'e', 'a', 's', 't', ' ', 'e', 'n', 'g', 'r', 'a', 'm', '/', 'e', 'n', 'g', 'r', 'a', 'm', 't', 'o', 'p', '.', 'T', 'o', 'p', 'C', 'o', 'p', 'i', 'e', 's', ' ', 'e', 'n', 'g', 'r', 'a', 'm', '/', 'e', 'n', 'g', 'r', 'a', 'm', 't', 'o', 'p', '.', 'T', 'o', 'p', 'S', 'o', 'r', 't', 's', ' ', 'e', 'n', 'g', 'r', 'a', 'm', '/', 'e', 'n', 'g', 'r', 'a', 'm', 't', 'o', 'p', '.', 'T', 'o', 'p', 'P', 'a', 'r', 't', 's', ' ', 'e', 'n', 'g', 'r', 'a', 'm', '/', 'e', 'n', 'g', 'r', 'a', 'm', 't', 'o', 'p', '.', 'T', 'o', 'p', 'N', 'e', 's', 't', 'e', 'd', ' ', 'e', 'n', 'g', 'r', 'a', 'm', '/', 'e', 'n', 'g', 'r', 'a', 'm', 't', 'o', 'p', '.', 'T', 'o', 'p', 'E', 'v', 'e', 'n', 's', ' ', 'e', 'n', 'g', 'r', 'a', 'm', '/', 'e', 'n', 'g', 'r', 'a', 'm', 't', 'o', 'p', '.', 'T', 'o', 'p', 'V', 'e', 'r', 'd', 'i', 'c', 't', 's', ' ', 'e', 'n', 'g', 'r', 'a', 'm', '/', 'e', 'n', 'g', 'r', 'a', 'm', 't', 'o', 'p', '.', 'T', 'o', 'p', 'R', 'e', 'p', 'l', 'i', 'e', 's', ' ', 'e', 'n', 'g', 'r', 'a', 'm', '/', 'e', 'n', 'g', 'r', 'a', 'm', 't', 'o', 'p', '.', 'T', 'o', 'p', 'D', 'o', 'u', 'b', 'l', 'e', 's', ' ', 'e', 'n', 'g', 'r', 'a', 'm', '/', 'e', 'n', 'g', 'r', 'a', 'm', 't', 'o', 'p', '.', 'T', 'o', 'p', 'F', 'a', 'c', 't', 'o', 'r', 'i', 'a', 'l', 's', ' ', 'e', 'n', 'g', 'r', 'a', 'm', '/', 'e', 'n', 'g', 'r', 'a', 'm', 't', 'o', 'p', '.', 'T', 'o', 'p', 'D', 'i', 'g', 'i', 't', 's', ' ', 'e', 'n', 'g', 'r', 'a', 'm', '/', 'e', 'n', 'g', 'r', 'a', 'm', 't', 'o', 'p', '.', 'T', 'o', 'p', 'R', 'o', 'o', 't', 's', ' ', 'e', 'n', 'g', 'r', 'a', 'm', '/', 'e', 'n', 'g', 'r', 'a', 'm', 't', 'o', 'p', '.', 'T', 'o', 'p', 'B', 'y', 't', 'e', 's']
set_option maxRecDepth 100000 in
theorem order_ : Try.prog.initOrder = String.ofList signs_ := by kernel_rfl
theorem list_ : Try.prog.initOrder.toList = signs_ := by rw [order_]; exact String.toList_ofList
set_option maxRecDepth 100000 in
theorem words_ : behindMainWord (wordsSigns signs_) = "cut".toList :: (behindMainWord (wordsSigns signs_)).tail := by kernel_rfl
theorem j_later : Try.prog.laysLater = false := by kernel_rfl
theorem j_bears : Try.prog.bearsReflect = false := by kernel_rfl
theorem j_doors : Try.prog.doorFits [] = true := by kernel_rfl
theorem strip_ (r : List (List Char)) : stripLifts liftWords ("cut".toList :: r) = ([], "cut".toList :: r) := by rfl
theorem j_enter : Try.prog.mayEnter = true := by
  unfold Program.mayEnter
  rw [list_, words_]
  generalize (behindMainWord (wordsSigns signs_)).tail = r
  simp only [strip_, j_later, j_bears, j_doors]
  rfl
end Go.Proofs.Ytnohfdojcdhfoaa.join
