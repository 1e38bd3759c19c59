/-
  'make([]byte, 64)'.
-/
import Derived.Test.YtlhkmbcjgdjegaaFresh
import Derived.Test.YtlhkmbcjgdjegaaBs
namespace Go.Proofs.Ytlhkmbcjgdjegaa
open Go.RowKit
theorem make64 (W : World) : (Instr.makeSlice 22 (.int .i64 64) (.int .i64 64)).run Try.prog W = .ok (.slice (some ⟨W.heap.size, 0, none⟩) 64 64) (W.alloc (.cells (bts (zeros 64)).toArray 5)) := make_u8 64 (by omega) W
theorem bs64 {w : World} {g : Nat} {l : List UInt8} (h : Whole w g 5 (bts l)) (hl : l.length = 64) : Bs w (some ⟨g, 0, none⟩) 64 64 l := by
  have := Bs.of_all h (by omega)
  rwa [hl] at this
end Go.Proofs.Ytlhkmbcjgdjegaa
