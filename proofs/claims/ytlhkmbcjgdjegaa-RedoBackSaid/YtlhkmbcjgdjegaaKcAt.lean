/-
  '[]byte("..")' of a constant.
-/
import Derived.Test.YtlhkmbcjgdjegaaBs
import Derived.Test.YtlhkmbcjgdjegaaChecked
import Derived.Lib.SlBytesConst
namespace Go.Proofs.Ytlhkmbcjgdjegaa
open Go.RowKit
/-- '[]byte("..")' of a constant, in a world whose size has a name. -/
theorem kc_at (W : World) {s : Nat} (h : W.heap.size = s) (C : Array Value) (n c : Nat) : (convert 22 22 (.slice (some ⟨s, 0, none⟩) n c)).run Try.prog (W.alloc (.cells C 5)) = .ok (.slice (some ⟨s, 0, none⟩) n c) (W.alloc (.cells C 5 (C.size, C.size + 1))) := by
  subst h
  exact Lib.run_convert_bytes_const (P := Try.prog) W 22 5 C n c Try.underlying22 Try.underlying5
/-- A constant's row. -/
theorem bs_const (w : World) (t : TypeId) (l : List UInt8) (fz : Nat × Nat) (hm : l.length ≤ 9223372036854775807) : Bs (w.alloc (.cells (bts l).toArray t fz)) (some ⟨w.heap.size, 0, none⟩) l.length l.length l := by
  refine ⟨rfl, fun _ => ⟨_, rfl, by simp, fun j v hj => ?_⟩, Nat.le_refl _, hm, fun _ ad e => by injection e with e; subst e; rfl⟩
  rw [add_plain, Nat.zero_add, cell_of_row _ _ _ _ _ _ (heap_alloc_new w _)]
  simpa using hj
end Go.Proofs.Ytlhkmbcjgdjegaa
