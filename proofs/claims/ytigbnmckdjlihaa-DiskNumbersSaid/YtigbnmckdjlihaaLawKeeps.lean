/-
  The walk of DiskKeeps.
-/
import Derived.Test.YtigbnmckdjlihaaKeepsPure
import Derived.Test.YtigbnmckdjlihaaLawOf
import Derived.Deep.DeepCutAuto
namespace Go.Proofs.Ytigbnmckdjlihaa
open Go.RowKit

/-- 'string(b[o:o+n])' of a block that is known whole. -/
theorem str_part {w : World} {g : Nat} {X : List UInt8} (h : Whole w g 5 (bts X)) (o n c : Nat) (ho : o + n ≤ X.length) :
    (convert 40 9 (.slice (some ⟨g, o, none⟩) n c)).run Try.prog w = .ok (.string (strOf ((X.drop o).take n))) w := by
  have hs : Src w (some ⟨g, o, none⟩) (bts ((X.drop o).take n)) := by rw [← bts_cut]; exact Src.of_whole h o n
  have hl : ((X.drop o).take n).length = n := by rw [List.length_take, List.length_drop]; omega
  have := run_str 40 5 9 Try.underlying40 Try.underlying5 Try.underlying9 _ ((X.drop o).take n) c w hs (fun ad e => by injection e with e; subst e; rfl)
  rwa [hl] at this

theorem str_head {w : World} {g : Nat} {X : List UInt8} (h : Whole w g 5 (bts X)) (n c : Nat) (hn : n ≤ X.length) :
    (convert 40 9 (.slice (some ⟨g, 0, none⟩) n c)).run Try.prog w = .ok (.string (strOf (X.take n))) w := str_part h 0 n c (by omega)
theorem str_tail {w : World} {g : Nat} {X : List UInt8} (h : Whole w g 5 (bts X)) (n : Nat) (hm : X.length = 64) (_ : ¬ 64 = n) (hn : n ≤ 64) :
    (convert 40 9 (.slice (some ⟨g, n, none⟩) (64 - n) (64 - n))).run Try.prog w = .ok (.string (strOf (X.drop n))) w := by
  have := str_part h n (64 - n) (64 - n) (by omega)
  rwa [List.take_of_length_le (by rw [List.length_drop]; omega)] at this
theorem str_void {w : World} {g : Nat} {X : List UInt8} (h : Whole w g 5 (bts X)) (hm : X.length = 64) :
    (convert 40 9 (.slice (some ⟨g, 0, none⟩) 0 0)).run Try.prog w = .ok (.string (strOf (X.drop 64))) w := by
  have := str_part h 0 0 0 (by omega)
  rw [List.drop_of_length_le (by omega)]
  exact this
theorem whole_at {w : World} {g g' t : Nat} {cs : List Value} (h : Whole w g t cs) (e : g = g') : Whole w g' t cs := e ▸ h
theorem strOf_size (l : List UInt8) : (strOf l).size = l.length := by simp [strOf, ByteArray.size]
theorem strOf_app (l m : List UInt8) : strOf (l ++ m) = strOf l ++ strOf m := by
  apply ByteArray.ext
  simp [strOf]

section
variable {w : World}
end
end Go.Proofs.Ytigbnmckdjlihaa
