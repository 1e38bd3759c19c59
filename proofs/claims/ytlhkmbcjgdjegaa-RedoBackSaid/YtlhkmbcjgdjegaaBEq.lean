/-
  bytes.Equal.
-/
import Derived.Test.YtlhkmbcjgdjegaaBs
import Derived.Test.YtlhkmbcjgdjegaaChecked
namespace Go.Proofs.Ytlhkmbcjgdjegaa
open Go.RowKit
theorem str_ne {l m : List UInt8} : ((strOf l).toList == (strOf m).toList) = decide (l = m) := by
  rw [ByteArray.toList_eq, ByteArray.toList_eq]
  show (l == m) = decide (l = m)
  by_cases h : l = m
  · subst h; simp
  · rw [decide_eq_false h, beq_eq_false_iff_ne]; exact h
section
variable {w : World} {A A2 : Option Addr} {n c n2 c2 : Nat}
set_option maxHeartbeats 1000000 in
theorem bequal_any {l m : List UInt8} (h : Bs w A n c l) (h2 : Bs w A2 n2 c2 m) :
    Calls Try.prog 67 #[.slice A n c, .slice A2 n2 c2] w fun e w' => e = .returned (.bool (decide (l = m))) ∧ w = w' := by
  have v1 := h.str (P := Try.prog) 22 5 9 Try.underlying22 Try.underlying5 Try.underlying9
  have v2 := h2.str (P := Try.prog) 22 5 9 Try.underlying22 Try.underlying5 Try.underlying9
  have HE := Lib.hid (str_ne (l := l) (m := m))
  go_enter Try.func67, Try.ntmps67
  go_wp2_with fail
  go_ret
  exact ⟨by rw [← HE.out]; rfl, rfl⟩
end
end Go.Proofs.Ytlhkmbcjgdjegaa
