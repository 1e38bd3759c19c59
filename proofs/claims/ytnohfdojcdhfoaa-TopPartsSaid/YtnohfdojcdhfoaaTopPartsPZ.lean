/-
  Locals of their own: the runs.
-/
import Derived.Test.YtnohfdojcdhfoaaZTopRun1
import Derived.Test.YtnohfdojcdhfoaaZTopRun2
import Derived.Test.YtnohfdojcdhfoaaZTopRun3
import Derived.Test.YtnohfdojcdhfoaaZTopRun4
import Derived.Test.YtnohfdojcdhfoaaZTopRun5
import Derived.Test.YtnohfdojcdhfoaaZTopRun6
import Derived.Test.YtnohfdojcdhfoaaZTopRun7
import Derived.Test.YtnohfdojcdhfoaaZTopRun8
import Derived.Test.YtnohfdojcdhfoaaZTopRun9
import Derived.Test.YtnohfdojcdhfoaaFrameZ
import Derived.Test.YtnohfdojcdhfoaaTopRunZ
import Derived.Test.YtnohfdojcdhfoaaTopAwakeZ
import Derived.Test.YtnohfdojcdhfoaaTopMaskZ
import Derived.Test.YtnohfdojcdhfoaaTopMemZ
namespace Go.Proofs.Ytnohfdojcdhfoaa
open Go.RowKit
def prtU : List FnV := [⟨103, 2, ⟨#[97, 49, 43, 65, 98, 50, 42, 66, 97, 98, 43]⟩⟩, ⟨102, 2, ⟨#[97, 98, 206, 187, 103, 44, 97, 98, 45]⟩⟩, ⟨104, 2, ⟨#[98, 97, 206, 187, 103, 97, 98, 206, 187, 102, 43]⟩⟩]
theorem prt_right : RightU 0 0 prtU := by
  refine ⟨by decide, by decide, by decide, by decide, fun k f hf => ?_, fun k hk => ?_, fun f hf => ?_⟩
  · match k, hf with
    | 0, hf => simp only [prtU, List.getElem?_cons_zero, Option.some.injEq] at hf; subst hf; exact ⟨by decide, by decide, by decide, by decide⟩
    | 1, hf => simp only [prtU, List.getElem?_cons_zero, List.getElem?_cons_succ, Option.some.injEq] at hf; subst hf; exact ⟨by decide, by decide, by decide, by decide⟩
    | 2, hf => simp only [prtU, List.getElem?_cons_zero, List.getElem?_cons_succ, Option.some.injEq] at hf; subst hf; exact ⟨by decide, by decide, by decide, by decide⟩
    | k + 3, hf => simp [prtU] at hf
  · match k, hk with
    | 0, _ => exact (by decide +kernel : (rFn prtU 0).1 = 0)
    | 1, _ => exact (by decide +kernel : (rFn prtU 1).1 = 0)
    | 2, _ => exact (by decide +kernel : (rFn prtU 2).1 = 0)
    | k + 3, hk => have e : prtU.length = 3 := rfl; omega
  · simp only [prtU, List.mem_cons, List.not_mem_nil, or_false] at hf
    rcases hf with rfl | rfl | rfl <;> decide
theorem prt_f (a b : Int) : (eDo prtU [] 0 1 99 [a, b] [] [] []).map (fun q => (q.1, q.2.1)) = some (wrap64 (a - b), 0) := by kernel_rfl
theorem prt_h (a b : Int) : (eDo prtU [] 0 2 99 [a, b] [] [] []).map (fun q => (q.1, q.2.1)) = some (wrap64 (wrap64 (wrap64 (b + 1) + wrap64 (a * 2)) + wrap64 (a - b)), 0) := by kernel_rfl
end Go.Proofs.Ytnohfdojcdhfoaa
