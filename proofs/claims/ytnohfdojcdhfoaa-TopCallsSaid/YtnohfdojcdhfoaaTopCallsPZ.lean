/-
  Calls of itself: the runs.
-/
import Derived.Test.YtnohfdojcdhfoaaZTopRun1
import Derived.Test.YtnohfdojcdhfoaaZTopRun2
import Derived.Test.YtnohfdojcdhfoaaZTopRun3
import Derived.Test.YtnohfdojcdhfoaaZTopRun4
import Derived.Test.YtnohfdojcdhfoaaZTopRun5
import Derived.Test.YtnohfdojcdhfoaaZTopRun6
import Derived.Test.YtnohfdojcdhfoaaZTopRun7
import Derived.Test.YtnohfdojcdhfoaaZTopRun8
import Derived.Test.YtnohfdojcdhfoaaZTopRun9
import Derived.Test.YtnohfdojcdhfoaaFrameZ
import Derived.Test.YtnohfdojcdhfoaaTopRunZ
import Derived.Test.YtnohfdojcdhfoaaTopAwakeZ
import Derived.Test.YtnohfdojcdhfoaaTopMaskZ
import Derived.Test.YtnohfdojcdhfoaaTopMemZ
namespace Go.Proofs.Ytnohfdojcdhfoaa
open Go.RowKit
def depU : List FnV := [⟨102, 1, ⟨#[97, 63, 97, 32, 49, 45, 206, 187, 102, 32, 49, 43, 58, 48, 59]⟩⟩]
theorem dep_right : RightU 0 0 depU := by
  refine ⟨by decide, by decide, by decide, by decide, fun k f hf => ?_, fun k hk => ?_, fun f hf => ?_⟩
  · match k, hf with
    | 0, hf => simp only [depU, List.getElem?_cons_zero, Option.some.injEq] at hf; subst hf; exact ⟨by decide, by decide, by decide, by decide⟩
    | k + 1, hf => simp [depU] at hf
  · match k, hk with
    | 0, _ => exact (by decide +kernel : (rFn depU 0).1 = 0)
    | k + 1, hk => have e : depU.length = 1 := rfl; omega
  · simp only [depU, List.mem_cons, List.not_mem_nil, or_false] at hf
    subst hf; decide
theorem dep_all : ∀ k : Nat, k < 64 → (eDo depU [] 0 0 9000 [(k : Int)] [] [] []).map (fun q => (q.1, q.2.1)) = some (if 32 ≤ k then (0, 6) else ((k : Int), 0)) := by decide +kernel
end Go.Proofs.Ytnohfdojcdhfoaa
