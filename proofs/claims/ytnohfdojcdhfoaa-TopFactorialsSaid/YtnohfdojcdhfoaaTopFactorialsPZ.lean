/-
  Factorials: the runs.
-/
import Derived.Test.YtnohfdojcdhfoaaZTopRun1
import Derived.Test.YtnohfdojcdhfoaaZTopRun2
import Derived.Test.YtnohfdojcdhfoaaZTopRun3
import Derived.Test.YtnohfdojcdhfoaaZTopRun4
import Derived.Test.YtnohfdojcdhfoaaZTopRun5
import Derived.Test.YtnohfdojcdhfoaaZTopRun6
import Derived.Test.YtnohfdojcdhfoaaZTopRun7
import Derived.Test.YtnohfdojcdhfoaaZTopRun8
import Derived.Test.YtnohfdojcdhfoaaZTopRun9
import Derived.Test.YtnohfdojcdhfoaaFrameZ
import Derived.Test.YtnohfdojcdhfoaaTopRunZ
import Derived.Test.YtnohfdojcdhfoaaTopAwakeZ
import Derived.Test.YtnohfdojcdhfoaaTopMaskZ
import Derived.Test.YtnohfdojcdhfoaaTopMemZ
namespace Go.Proofs.Ytnohfdojcdhfoaa
open Go.RowKit
def facU : List FnV := [⟨102, 1, ⟨#[97, 63, 97, 97, 32, 49, 45, 206, 187, 102, 42, 58, 49, 59]⟩⟩]
theorem fac_right : RightU 0 0 facU := by
  refine ⟨by decide, by decide, by decide, by decide, fun k f hf => ?_, fun k hk => ?_, fun f hf => ?_⟩
  · match k, hf with
    | 0, hf => simp only [facU, List.getElem?_cons_zero, Option.some.injEq] at hf; subst hf; exact ⟨by decide, by decide, by decide, by decide⟩
    | k + 1, hf => simp [facU] at hf
  · match k, hk with
    | 0, _ => exact (by decide +kernel : (rFn facU 0).1 = 0)
    | k + 1, hk => have e : facU.length = 1 := rfl; omega
  · simp only [facU, List.mem_cons, List.not_mem_nil, or_false] at hf
    subst hf; decide
def facN : Nat → Int
  | 0 => 1
  | n + 1 => if n = 0 then 1 else wrap64 (facN n * ((n : Int) + 1))
theorem fac_all : ∀ k : Nat, k < 30 → (eDo facU [] 0 0 999 [(k : Int)] [] [] []).map (fun q => (q.1, q.2.1)) = some (facN k, 0) := by decide +kernel
end Go.Proofs.Ytnohfdojcdhfoaa
