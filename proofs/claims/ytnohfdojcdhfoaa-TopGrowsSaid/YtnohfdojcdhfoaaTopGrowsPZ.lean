/-
  Memory grows: the runs.
-/
import Derived.Test.YtnohfdojcdhfoaaZTopRun1
import Derived.Test.YtnohfdojcdhfoaaZTopRun2
import Derived.Test.YtnohfdojcdhfoaaZTopRun3
import Derived.Test.YtnohfdojcdhfoaaZTopRun4
import Derived.Test.YtnohfdojcdhfoaaZTopRun5
import Derived.Test.YtnohfdojcdhfoaaZTopRun6
import Derived.Test.YtnohfdojcdhfoaaZTopRun7
import Derived.Test.YtnohfdojcdhfoaaZTopRun8
import Derived.Test.YtnohfdojcdhfoaaZTopRun9
import Derived.Test.YtnohfdojcdhfoaaFrameZ
import Derived.Test.YtnohfdojcdhfoaaTopRunZ
import Derived.Test.YtnohfdojcdhfoaaTopAwakeZ
import Derived.Test.YtnohfdojcdhfoaaTopMaskZ
import Derived.Test.YtnohfdojcdhfoaaTopMemZ
namespace Go.Proofs.Ytnohfdojcdhfoaa
open Go.RowKit
def grwC : ByteArray := ⟨#[97, 194, 164, 35, 50, 53, 54, 42, 43]⟩
def grwT : List TkV := [⟨97, 0, 0⟩, ⟨164, 0, 0⟩, ⟨35, 0, 0⟩, ⟨48, 256, 0⟩, ⟨42, 0, 0⟩, ⟨43, 0, 0⟩]
def grwG : List Int := [(-1), (-1), (-1), (-1), (-1), (-1)]
theorem grw_tok : tokR grwC = some grwT := by kernel_rfl
theorem grw_nest : (rNest (signs grwT)).map (·.1) = some grwG := by decide +kernel
theorem grw_ok : (rFn (oneF grwC) 0).1 = 0 := by decide +kernel
def zerC : ByteArray := ⟨#[49, 194, 164, 44, 54, 52, 64]⟩
def zerT : List TkV := [⟨48, 1, 0⟩, ⟨164, 0, 0⟩, ⟨44, 0, 0⟩, ⟨48, 64, 0⟩, ⟨64, 0, 0⟩]
def zerG : List Int := [(-1), (-1), (-1), (-1), (-1)]
theorem zer_tok : tokR zerC = some zerT := by kernel_rfl
theorem zer_nest : (rNest (signs zerT)).map (·.1) = some zerG := by decide +kernel
theorem zer_ok : (rFn (oneF zerC) 0).1 = 0 := by decide +kernel
theorem grw_all : ∀ k : Nat, k < 12 → (eDo (oneF grwC) [] 8 0 100000 [(k : Int), 0] (List.replicate 64 0) [false] []).map (fun q => (q.1, q.2.1)) = some (if k < 8 then 1 + (1 + (k : Int)) * 256 else 255, 0) := by decide +kernel
theorem grw_run (k : Nat) (hk : k < 12) : EndsAs grwC (k : Int) 0 (if k < 8 then 1 + (1 + (k : Int)) * 256 else 255) 0 := ends_dec grw_ok (by decide) (grw_all k hk)
theorem zer_run : EndsAs zerC 0 0 0 0 := ends_dec zer_ok (by decide) (by kernel_rfl)
end Go.Proofs.Ytnohfdojcdhfoaa
