/-
  Numbers of Fibonacci: the run.
-/
import Derived.Test.YtnohfdojcdhfoaaZTopRun1
import Derived.Test.YtnohfdojcdhfoaaZTopRun2
import Derived.Test.YtnohfdojcdhfoaaZTopRun3
import Derived.Test.YtnohfdojcdhfoaaZTopRun4
import Derived.Test.YtnohfdojcdhfoaaZTopRun5
import Derived.Test.YtnohfdojcdhfoaaZTopRun6
import Derived.Test.YtnohfdojcdhfoaaZTopRun7
import Derived.Test.YtnohfdojcdhfoaaZTopRun8
import Derived.Test.YtnohfdojcdhfoaaZTopRun9
import Derived.Test.YtnohfdojcdhfoaaFrameZ
import Derived.Test.YtnohfdojcdhfoaaTopRunZ
import Derived.Test.YtnohfdojcdhfoaaTopAwakeZ
import Derived.Test.YtnohfdojcdhfoaaTopMaskZ
namespace Go.Proofs.Ytnohfdojcdhfoaa
open Go.RowKit
def fibC : ByteArray := ⟨#[48, 67, 49, 68, 91, 97, 33, 63, 126, 59, 99, 100, 43, 100, 67, 68, 97, 32, 49, 45, 65, 93, 99]⟩
def fibT : List TkV := [⟨48, 0, 0⟩, ⟨67, 0, 0⟩, ⟨48, 1, 0⟩, ⟨68, 0, 0⟩, ⟨91, 0, 0⟩, ⟨97, 0, 0⟩, ⟨33, 0, 0⟩, ⟨63, 0, 0⟩, ⟨126, 0, 0⟩, ⟨59, 0, 0⟩, ⟨99, 0, 0⟩, ⟨100, 0, 0⟩, ⟨43, 0, 0⟩, ⟨100, 0, 0⟩, ⟨67, 0, 0⟩, ⟨68, 0, 0⟩, ⟨97, 0, 0⟩, ⟨48, 1, 0⟩, ⟨45, 0, 0⟩, ⟨65, 0, 0⟩, ⟨93, 0, 0⟩, ⟨99, 0, 0⟩]
def fibG : List Int := [(-1), (-1), (-1), (-1), (-1), (-1), (-1), 9, 21, (-1), (-1), (-1), (-1), (-1), (-1), (-1), (-1), (-1), (-1), (-1), 4, (-1)]
theorem fib_tok : tokR fibC = some fibT := by kernel_rfl
theorem fib_nest : (rNest (signs fibT)).map (·.1) = some fibG := by decide +kernel
theorem fib_ok : (rFn (oneF fibC) 0).1 = 0 := by decide +kernel
/-- So many rounds from two numbers on. -/
def fibN : Nat → Int → Int → Int
  | 0, c, _ => c
  | j + 1, c, d => fibN j d (wrap64 (c + d))
theorem fib_loop : ∀ (j : Nat) (c d : Int) (f : Nat), j ≤ 1000 → ∃ s', Rn (oneF fibC) [⟨2, fibT, fibG⟩] [] 8 (mk (f + 16 * j + 6) [] 4 [(j : Int), 0, c, d]) (0, s') ∧ s'.st.getLast? = some (fibN j c d)
  | 0, c, d, f, _ => by
    refine ⟨⟨f, [c], [], List.replicate 64 0, [false], []⟩, ?_, rfl⟩
    show Rn _ _ _ _ (mk (f + 6) [] 4 [0, 0, c, d]) _
    refine Rn.on (s' := mk (f + 5) [] 5 [0, 0, c, d]) (by kernel_rfl) ?_
    refine Rn.on (s' := mk (f + 4) [0] 6 [0, 0, c, d]) (by kernel_rfl) ?_
    refine Rn.on (s' := mk (f + 3) [if (0 : Int) = 0 then 1 else 0] 7 [0, 0, c, d]) (by kernel_rfl) ?_
    rw [show (if (0 : Int) = 0 then 1 else 0 : Int) = 1 from rfl]
    refine Rn.on (s' := mk (f + 2) [] 8 [0, 0, c, d]) (by kernel_rfl) ?_
    refine Rn.on (s' := mk (f + 1) [] 21 [0, 0, c, d]) (by kernel_rfl) ?_
    refine Rn.on (s' := mk f [c] 22 [0, 0, c, d]) (by kernel_rfl) ?_
    refine Rn.on (s' := ⟨f, [c], [], List.replicate 64 0, [false], []⟩) (by kernel_rfl) ?_
    exact Rn.stop (by kernel_rfl)
  | j + 1, c, d, f, hj => by
    have HW2 : wrap64 (((j : Int) + 1) - 1) = (j : Int) := by rw [show ((j : Int) + 1) - 1 = (j : Int) from by omega]; exact IntWalk.wrap64_in _ (by omega)
    obtain ⟨s', hs', hl⟩ := fib_loop j d (wrap64 (c + d)) f (by omega)
    refine ⟨s', ?_, hl⟩
    rw [show f + 16 * (j + 1) + 6 = (f + 16 * j + 6) + 16 from by omega, show ((j + 1 : Nat) : Int) = (j : Int) + 1 from by omega]
    generalize f + 16 * j + 6 = f at hs' ⊢
    refine Rn.on (s' := mk (f + 15) [] 5 [((j : Int) + 1), 0, c, d]) (by kernel_rfl) ?_
    refine Rn.on (s' := mk (f + 14) [((j : Int) + 1)] 6 [((j : Int) + 1), 0, c, d]) (by kernel_rfl) ?_
    refine Rn.on (s' := mk (f + 13) [if ((((j : Int) + 1)) : Int) = 0 then 1 else 0] 7 [((j : Int) + 1), 0, c, d]) (by kernel_rfl) ?_
    rw [show (if ((((j : Int) + 1)) : Int) = 0 then 1 else 0 : Int) = 0 from if_neg (by omega)]
    refine Rn.on (s' := mk (f + 12) [] 9 [((j : Int) + 1), 0, c, d]) (by kernel_rfl) ?_
    refine Rn.on (s' := mk (f + 11) [] 10 [((j : Int) + 1), 0, c, d]) (by kernel_rfl) ?_
    refine Rn.on (s' := mk (f + 10) [c] 11 [((j : Int) + 1), 0, c, d]) (by kernel_rfl) ?_
    refine Rn.on (s' := mk (f + 9) [c, d] 12 [((j : Int) + 1), 0, c, d]) (by kernel_rfl) ?_
    refine Rn.on (s' := mk (f + 8) [wrap64 (c + d)] 13 [((j : Int) + 1), 0, c, d]) (by kernel_rfl) ?_
    refine Rn.on (s' := mk (f + 7) [wrap64 (c + d), d] 14 [((j : Int) + 1), 0, c, d]) (by kernel_rfl) ?_
    refine Rn.on (s' := mk (f + 6) [wrap64 (c + d)] 15 [((j : Int) + 1), 0, d, d]) (by kernel_rfl) ?_
    refine Rn.on (s' := mk (f + 5) [] 16 [((j : Int) + 1), 0, d, wrap64 (c + d)]) (by kernel_rfl) ?_
    refine Rn.on (s' := mk (f + 4) [((j : Int) + 1)] 17 [((j : Int) + 1), 0, d, wrap64 (c + d)]) (by kernel_rfl) ?_
    refine Rn.on (s' := mk (f + 3) [((j : Int) + 1), 1] 18 [((j : Int) + 1), 0, d, wrap64 (c + d)]) (by kernel_rfl) ?_
    refine Rn.on (s' := mk (f + 2) [wrap64 ((((j : Int) + 1)) - 1)] 19 [((j : Int) + 1), 0, d, wrap64 (c + d)]) (by kernel_rfl) ?_
    rw [show (wrap64 ((((j : Int) + 1)) - 1) : Int) = (j : Int) from HW2]
    refine Rn.on (s' := mk (f + 1) [] 20 [(j : Int), 0, d, wrap64 (c + d)]) (by kernel_rfl) ?_
    refine Rn.on (s' := mk f [] 4 [(j : Int), 0, d, wrap64 (c + d)]) (by kernel_rfl) ?_
    exact hs'
theorem fib_run (k : Nat) (hk : k ≤ 127) : EndsAs fibC (k : Int) 0 (fibN k 0 1) 0 := by
  obtain ⟨s', hs', hl⟩ := fib_loop k 0 1 (100000 - 4 - 16 * k - 6) (by omega)
  refine ends_of fib_tok fib_nest fib_ok (by decide) (s' := s') ?_ hl
  refine Rn.on (s' := mk 99999 [0] 1 [(k : Int), 0]) (by kernel_rfl) ?_
  refine Rn.on (s' := mk 99998 [] 2 [(k : Int), 0, 0]) (by kernel_rfl) ?_
  refine Rn.on (s' := mk 99997 [1] 3 [(k : Int), 0, 0]) (by kernel_rfl) ?_
  refine Rn.on (s' := mk 99996 [] 4 [(k : Int), 0, 0, 1]) (by kernel_rfl) ?_
  rw [show 100000 - 4 - 16 * k - 6 + 16 * k + 6 = 99996 from by omega] at hs'
  exact hs'
end Go.Proofs.Ytnohfdojcdhfoaa
