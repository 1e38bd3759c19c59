/-
  Doubled again and again: the run.
-/
import Derived.Test.YtnohfdojcdhfoaaZTopRun1
import Derived.Test.YtnohfdojcdhfoaaZTopRun2
import Derived.Test.YtnohfdojcdhfoaaZTopRun3
import Derived.Test.YtnohfdojcdhfoaaZTopRun4
import Derived.Test.YtnohfdojcdhfoaaZTopRun5
import Derived.Test.YtnohfdojcdhfoaaZTopRun6
import Derived.Test.YtnohfdojcdhfoaaZTopRun7
import Derived.Test.YtnohfdojcdhfoaaZTopRun8
import Derived.Test.YtnohfdojcdhfoaaZTopRun9
import Derived.Test.YtnohfdojcdhfoaaFrameZ
import Derived.Test.YtnohfdojcdhfoaaTopRunZ
import Derived.Test.YtnohfdojcdhfoaaTopAwakeZ
namespace Go.Proofs.Ytnohfdojcdhfoaa
open Go.RowKit
def dblC : ByteArray := ⟨#[91, 98, 33, 63, 126, 59, 97, 46, 43, 65, 98, 32, 49, 45, 66, 93, 97]⟩
def dblT : List TkV := [⟨91, 0, 0⟩, ⟨98, 0, 0⟩, ⟨33, 0, 0⟩, ⟨63, 0, 0⟩, ⟨126, 0, 0⟩, ⟨59, 0, 0⟩, ⟨97, 0, 0⟩, ⟨46, 0, 0⟩, ⟨43, 0, 0⟩, ⟨65, 0, 0⟩, ⟨98, 0, 0⟩, ⟨48, 1, 0⟩, ⟨45, 0, 0⟩, ⟨66, 0, 0⟩, ⟨93, 0, 0⟩, ⟨97, 0, 0⟩]
def dblG : List Int := [(-1), (-1), (-1), 5, 15, (-1), (-1), (-1), (-1), (-1), (-1), (-1), (-1), (-1), 0, (-1)]
theorem dbl_tok : tokR dblC = some dblT := by kernel_rfl
theorem dbl_nest : (rNest (signs dblT)).map (·.1) = some dblG := by decide +kernel
theorem dbl_ok : (rFn (oneF dblC) 0).1 = 0 := by decide +kernel
/-- Doubled so often. -/
def dblN : Nat → Int → Int
  | 0, a => a
  | j + 1, a => dblN j (wrap64 (a + a))
theorem dblN_succ : ∀ (j : Nat) (a : Int), dblN (j + 1) a = wrap64 (dblN j a + dblN j a)
  | 0, _ => rfl
  | j + 1, a => dblN_succ j (wrap64 (a + a))
theorem dbl_loop : ∀ (j : Nat) (a : Int) (f : Nat), j ≤ 1000 → ∃ s', Rn (oneF dblC) [⟨2, dblT, dblG⟩] [] 8 (mk (f + 14 * j + 6) [] 0 [a, (j : Int)]) (0, s') ∧ s'.st.getLast? = some (dblN j a)
  | 0, a, f, _ => by
    refine ⟨⟨f, [a], [], List.replicate 64 0, [false], []⟩, ?_, rfl⟩
    show Rn _ _ _ _ (mk (f + 6) [] 0 [a, 0]) _
    refine Rn.on (s' := mk (f + 5) [] 1 [a, 0]) (by kernel_rfl) ?_
    refine Rn.on (s' := mk (f + 4) [0] 2 [a, 0]) (by kernel_rfl) ?_
    refine Rn.on (s' := mk (f + 3) [if (0 : Int) = 0 then 1 else 0] 3 [a, 0]) (by kernel_rfl) ?_
    rw [show (if (0 : Int) = 0 then 1 else 0 : Int) = 1 from rfl]
    refine Rn.on (s' := mk (f + 2) [] 4 [a, 0]) (by kernel_rfl) ?_
    refine Rn.on (s' := mk (f + 1) [] 15 [a, 0]) (by kernel_rfl) ?_
    refine Rn.on (s' := mk f [a] 16 [a, 0]) (by kernel_rfl) ?_
    refine Rn.on (s' := ⟨f, [a], [], List.replicate 64 0, [false], []⟩) (by kernel_rfl) ?_
    exact Rn.stop (by kernel_rfl)
  | j + 1, a, f, hj => by
    have HW2 : wrap64 (((j : Int) + 1) - 1) = (j : Int) := by rw [show ((j : Int) + 1) - 1 = (j : Int) from by omega]; exact IntWalk.wrap64_in _ (by omega)
    obtain ⟨s', hs', hl⟩ := dbl_loop j (wrap64 (a + a)) f (by omega)
    refine ⟨s', ?_, hl⟩
    rw [show f + 14 * (j + 1) + 6 = (f + 14 * j + 6) + 14 from by omega, show ((j + 1 : Nat) : Int) = (j : Int) + 1 from by omega]
    generalize f + 14 * j + 6 = f at hs' ⊢
    refine Rn.on (s' := mk (f + 13) [] 1 [a, ((j : Int) + 1)]) (by kernel_rfl) ?_
    refine Rn.on (s' := mk (f + 12) [((j : Int) + 1)] 2 [a, ((j : Int) + 1)]) (by kernel_rfl) ?_
    refine Rn.on (s' := mk (f + 11) [if ((((j : Int) + 1)) : Int) = 0 then 1 else 0] 3 [a, ((j : Int) + 1)]) (by kernel_rfl) ?_
    rw [show (if ((((j : Int) + 1)) : Int) = 0 then 1 else 0 : Int) = 0 from if_neg (by omega)]
    refine Rn.on (s' := mk (f + 10) [] 5 [a, ((j : Int) + 1)]) (by kernel_rfl) ?_
    refine Rn.on (s' := mk (f + 9) [] 6 [a, ((j : Int) + 1)]) (by kernel_rfl) ?_
    refine Rn.on (s' := mk (f + 8) [a] 7 [a, ((j : Int) + 1)]) (by kernel_rfl) ?_
    refine Rn.on (s' := mk (f + 7) [a, a] 8 [a, ((j : Int) + 1)]) (by kernel_rfl) ?_
    refine Rn.on (s' := mk (f + 6) [wrap64 (a + a)] 9 [a, ((j : Int) + 1)]) (by kernel_rfl) ?_
    refine Rn.on (s' := mk (f + 5) [] 10 [wrap64 (a + a), ((j : Int) + 1)]) (by kernel_rfl) ?_
    refine Rn.on (s' := mk (f + 4) [((j : Int) + 1)] 11 [wrap64 (a + a), ((j : Int) + 1)]) (by kernel_rfl) ?_
    refine Rn.on (s' := mk (f + 3) [((j : Int) + 1), 1] 12 [wrap64 (a + a), ((j : Int) + 1)]) (by kernel_rfl) ?_
    refine Rn.on (s' := mk (f + 2) [wrap64 ((((j : Int) + 1)) - 1)] 13 [wrap64 (a + a), ((j : Int) + 1)]) (by kernel_rfl) ?_
    rw [show (wrap64 ((((j : Int) + 1)) - 1) : Int) = (j : Int) from HW2]
    refine Rn.on (s' := mk (f + 1) [] 14 [wrap64 (a + a), (j : Int)]) (by kernel_rfl) ?_
    refine Rn.on (s' := mk f [] 0 [wrap64 (a + a), (j : Int)]) (by kernel_rfl) ?_
    exact hs'
theorem dbl_run (k : Nat) (a : Int) (hk : k ≤ 127) : EndsAs dblC a (k : Int) (dblN k a) 0 := by
  obtain ⟨s', hs', hl⟩ := dbl_loop k a (100000 - 14 * k - 6) (by omega)
  refine ends_of dbl_tok dbl_nest dbl_ok (by decide) (s' := s') ?_ hl
  rw [show 100000 - 14 * k - 6 + 14 * k + 6 = 100000 from by omega] at hs'
  exact hs'
end Go.Proofs.Ytnohfdojcdhfoaa
