/-
  The sums: the run.
-/
import Derived.Test.YtnohfdojcdhfoaaZTopRun1
import Derived.Test.YtnohfdojcdhfoaaZTopRun2
import Derived.Test.YtnohfdojcdhfoaaZTopRun3
import Derived.Test.YtnohfdojcdhfoaaZTopRun4
import Derived.Test.YtnohfdojcdhfoaaZTopRun5
import Derived.Test.YtnohfdojcdhfoaaZTopRun6
import Derived.Test.YtnohfdojcdhfoaaZTopRun7
import Derived.Test.YtnohfdojcdhfoaaZTopRun8
import Derived.Test.YtnohfdojcdhfoaaZTopRun9
import Derived.Test.YtnohfdojcdhfoaaFrameZ
import Derived.Test.YtnohfdojcdhfoaaTopRunZ
import Derived.Test.YtnohfdojcdhfoaaTopAwakeZ
namespace Go.Proofs.Ytnohfdojcdhfoaa
open Go.RowKit
def sumsC : ByteArray := ⟨#[48, 67, 91, 97, 33, 63, 126, 59, 99, 97, 43, 67, 97, 32, 49, 45, 65, 93, 99]⟩
def sumsT : List TkV := [⟨48, 0, 0⟩, ⟨67, 0, 0⟩, ⟨91, 0, 0⟩, ⟨97, 0, 0⟩, ⟨33, 0, 0⟩, ⟨63, 0, 0⟩, ⟨126, 0, 0⟩, ⟨59, 0, 0⟩, ⟨99, 0, 0⟩, ⟨97, 0, 0⟩, ⟨43, 0, 0⟩, ⟨67, 0, 0⟩, ⟨97, 0, 0⟩, ⟨48, 1, 0⟩, ⟨45, 0, 0⟩, ⟨65, 0, 0⟩, ⟨93, 0, 0⟩, ⟨99, 0, 0⟩]
def sumsG : List Int := [(-1), (-1), (-1), (-1), (-1), 7, 17, (-1), (-1), (-1), (-1), (-1), (-1), (-1), (-1), (-1), 2, (-1)]
theorem sums_tok : tokR sumsC = some sumsT := by kernel_rfl
theorem sums_nest : (rNest (signs sumsT)).map (·.1) = some sumsG := by decide +kernel
theorem sums_ok : (rFn (oneF sumsC) 0).1 = 0 := by decide +kernel
/-- From the loop's head on, with a number j and a sum c. -/
theorem sums_loop : ∀ (j : Nat) (c : Int) (f : Nat), j ≤ 1023 → 0 ≤ c → c + (j : Int) * ((j : Int) + 1) / 2 ≤ 1000000 → ∃ s', Rn (oneF sumsC) [⟨2, sumsT, sumsG⟩] [] 8 (mk (f + 14 * j + 6) [] 2 [(j : Int), 0, c]) (0, s') ∧ s'.st.getLast? = some (c + (j : Int) * ((j : Int) + 1) / 2)
  | 0, c, f, _, _, _ => by
    refine ⟨⟨f, [c], [], List.replicate 64 0, [false], []⟩, ?_, by simp⟩
    show Rn _ _ _ _ (mk (f + 6) [] 2 [0, 0, c]) _
    refine Rn.on (s' := mk (f + 5) [] 3 [0, 0, c]) (by kernel_rfl) ?_
    refine Rn.on (s' := mk (f + 4) [0] 4 [0, 0, c]) (by kernel_rfl) ?_
    refine Rn.on (s' := mk (f + 3) [if (0 : Int) = 0 then 1 else 0] 5 [0, 0, c]) (by kernel_rfl) ?_
    rw [show (if (0 : Int) = 0 then 1 else 0 : Int) = 1 from rfl]
    refine Rn.on (s' := mk (f + 2) [] 6 [0, 0, c]) (by kernel_rfl) ?_
    refine Rn.on (s' := mk (f + 1) [] 17 [0, 0, c]) (by kernel_rfl) ?_
    refine Rn.on (s' := mk f [c] 18 [0, 0, c]) (by kernel_rfl) ?_
    refine Rn.on (s' := ⟨f, [c], [], List.replicate 64 0, [false], []⟩) (by kernel_rfl) ?_
    exact Rn.stop (by kernel_rfl)
  | j + 1, c, f, hj, hc, hb => by
    have hx : ((j + 1 : Nat) : Int) * (((j + 1 : Nat) : Int) + 1) = (j : Int) * ((j : Int) + 1) + ((j : Int) + 1) * 2 := by
      rw [show ((j + 1 : Nat) : Int) = (j : Int) + 1 from by omega]
      simp only [Int.mul_add, Int.add_mul, Int.mul_one, Int.one_mul]
      omega
    have h0 : 0 ≤ (j : Int) * ((j : Int) + 1) := Int.mul_nonneg (by omega) (by omega)
    have hjj : ((j + 1 : Nat) : Int) * (((j + 1 : Nat) : Int) + 1) / 2 = ((j : Int) + 1) + (j : Int) * ((j : Int) + 1) / 2 := by rw [hx]; omega
    rw [hjj] at hb ⊢
    generalize hp : (j : Int) * ((j : Int) + 1) / 2 = p at *
    have hp0 : 0 ≤ p := by omega
    have HW1 : wrap64 (c + ((j : Int) + 1)) = c + ((j : Int) + 1) := IntWalk.wrap64_in _ (by omega)
    have HW2 : wrap64 (((j : Int) + 1) - 1) = (j : Int) := by rw [show ((j : Int) + 1) - 1 = (j : Int) from by omega]; exact IntWalk.wrap64_in _ (by omega)
    obtain ⟨s', hs', hl⟩ := sums_loop j (c + ((j : Int) + 1)) f (by omega) (by omega) (by omega)
    refine ⟨s', ?_, by rw [hl]; congr 1; omega⟩
    rw [show f + 14 * (j + 1) + 6 = (f + 14 * j + 6) + 14 from by omega, show ((j + 1 : Nat) : Int) = (j : Int) + 1 from by omega]
    generalize f + 14 * j + 6 = f at hs' ⊢
    refine Rn.on (s' := mk (f + 13) [] 3 [((j : Int) + 1), 0, c]) (by kernel_rfl) ?_
    refine Rn.on (s' := mk (f + 12) [((j : Int) + 1)] 4 [((j : Int) + 1), 0, c]) (by kernel_rfl) ?_
    refine Rn.on (s' := mk (f + 11) [if ((((j : Int) + 1)) : Int) = 0 then 1 else 0] 5 [((j : Int) + 1), 0, c]) (by kernel_rfl) ?_
    rw [show (if ((((j : Int) + 1)) : Int) = 0 then 1 else 0 : Int) = 0 from if_neg (by omega)]
    refine Rn.on (s' := mk (f + 10) [] 7 [((j : Int) + 1), 0, c]) (by kernel_rfl) ?_
    refine Rn.on (s' := mk (f + 9) [] 8 [((j : Int) + 1), 0, c]) (by kernel_rfl) ?_
    refine Rn.on (s' := mk (f + 8) [c] 9 [((j : Int) + 1), 0, c]) (by kernel_rfl) ?_
    refine Rn.on (s' := mk (f + 7) [c, ((j : Int) + 1)] 10 [((j : Int) + 1), 0, c]) (by kernel_rfl) ?_
    refine Rn.on (s' := mk (f + 6) [wrap64 (c + (((j : Int) + 1)))] 11 [((j : Int) + 1), 0, c]) (by kernel_rfl) ?_
    rw [show (wrap64 (c + (((j : Int) + 1))) : Int) = c + ((j : Int) + 1) from HW1]
    refine Rn.on (s' := mk (f + 5) [] 12 [((j : Int) + 1), 0, c + ((j : Int) + 1)]) (by kernel_rfl) ?_
    refine Rn.on (s' := mk (f + 4) [((j : Int) + 1)] 13 [((j : Int) + 1), 0, c + ((j : Int) + 1)]) (by kernel_rfl) ?_
    refine Rn.on (s' := mk (f + 3) [((j : Int) + 1), 1] 14 [((j : Int) + 1), 0, c + ((j : Int) + 1)]) (by kernel_rfl) ?_
    refine Rn.on (s' := mk (f + 2) [wrap64 ((((j : Int) + 1)) - 1)] 15 [((j : Int) + 1), 0, c + ((j : Int) + 1)]) (by kernel_rfl) ?_
    rw [show (wrap64 ((((j : Int) + 1)) - 1) : Int) = (j : Int) from HW2]
    refine Rn.on (s' := mk (f + 1) [] 16 [(j : Int), 0, c + ((j : Int) + 1)]) (by kernel_rfl) ?_
    refine Rn.on (s' := mk f [] 2 [(j : Int), 0, c + ((j : Int) + 1)]) (by kernel_rfl) ?_
    exact hs'
/-- The whole. -/
theorem sums_run (k : Nat) (hk : k ≤ 1023) : EndsAs sumsC (k : Int) 0 ((k : Int) * ((k : Int) + 1) / 2) 0 := by
  have hb : (k : Int) * ((k : Int) + 1) / 2 ≤ 1000000 := by
    have : (k : Int) * ((k : Int) + 1) ≤ 1023 * 1024 := Int.mul_le_mul (by omega) (by omega) (by omega) (by omega)
    omega
  obtain ⟨s', hs', hl⟩ := sums_loop k 0 (100000 - 2 - 14 * k - 6) hk (by omega) (by omega)
  refine ends_of sums_tok sums_nest sums_ok (by decide) (s' := s') ?_ (by rw [hl]; congr 1; omega)
  refine Rn.on (s' := mk 99999 [0] 1 [(k : Int), 0]) (by kernel_rfl) ?_
  refine Rn.on (s' := mk 99998 [] 2 [(k : Int), 0, 0]) (by kernel_rfl) ?_
  rw [show 100000 - 2 - 14 * k - 6 + 14 * k + 6 = 99998 from by omega] at hs'
  exact hs'
end Go.Proofs.Ytnohfdojcdhfoaa
