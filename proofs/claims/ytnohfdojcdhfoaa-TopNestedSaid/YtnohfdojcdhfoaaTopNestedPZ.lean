/-
  Loops in loops: the run.
-/
import Derived.Test.YtnohfdojcdhfoaaZTopRun1
import Derived.Test.YtnohfdojcdhfoaaZTopRun2
import Derived.Test.YtnohfdojcdhfoaaZTopRun3
import Derived.Test.YtnohfdojcdhfoaaZTopRun4
import Derived.Test.YtnohfdojcdhfoaaZTopRun5
import Derived.Test.YtnohfdojcdhfoaaZTopRun6
import Derived.Test.YtnohfdojcdhfoaaZTopRun7
import Derived.Test.YtnohfdojcdhfoaaZTopRun8
import Derived.Test.YtnohfdojcdhfoaaZTopRun9
import Derived.Test.YtnohfdojcdhfoaaFrameZ
import Derived.Test.YtnohfdojcdhfoaaTopRunZ
import Derived.Test.YtnohfdojcdhfoaaTopAwakeZ
import Derived.Test.YtnohfdojcdhfoaaTopMaskZ
namespace Go.Proofs.Ytnohfdojcdhfoaa
open Go.RowKit
def nstC : ByteArray := ⟨#[48, 67, 91, 97, 33, 63, 126, 59, 98, 68, 91, 100, 33, 63, 126, 59, 99, 32, 49, 43, 67, 100, 32, 49, 45, 68, 93, 97, 32, 49, 45, 65, 93, 99]⟩
def nstT : List TkV := [⟨48, 0, 0⟩, ⟨67, 0, 0⟩, ⟨91, 0, 0⟩, ⟨97, 0, 0⟩, ⟨33, 0, 0⟩, ⟨63, 0, 0⟩, ⟨126, 0, 0⟩, ⟨59, 0, 0⟩, ⟨98, 0, 0⟩, ⟨68, 0, 0⟩, ⟨91, 0, 0⟩, ⟨100, 0, 0⟩, ⟨33, 0, 0⟩, ⟨63, 0, 0⟩, ⟨126, 0, 0⟩, ⟨59, 0, 0⟩, ⟨99, 0, 0⟩, ⟨48, 1, 0⟩, ⟨43, 0, 0⟩, ⟨67, 0, 0⟩, ⟨100, 0, 0⟩, ⟨48, 1, 0⟩, ⟨45, 0, 0⟩, ⟨68, 0, 0⟩, ⟨93, 0, 0⟩, ⟨97, 0, 0⟩, ⟨48, 1, 0⟩, ⟨45, 0, 0⟩, ⟨65, 0, 0⟩, ⟨93, 0, 0⟩, ⟨99, 0, 0⟩]
def nstG : List Int := [(-1), (-1), (-1), (-1), (-1), 7, 30, (-1), (-1), (-1), (-1), (-1), (-1), 15, 25, (-1), (-1), (-1), (-1), (-1), (-1), (-1), (-1), (-1), 10, (-1), (-1), (-1), (-1), 2, (-1)]
theorem nst_tok : tokR nstC = some nstT := by kernel_rfl
theorem nst_nest : (rNest (signs nstT)).map (·.1) = some nstG := by decide +kernel
theorem nst_ok : (rFn (oneF nstC) 0).1 = 0 := by decide +kernel
theorem nst_in : ∀ (j : Nat) (a b c : Int) (f : Nat) (r : Int × EgV), j ≤ 1000 → 0 ≤ c → c + (j : Int) ≤ 1000000 → Rn (oneF nstC) [⟨2, nstT, nstG⟩] [] 8 (mk f [] 25 [a, b, c + (j : Int), 0]) r → Rn (oneF nstC) [⟨2, nstT, nstG⟩] [] 8 (mk (f + 14 * j + 5) [] 10 [a, b, c, (j : Int)]) r
  | 0, a, b, c, f, r, _, _, _, h => by
    show Rn _ _ _ _ (mk (f + 5) [] 10 [a, b, c, 0]) _
    rw [show c + ((0 : Nat) : Int) = c from by omega] at h
    refine Rn.on (s' := mk (f + 4) [] 11 [a, b, c, 0]) (by kernel_rfl) ?_
    refine Rn.on (s' := mk (f + 3) [0] 12 [a, b, c, 0]) (by kernel_rfl) ?_
    refine Rn.on (s' := mk (f + 2) [if (0 : Int) = 0 then 1 else 0] 13 [a, b, c, 0]) (by kernel_rfl) ?_
    rw [show (if (0 : Int) = 0 then 1 else 0 : Int) = 1 from rfl]
    refine Rn.on (s' := mk (f + 1) [] 14 [a, b, c, 0]) (by kernel_rfl) ?_
    refine Rn.on (s' := mk f [] 25 [a, b, c, 0]) (by kernel_rfl) ?_
    exact h
  | j + 1, a, b, c, f, r, hj, hc, hb, h => by
    have HW1 : wrap64 (c + 1) = c + 1 := IntWalk.wrap64_in _ (by omega)
    have HW2 : wrap64 (((j : Int) + 1) - 1) = (j : Int) := by rw [show ((j : Int) + 1) - 1 = (j : Int) from by omega]; exact IntWalk.wrap64_in _ (by omega)
    have hs' := nst_in j a b (c + 1) f r (by omega) (by omega) (by omega) (by rw [show c + 1 + (j : Int) = c + ((j + 1 : Nat) : Int) from by omega]; exact h)
    rw [show f + 14 * (j + 1) + 5 = (f + 14 * j + 5) + 14 from by omega, show ((j + 1 : Nat) : Int) = (j : Int) + 1 from by omega]
    generalize f + 14 * j + 5 = f at hs' ⊢
    refine Rn.on (s' := mk (f + 13) [] 11 [a, b, c, ((j : Int) + 1)]) (by kernel_rfl) ?_
    refine Rn.on (s' := mk (f + 12) [((j : Int) + 1)] 12 [a, b, c, ((j : Int) + 1)]) (by kernel_rfl) ?_
    refine Rn.on (s' := mk (f + 11) [if ((((j : Int) + 1)) : Int) = 0 then 1 else 0] 13 [a, b, c, ((j : Int) + 1)]) (by kernel_rfl) ?_
    rw [show (if ((((j : Int) + 1)) : Int) = 0 then 1 else 0 : Int) = 0 from if_neg (by omega)]
    refine Rn.on (s' := mk (f + 10) [] 15 [a, b, c, ((j : Int) + 1)]) (by kernel_rfl) ?_
    refine Rn.on (s' := mk (f + 9) [] 16 [a, b, c, ((j : Int) + 1)]) (by kernel_rfl) ?_
    refine Rn.on (s' := mk (f + 8) [c] 17 [a, b, c, ((j : Int) + 1)]) (by kernel_rfl) ?_
    refine Rn.on (s' := mk (f + 7) [c, 1] 18 [a, b, c, ((j : Int) + 1)]) (by kernel_rfl) ?_
    refine Rn.on (s' := mk (f + 6) [wrap64 (c + 1)] 19 [a, b, c, ((j : Int) + 1)]) (by kernel_rfl) ?_
    rw [show (wrap64 (c + 1) : Int) = (c + 1) from HW1]
    refine Rn.on (s' := mk (f + 5) [] 20 [a, b, (c + 1), ((j : Int) + 1)]) (by kernel_rfl) ?_
    refine Rn.on (s' := mk (f + 4) [((j : Int) + 1)] 21 [a, b, (c + 1), ((j : Int) + 1)]) (by kernel_rfl) ?_
    refine Rn.on (s' := mk (f + 3) [((j : Int) + 1), 1] 22 [a, b, (c + 1), ((j : Int) + 1)]) (by kernel_rfl) ?_
    refine Rn.on (s' := mk (f + 2) [wrap64 ((((j : Int) + 1)) - 1)] 23 [a, b, (c + 1), ((j : Int) + 1)]) (by kernel_rfl) ?_
    rw [show (wrap64 ((((j : Int) + 1)) - 1) : Int) = (j : Int) from HW2]
    refine Rn.on (s' := mk (f + 1) [] 24 [a, b, (c + 1), (j : Int)]) (by kernel_rfl) ?_
    refine Rn.on (s' := mk f [] 10 [a, b, (c + 1), (j : Int)]) (by kernel_rfl) ?_
    exact hs'
theorem nst_out (q : Nat) (hq : q ≤ 31) : ∀ (j : Nat) (c d : Int) (f : Nat), j ≤ 31 → 0 ≤ c → c + (j : Int) * (q : Int) ≤ 1000000 → ∃ s', Rn (oneF nstC) [⟨2, nstT, nstG⟩] [] 8 (mk (f + (7 + (14 * q + 5) + 5) * j + 6) [] 2 [(j : Int), (q : Int), c, d]) (0, s') ∧ s'.st.getLast? = some (c + (j : Int) * (q : Int))
  | 0, c, d, f, _, _, _ => by
    refine ⟨⟨f, [c], [], List.replicate 64 0, [false], []⟩, ?_, by simp⟩
    show Rn _ _ _ _ (mk (f + 6) [] 2 [0, (q : Int), c, d]) _
    generalize (q : Int) = b
    refine Rn.on (s' := mk (f + 5) [] 3 [0, b, c, d]) (by kernel_rfl) ?_
    refine Rn.on (s' := mk (f + 4) [0] 4 [0, b, c, d]) (by kernel_rfl) ?_
    refine Rn.on (s' := mk (f + 3) [if (0 : Int) = 0 then 1 else 0] 5 [0, b, c, d]) (by kernel_rfl) ?_
    rw [show (if (0 : Int) = 0 then 1 else 0 : Int) = 1 from rfl]
    refine Rn.on (s' := mk (f + 2) [] 6 [0, b, c, d]) (by kernel_rfl) ?_
    refine Rn.on (s' := mk (f + 1) [] 30 [0, b, c, d]) (by kernel_rfl) ?_
    refine Rn.on (s' := mk f [c] 31 [0, b, c, d]) (by kernel_rfl) ?_
    refine Rn.on (s' := ⟨f, [c], [], List.replicate 64 0, [false], []⟩) (by kernel_rfl) ?_
    exact Rn.stop (by kernel_rfl)
  | j + 1, c, d, f, hj, hc, hb => by
    have HW2 : wrap64 (((j : Int) + 1) - 1) = (j : Int) := by rw [show ((j : Int) + 1) - 1 = (j : Int) from by omega]; exact IntWalk.wrap64_in _ (by omega)
    have hx : ((j + 1 : Nat) : Int) * (q : Int) = (q : Int) + (j : Int) * (q : Int) := by
      rw [show ((j + 1 : Nat) : Int) = (j : Int) + 1 from by omega, Int.add_mul, Int.one_mul]
      omega
    have h0 : 0 ≤ (j : Int) * (q : Int) := Int.mul_nonneg (by omega) (by omega)
    rw [hx] at hb ⊢
    obtain ⟨s', hs', hl⟩ := nst_out q hq j (c + (q : Int)) 0 f (by omega) (by omega) (by omega)
    refine ⟨s', ?_, by rw [hl]; congr 1; omega⟩
    rw [show f + (7 + (14 * q + 5) + 5) * (j + 1) + 6 = ((f + (7 + (14 * q + 5) + 5) * j + 6) + 5 + 14 * q + 5) + 7 from by rw [Nat.mul_add, Nat.mul_one]; omega, show ((j + 1 : Nat) : Int) = (j : Int) + 1 from by omega]
    generalize f + (7 + (14 * q + 5) + 5) * j + 6 = f at hs' ⊢
    have ht : Rn (oneF nstC) [⟨2, nstT, nstG⟩] [] 8 (mk (f + 5) [] 25 [((j : Int) + 1), (q : Int), c + (q : Int), 0]) (0, s') := by
      refine Rn.on (s' := mk (f + 4) [((j : Int) + 1)] 26 [((j : Int) + 1), (q : Int), (c + (q : Int)), 0]) (by kernel_rfl) ?_
      refine Rn.on (s' := mk (f + 3) [((j : Int) + 1), 1] 27 [((j : Int) + 1), (q : Int), (c + (q : Int)), 0]) (by kernel_rfl) ?_
      refine Rn.on (s' := mk (f + 2) [wrap64 ((((j : Int) + 1)) - 1)] 28 [((j : Int) + 1), (q : Int), (c + (q : Int)), 0]) (by kernel_rfl) ?_
      rw [show (wrap64 ((((j : Int) + 1)) - 1) : Int) = (j : Int) from HW2]
      refine Rn.on (s' := mk (f + 1) [] 29 [(j : Int), (q : Int), (c + (q : Int)), 0]) (by kernel_rfl) ?_
      refine Rn.on (s' := mk f [] 2 [(j : Int), (q : Int), (c + (q : Int)), 0]) (by kernel_rfl) ?_
      exact hs'
    have hi := nst_in q ((j : Int) + 1) (q : Int) c (f + 5) _ (by omega) hc (by omega) ht
    generalize f + 5 + 14 * q + 5 = f at hi ⊢
    refine Rn.on (s' := mk (f + 6) [] 3 [((j : Int) + 1), (q : Int), c, d]) (by kernel_rfl) ?_
    refine Rn.on (s' := mk (f + 5) [((j : Int) + 1)] 4 [((j : Int) + 1), (q : Int), c, d]) (by kernel_rfl) ?_
    refine Rn.on (s' := mk (f + 4) [if ((((j : Int) + 1)) : Int) = 0 then 1 else 0] 5 [((j : Int) + 1), (q : Int), c, d]) (by kernel_rfl) ?_
    rw [show (if ((((j : Int) + 1)) : Int) = 0 then 1 else 0 : Int) = 0 from if_neg (by omega)]
    refine Rn.on (s' := mk (f + 3) [] 7 [((j : Int) + 1), (q : Int), c, d]) (by kernel_rfl) ?_
    refine Rn.on (s' := mk (f + 2) [] 8 [((j : Int) + 1), (q : Int), c, d]) (by kernel_rfl) ?_
    refine Rn.on (s' := mk (f + 1) [(q : Int)] 9 [((j : Int) + 1), (q : Int), c, d]) (by kernel_rfl) ?_
    refine Rn.on (s' := mk f [] 10 [((j : Int) + 1), (q : Int), c, (q : Int)]) (by kernel_rfl) ?_
    exact hi
theorem nst_run (p q : Nat) (hp : p ≤ 31) (hq : q ≤ 31) : EndsAs nstC (p : Int) (q : Int) ((p : Int) * (q : Int)) 0 := by
  have hb : (p : Int) * (q : Int) ≤ 31 * 31 := Int.mul_le_mul (by omega) (by omega) (by omega) (by omega)
  have hn : (7 + (14 * q + 5) + 5) * p ≤ (7 + (14 * 31 + 5) + 5) * 31 := Nat.mul_le_mul (by omega) (by omega)
  obtain ⟨s', hs', hl⟩ := nst_out q hq p 0 0 (100000 - 2 - (7 + (14 * q + 5) + 5) * p - 6) hp (by omega) (by omega)
  refine ends_of nst_tok nst_nest nst_ok (by decide) (s' := s') ?_ (by rw [hl]; congr 1; omega)
  refine Rn.on (s' := mk 99999 [0] 1 [(p : Int), (q : Int)]) (by kernel_rfl) ?_
  refine Rn.on (s' := mk 99998 [] 2 [(p : Int), (q : Int), 0]) (by kernel_rfl) ?_
  rw [show 100000 - 2 - (7 + (14 * q + 5) + 5) * p - 6 + (7 + (14 * q + 5) + 5) * p + 6 = 99998 from by omega] at hs'
  exact hs'
end Go.Proofs.Ytnohfdojcdhfoaa
