/-
  The greatest number that divides two: the run.
-/
import Derived.Test.YtnohfdojcdhfoaaZTopRun1
import Derived.Test.YtnohfdojcdhfoaaZTopRun2
import Derived.Test.YtnohfdojcdhfoaaZTopRun3
import Derived.Test.YtnohfdojcdhfoaaZTopRun4
import Derived.Test.YtnohfdojcdhfoaaZTopRun5
import Derived.Test.YtnohfdojcdhfoaaZTopRun6
import Derived.Test.YtnohfdojcdhfoaaZTopRun7
import Derived.Test.YtnohfdojcdhfoaaZTopRun8
import Derived.Test.YtnohfdojcdhfoaaZTopRun9
import Derived.Test.YtnohfdojcdhfoaaFrameZ
import Derived.Test.YtnohfdojcdhfoaaTopRunZ
import Derived.Test.YtnohfdojcdhfoaaTopAwakeZ
import Derived.Test.YtnohfdojcdhfoaaTopMaskZ
import Derived.Test.YtnohfdojcdhfoaaTopMemZ
namespace Go.Proofs.Ytnohfdojcdhfoaa
open Go.RowKit
def gcdC : ByteArray := ⟨#[91, 98, 33, 63, 126, 59, 97, 98, 37, 67, 98, 65, 99, 66, 93, 97]⟩
def gcdT : List TkV := [⟨91, 0, 0⟩, ⟨98, 0, 0⟩, ⟨33, 0, 0⟩, ⟨63, 0, 0⟩, ⟨126, 0, 0⟩, ⟨59, 0, 0⟩, ⟨97, 0, 0⟩, ⟨98, 0, 0⟩, ⟨37, 0, 0⟩, ⟨67, 0, 0⟩, ⟨98, 0, 0⟩, ⟨65, 0, 0⟩, ⟨99, 0, 0⟩, ⟨66, 0, 0⟩, ⟨93, 0, 0⟩, ⟨97, 0, 0⟩]
def gcdG : List Int := [(-1), (-1), (-1), 5, 15, (-1), (-1), (-1), (-1), (-1), (-1), (-1), (-1), (-1), 0, (-1)]
theorem gcd_tok : tokR gcdC = some gcdT := by kernel_rfl
theorem gcd_nest : (rNest (signs gcdT)).map (·.1) = some gcdG := by decide +kernel
theorem gcd_ok : (rFn (oneF gcdC) 0).1 = 0 := by decide +kernel
theorem gcd_rnd {f : Nat} {r : Int × EgV} {x y c : Int} (hy : y ≠ 0) (h : Rn (oneF gcdC) [⟨2, gcdT, gcdG⟩] [] 8 (mk f [] 0 [y, x.tmod y, x.tmod y]) r) : Rn (oneF gcdC) [⟨2, gcdT, gcdG⟩] [] 8 (mk (f + 14) [] 0 [x, y, c]) r := by
  refine Rn.on (s' := mk (f + 13) [] 1 [x, y, c]) (by kernel_rfl) ?_
  refine Rn.on (s' := mk (f + 12) [y] 2 [x, y, c]) (by kernel_rfl) ?_
  refine Rn.on (s' := mk (f + 11) [if (y : Int) = 0 then 1 else 0] 3 [x, y, c]) (by kernel_rfl) ?_
  rw [show (if (y : Int) = 0 then 1 else 0 : Int) = 0 from if_neg hy]
  refine Rn.on (s' := mk (f + 10) [] 5 [x, y, c]) (by kernel_rfl) ?_
  refine Rn.on (s' := mk (f + 9) [] 6 [x, y, c]) (by kernel_rfl) ?_
  refine Rn.on (s' := mk (f + 8) [x] 7 [x, y, c]) (by kernel_rfl) ?_
  refine Rn.on (s' := mk (f + 7) [x, y] 8 [x, y, c]) (by kernel_rfl) ?_
  refine Rn.on (s' := mk (f + 6) [x.tmod y] 9 [x, y, c]) (step_rk (f + 6) [] x y (x.tmod y) 8 [x, y, c] (List.replicate 64 0) [false] [] (by kernel_rfl) (by kernel_rfl) (by decide) rfl rfl (by decide) (doR_rem _ hy)) ?_
  refine Rn.on (s' := mk (f + 5) [] 10 [x, y, x.tmod y]) (by kernel_rfl) ?_
  refine Rn.on (s' := mk (f + 4) [y] 11 [x, y, x.tmod y]) (by kernel_rfl) ?_
  refine Rn.on (s' := mk (f + 3) [] 12 [y, y, x.tmod y]) (by kernel_rfl) ?_
  refine Rn.on (s' := mk (f + 2) [x.tmod y] 13 [y, y, x.tmod y]) (by kernel_rfl) ?_
  refine Rn.on (s' := mk (f + 1) [] 14 [y, x.tmod y, x.tmod y]) (by kernel_rfl) ?_
  refine Rn.on (s' := mk f [] 0 [y, x.tmod y, x.tmod y]) (by kernel_rfl) ?_
  exact h
theorem gcd_end {f : Nat} {x c : Int} : Rn (oneF gcdC) [⟨2, gcdT, gcdG⟩] [] 8 (mk (f + 6) [] 0 [x, 0, c]) (0, ⟨f, [x], [], List.replicate 64 0, [false], []⟩) := by
  refine Rn.on (s' := mk (f + 5) [] 1 [x, 0, c]) (by kernel_rfl) ?_
  refine Rn.on (s' := mk (f + 4) [0] 2 [x, 0, c]) (by kernel_rfl) ?_
  refine Rn.on (s' := mk (f + 3) [if (0 : Int) = 0 then 1 else 0] 3 [x, 0, c]) (by kernel_rfl) ?_
  rw [show (if (0 : Int) = 0 then 1 else 0 : Int) = 1 from rfl]
  refine Rn.on (s' := mk (f + 2) [] 4 [x, 0, c]) (by kernel_rfl) ?_
  refine Rn.on (s' := mk (f + 1) [] 15 [x, 0, c]) (by kernel_rfl) ?_
  refine Rn.on (s' := mk f [x] 16 [x, 0, c]) (by kernel_rfl) ?_
  refine Rn.on (s' := ⟨f, [x], [], List.replicate 64 0, [false], []⟩) (by kernel_rfl) ?_
  exact Rn.stop (by kernel_rfl)
theorem gcd_loop : ∀ (n x y : Nat) (c : Int) (f : Nat), y < 2 ^ n → 28 * n + 6 ≤ f → ∃ s', Rn (oneF gcdC) [⟨2, gcdT, gcdG⟩] [] 8 (mk f [] 0 [(x : Int), (y : Int), c]) (0, s') ∧ s'.st.getLast? = some ((Nat.gcd x y : Nat) : Int)
  | n, x, 0, c, f, _, hf => by
    obtain ⟨f, rfl⟩ : ∃ g, f = g + 6 := ⟨f - 6, by omega⟩
    exact ⟨_, gcd_end, by rw [Nat.gcd_zero_right]; rfl⟩
  | 0, x, y + 1, c, f, hy, _ => by simp at hy
  | n + 1, x, y + 1, c, f, hy, hf => by
    generalize hyy : y + 1 = z at *
    have hz : (z : Int) ≠ 0 := by omega
    obtain ⟨f, rfl⟩ : ∃ g, f = g + 28 := ⟨f - 28, by omega⟩
    have hm : (x : Int).tmod (z : Int) = ((x % z : Nat) : Int) := by rw [Int.tmod_eq_emod_of_nonneg (by omega)]; rfl
    have hlt : x % z < z := Nat.mod_lt _ (by omega)
    have hg : Nat.gcd x z = Nat.gcd z (x % z) := by rw [Nat.gcd_comm x z, Nat.gcd_rec z x, Nat.gcd_comm]
    by_cases hr : x % z = 0
    · refine ⟨_, gcd_rnd (f := f + 14) hz (by rw [hm, hr]; exact gcd_end (f := f + 14 - 6)), ?_⟩
      rw [hg, hr, Nat.gcd_zero_right]; rfl
    · have hr1 : ((x % z : Nat) : Int) ≠ 0 := by omega
      have hm2 : (z : Int).tmod ((x % z : Nat) : Int) = ((z % (x % z) : Nat) : Int) := by rw [Int.tmod_eq_emod_of_nonneg (by omega)]; rfl
      have hlt2 : z % (x % z) < x % z := Nat.mod_lt _ (by omega)
      have hsum : z % (x % z) + x % z ≤ z := by
        have h1 := Nat.mod_add_div z (x % z)
        have h2 : x % z * 1 ≤ x % z * (z / (x % z)) := Nat.mul_le_mul_left _ (Nat.div_pos (by omega) (by omega))
        omega
      obtain ⟨s', hs, hl⟩ := gcd_loop n (x % z) (z % (x % z)) ((z % (x % z) : Nat) : Int) f (by rw [Nat.pow_succ] at hy; omega) (by omega)
      refine ⟨s', gcd_rnd (f := f + 14) hz (by rw [hm]; exact gcd_rnd hr1 (by rw [hm2]; exact hs)), ?_⟩
      rw [hl, hg, Nat.gcd_comm z (x % z), Nat.gcd_rec (x % z) z, Nat.gcd_comm]
theorem gcd_run (x y : Nat) (hy : y ≤ 65535) : EndsAs gcdC (x : Int) (y : Int) ((Nat.gcd x y : Nat) : Int) 0 := by
  obtain ⟨s', hs, hl⟩ := gcd_loop 16 x y 0 100000 (by omega) (by omega)
  exact ends_of gcd_tok gcd_nest gcd_ok (by decide) (s' := s') hs hl
theorem gcd_next (x y : Nat) : Nat.gcd y (x % y) = Nat.gcd x y := by rw [Nat.gcd_comm y (x % y), ← Nat.gcd_rec y x, Nat.gcd_comm]
end Go.Proofs.Ytnohfdojcdhfoaa
