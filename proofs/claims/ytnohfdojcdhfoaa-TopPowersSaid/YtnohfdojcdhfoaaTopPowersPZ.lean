/-
  Powers: the run.
-/
import Derived.Test.YtnohfdojcdhfoaaZTopRun1
import Derived.Test.YtnohfdojcdhfoaaZTopRun2
import Derived.Test.YtnohfdojcdhfoaaZTopRun3
import Derived.Test.YtnohfdojcdhfoaaZTopRun4
import Derived.Test.YtnohfdojcdhfoaaZTopRun5
import Derived.Test.YtnohfdojcdhfoaaZTopRun6
import Derived.Test.YtnohfdojcdhfoaaZTopRun7
import Derived.Test.YtnohfdojcdhfoaaZTopRun8
import Derived.Test.YtnohfdojcdhfoaaZTopRun9
import Derived.Test.YtnohfdojcdhfoaaFrameZ
import Derived.Test.YtnohfdojcdhfoaaTopRunZ
import Derived.Test.YtnohfdojcdhfoaaTopAwakeZ
import Derived.Test.YtnohfdojcdhfoaaTopMaskZ
import Derived.Test.YtnohfdojcdhfoaaTopMemZ
namespace Go.Proofs.Ytnohfdojcdhfoaa
open Go.RowKit
def powC : ByteArray := ⟨#[49, 67, 91, 98, 33, 63, 126, 59, 98, 32, 49, 38, 63, 99, 97, 42, 67, 59, 97, 46, 42, 65, 98, 32, 49, 194, 187, 66, 93, 99]⟩
def powT : List TkV := [⟨48, 1, 0⟩, ⟨67, 0, 0⟩, ⟨91, 0, 0⟩, ⟨98, 0, 0⟩, ⟨33, 0, 0⟩, ⟨63, 0, 0⟩, ⟨126, 0, 0⟩, ⟨59, 0, 0⟩, ⟨98, 0, 0⟩, ⟨48, 1, 0⟩, ⟨38, 0, 0⟩, ⟨63, 0, 0⟩, ⟨99, 0, 0⟩, ⟨97, 0, 0⟩, ⟨42, 0, 0⟩, ⟨67, 0, 0⟩, ⟨59, 0, 0⟩, ⟨97, 0, 0⟩, ⟨46, 0, 0⟩, ⟨42, 0, 0⟩, ⟨65, 0, 0⟩, ⟨98, 0, 0⟩, ⟨48, 1, 0⟩, ⟨187, 0, 0⟩, ⟨66, 0, 0⟩, ⟨93, 0, 0⟩, ⟨99, 0, 0⟩]
def powG : List Int := [(-1), (-1), (-1), (-1), (-1), 7, 26, (-1), (-1), (-1), (-1), 16, (-1), (-1), (-1), (-1), (-1), (-1), (-1), (-1), (-1), (-1), (-1), (-1), (-1), 2, (-1)]
theorem pow_tok : tokR powC = some powT := by kernel_rfl
theorem pow_nest : (rNest (signs powT)).map (·.1) = some powG := by decide +kernel
theorem pow_ok : (rFn (oneF powC) 0).1 = 0 := by decide +kernel
theorem pow_odd {f : Nat} {r : Int × EgV} {a b c q : Int} (hb : b ≠ 0) (H1 : bits .and .i64 b 1 = 1) (HQ : b / 2 ^ ((1 : Int) % 64).toNat = q) (h : Rn (oneF powC) [⟨2, powT, powG⟩] [] 8 (mk f [] 2 [wrap64 (a * a), q, wrap64 (c * a)]) r) : Rn (oneF powC) [⟨2, powT, powG⟩] [] 8 (mk (f + 23) [] 2 [a, b, c]) r := by
  refine Rn.on (s' := mk (f + 22) [] 3 [a, b, c]) (by kernel_rfl) ?_
  refine Rn.on (s' := mk (f + 21) [b] 4 [a, b, c]) (by kernel_rfl) ?_
  refine Rn.on (s' := mk (f + 20) [if (b : Int) = 0 then 1 else 0] 5 [a, b, c]) (by kernel_rfl) ?_
  rw [show (if (b : Int) = 0 then 1 else 0 : Int) = 0 from if_neg hb]
  refine Rn.on (s' := mk (f + 19) [] 7 [a, b, c]) (by kernel_rfl) ?_
  refine Rn.on (s' := mk (f + 18) [] 8 [a, b, c]) (by kernel_rfl) ?_
  refine Rn.on (s' := mk (f + 17) [b] 9 [a, b, c]) (by kernel_rfl) ?_
  refine Rn.on (s' := mk (f + 16) [b, 1] 10 [a, b, c]) (by kernel_rfl) ?_
  refine Rn.on (s' := mk (f + 15) [bits .and .i64 (b) (1)] 11 [a, b, c]) (by kernel_rfl) ?_
  rw [show (bits .and .i64 (b) (1) : Int) = 1 from H1]
  refine Rn.on (s' := mk (f + 14) [] 12 [a, b, c]) (by kernel_rfl) ?_
  refine Rn.on (s' := mk (f + 13) [c] 13 [a, b, c]) (by kernel_rfl) ?_
  refine Rn.on (s' := mk (f + 12) [c, a] 14 [a, b, c]) (by kernel_rfl) ?_
  refine Rn.on (s' := mk (f + 11) [wrap64 (c * a)] 15 [a, b, c]) (by kernel_rfl) ?_
  refine Rn.on (s' := mk (f + 10) [] 16 [a, b, wrap64 (c * a)]) (by kernel_rfl) ?_
  refine Rn.on (s' := mk (f + 9) [] 17 [a, b, wrap64 (c * a)]) (by kernel_rfl) ?_
  refine Rn.on (s' := mk (f + 8) [a] 18 [a, b, wrap64 (c * a)]) (by kernel_rfl) ?_
  refine Rn.on (s' := mk (f + 7) [a, a] 19 [a, b, wrap64 (c * a)]) (by kernel_rfl) ?_
  refine Rn.on (s' := mk (f + 6) [wrap64 (a * a)] 20 [a, b, wrap64 (c * a)]) (by kernel_rfl) ?_
  refine Rn.on (s' := mk (f + 5) [] 21 [wrap64 (a * a), b, wrap64 (c * a)]) (by kernel_rfl) ?_
  refine Rn.on (s' := mk (f + 4) [b] 22 [wrap64 (a * a), b, wrap64 (c * a)]) (by kernel_rfl) ?_
  refine Rn.on (s' := mk (f + 3) [b, 1] 23 [wrap64 (a * a), b, wrap64 (c * a)]) (by kernel_rfl) ?_
  refine Rn.on (s' := mk (f + 2) [b / 2 ^ ((1 : Int) % 64).toNat] 24 [wrap64 (a * a), b, wrap64 (c * a)]) (by kernel_rfl) ?_
  rw [show (b / 2 ^ ((1 : Int) % 64).toNat : Int) = q from HQ]
  refine Rn.on (s' := mk (f + 1) [] 25 [wrap64 (a * a), q, wrap64 (c * a)]) (by kernel_rfl) ?_
  refine Rn.on (s' := mk f [] 2 [wrap64 (a * a), q, wrap64 (c * a)]) (by kernel_rfl) ?_
  exact h
theorem pow_even {f : Nat} {r : Int × EgV} {a b c q : Int} (hb : b ≠ 0) (H1 : bits .and .i64 b 1 = 0) (HQ : b / 2 ^ ((1 : Int) % 64).toNat = q) (h : Rn (oneF powC) [⟨2, powT, powG⟩] [] 8 (mk f [] 2 [wrap64 (a * a), q, c]) r) : Rn (oneF powC) [⟨2, powT, powG⟩] [] 8 (mk (f + 19) [] 2 [a, b, c]) r := by
  refine Rn.on (s' := mk (f + 18) [] 3 [a, b, c]) (by kernel_rfl) ?_
  refine Rn.on (s' := mk (f + 17) [b] 4 [a, b, c]) (by kernel_rfl) ?_
  refine Rn.on (s' := mk (f + 16) [if (b : Int) = 0 then 1 else 0] 5 [a, b, c]) (by kernel_rfl) ?_
  rw [show (if (b : Int) = 0 then 1 else 0 : Int) = 0 from if_neg hb]
  refine Rn.on (s' := mk (f + 15) [] 7 [a, b, c]) (by kernel_rfl) ?_
  refine Rn.on (s' := mk (f + 14) [] 8 [a, b, c]) (by kernel_rfl) ?_
  refine Rn.on (s' := mk (f + 13) [b] 9 [a, b, c]) (by kernel_rfl) ?_
  refine Rn.on (s' := mk (f + 12) [b, 1] 10 [a, b, c]) (by kernel_rfl) ?_
  refine Rn.on (s' := mk (f + 11) [bits .and .i64 (b) (1)] 11 [a, b, c]) (by kernel_rfl) ?_
  rw [show (bits .and .i64 (b) (1) : Int) = 0 from H1]
  refine Rn.on (s' := mk (f + 10) [] 16 [a, b, c]) (by kernel_rfl) ?_
  refine Rn.on (s' := mk (f + 9) [] 17 [a, b, c]) (by kernel_rfl) ?_
  refine Rn.on (s' := mk (f + 8) [a] 18 [a, b, c]) (by kernel_rfl) ?_
  refine Rn.on (s' := mk (f + 7) [a, a] 19 [a, b, c]) (by kernel_rfl) ?_
  refine Rn.on (s' := mk (f + 6) [wrap64 (a * a)] 20 [a, b, c]) (by kernel_rfl) ?_
  refine Rn.on (s' := mk (f + 5) [] 21 [wrap64 (a * a), b, c]) (by kernel_rfl) ?_
  refine Rn.on (s' := mk (f + 4) [b] 22 [wrap64 (a * a), b, c]) (by kernel_rfl) ?_
  refine Rn.on (s' := mk (f + 3) [b, 1] 23 [wrap64 (a * a), b, c]) (by kernel_rfl) ?_
  refine Rn.on (s' := mk (f + 2) [b / 2 ^ ((1 : Int) % 64).toNat] 24 [wrap64 (a * a), b, c]) (by kernel_rfl) ?_
  rw [show (b / 2 ^ ((1 : Int) % 64).toNat : Int) = q from HQ]
  refine Rn.on (s' := mk (f + 1) [] 25 [wrap64 (a * a), q, c]) (by kernel_rfl) ?_
  refine Rn.on (s' := mk f [] 2 [wrap64 (a * a), q, c]) (by kernel_rfl) ?_
  exact h
theorem pow_end {f : Nat} {a c : Int} : Rn (oneF powC) [⟨2, powT, powG⟩] [] 8 (mk (f + 6) [] 2 [a, 0, c]) (0, ⟨f, [c], [], List.replicate 64 0, [false], []⟩) := by
  refine Rn.on (s' := mk (f + 5) [] 3 [a, 0, c]) (by kernel_rfl) ?_
  refine Rn.on (s' := mk (f + 4) [0] 4 [a, 0, c]) (by kernel_rfl) ?_
  refine Rn.on (s' := mk (f + 3) [if (0 : Int) = 0 then 1 else 0] 5 [a, 0, c]) (by kernel_rfl) ?_
  rw [show (if (0 : Int) = 0 then 1 else 0 : Int) = 1 from rfl]
  refine Rn.on (s' := mk (f + 2) [] 6 [a, 0, c]) (by kernel_rfl) ?_
  refine Rn.on (s' := mk (f + 1) [] 26 [a, 0, c]) (by kernel_rfl) ?_
  refine Rn.on (s' := mk f [c] 27 [a, 0, c]) (by kernel_rfl) ?_
  refine Rn.on (s' := ⟨f, [c], [], List.replicate 64 0, [false], []⟩) (by kernel_rfl) ?_
  exact Rn.stop (by kernel_rfl)
theorem pow_pre {f : Nat} {r : Int × EgV} {a b : Int} (h : Rn (oneF powC) [⟨2, powT, powG⟩] [] 8 (mk f [] 2 [a, b, 1]) r) : Rn (oneF powC) [⟨2, powT, powG⟩] [] 8 (mk (f + 2) [] 0 [a, b, 0]) r := by
  refine Rn.on (s' := mk (f + 1) [1] 1 [a, b]) (by kernel_rfl) ?_
  refine Rn.on (s' := mk f [] 2 [a, b, 1]) (by kernel_rfl) ?_
  exact h
theorem wrap64_mul (x y : Int) : wrap64 (wrap64 x * y) = wrap64 (x * y) := wrap64_congr (by rw [Int.mul_emod, wrap64_mod, ← Int.mul_emod])
theorem wrap64_pow (y : Int) : ∀ (n : Nat) (x : Int), wrap64 (x * (wrap64 y) ^ n) = wrap64 (x * y ^ n)
  | 0, x => by rw [Int.pow_zero, Int.pow_zero]
  | n + 1, x => by
    rw [Int.pow_succ, Int.pow_succ, Int.mul_comm (wrap64 y ^ n), ← Int.mul_assoc, wrap64_pow y n, Int.mul_comm x (wrap64 y), Int.mul_assoc, wrap64_mul]
    congr 1
    rw [Int.mul_comm (y ^ n) y, ← Int.mul_assoc, ← Int.mul_assoc, Int.mul_comm y x]
theorem pow_loop (j : Nat) : ∀ (a c : Int) (f : Nat), In64 c → j ≤ 1000 → 23 * j + 6 ≤ f → ∃ s', Rn (oneF powC) [⟨2, powT, powG⟩] [] 8 (mk f [] 2 [a, (j : Int), c]) (0, s') ∧ s'.st.getLast? = some (wrap64 (c * a ^ j)) := by
  induction j using Nat.strongRecOn with
  | _ j ih =>
    intro a c f hc hj hf
    by_cases h0 : j = 0
    · subst h0
      obtain ⟨f, rfl⟩ : ∃ g, f = g + 6 := ⟨f - 6, by omega⟩
      refine ⟨_, pow_end, ?_⟩
      rw [Int.pow_zero, Int.mul_one, wrap64_id hc]; rfl
    · have hb : (j : Int) ≠ 0 := by omega
      have HQ : (j : Int) / 2 ^ ((1 : Int) % 64).toNat = ((j / 2 : Nat) : Int) := by show (j : Int) / 2 = _; omega
      have hm := tmask_1 (j : Int)
      by_cases h1 : j % 2 = 1
      · obtain ⟨f, rfl⟩ : ∃ g, f = g + 23 := ⟨f - 23, by omega⟩
        obtain ⟨s', hs, hl⟩ := ih (j / 2) (by omega) (wrap64 (a * a)) (wrap64 (c * a)) f (wrap64_in64 _) (by omega) (by omega)
        refine ⟨s', pow_odd hb (by rw [hm]; omega) HQ hs, ?_⟩
        rw [hl, wrap64_pow, wrap64_mul]
        congr 2
        obtain ⟨m, rfl⟩ : ∃ m, j = 2 * m + 1 := ⟨j / 2, by omega⟩
        rw [show (2 * m + 1) / 2 = m from by omega, Int.pow_succ, Int.pow_mul, show (a ^ 2 : Int) = a * a from by rw [Int.pow_succ, Int.pow_succ, Int.pow_zero, Int.one_mul], Int.mul_assoc, Int.mul_comm a]
      · obtain ⟨f, rfl⟩ : ∃ g, f = g + 19 := ⟨f - 19, by omega⟩
        obtain ⟨s', hs, hl⟩ := ih (j / 2) (by omega) (wrap64 (a * a)) c f hc (by omega) (by omega)
        refine ⟨s', pow_even hb (by rw [hm]; omega) HQ hs, ?_⟩
        rw [hl, wrap64_pow]
        congr 2
        obtain ⟨m, rfl⟩ : ∃ m, j = 2 * m := ⟨j / 2, by omega⟩
        rw [show (2 * m) / 2 = m from by omega, Int.pow_mul, show (a ^ 2 : Int) = a * a from by rw [Int.pow_succ, Int.pow_succ, Int.pow_zero, Int.one_mul]]
theorem pow_run (k : Nat) (a : Int) (hk : k ≤ 63) : EndsAs powC a (k : Int) (wrap64 (a ^ k)) 0 := by
  obtain ⟨s', hs, hl⟩ := pow_loop k a 1 99998 (by unfold In64; omega) (by omega) (by omega)
  rw [Int.one_mul] at hl
  exact ends_of pow_tok pow_nest pow_ok (by decide) (s' := s') (pow_pre hs) hl
theorem pow_next (a : Int) (m : Nat) : wrap64 (wrap64 (a ^ m) * a) = wrap64 (a ^ (m + 1)) := by rw [wrap64_mul, Int.pow_succ]
end Go.Proofs.Ytnohfdojcdhfoaa
