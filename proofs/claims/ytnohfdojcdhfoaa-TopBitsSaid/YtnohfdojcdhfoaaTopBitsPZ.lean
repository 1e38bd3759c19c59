/-
  Bits that are 1: the run.
-/
import Derived.Test.YtnohfdojcdhfoaaZTopRun1
import Derived.Test.YtnohfdojcdhfoaaZTopRun2
import Derived.Test.YtnohfdojcdhfoaaZTopRun3
import Derived.Test.YtnohfdojcdhfoaaZTopRun4
import Derived.Test.YtnohfdojcdhfoaaZTopRun5
import Derived.Test.YtnohfdojcdhfoaaZTopRun6
import Derived.Test.YtnohfdojcdhfoaaZTopRun7
import Derived.Test.YtnohfdojcdhfoaaZTopRun8
import Derived.Test.YtnohfdojcdhfoaaZTopRun9
import Derived.Test.YtnohfdojcdhfoaaFrameZ
import Derived.Test.YtnohfdojcdhfoaaTopRunZ
import Derived.Test.YtnohfdojcdhfoaaTopAwakeZ
import Derived.Test.YtnohfdojcdhfoaaTopMaskZ
import Derived.Test.YtnohfdojcdhfoaaTopMemZ
namespace Go.Proofs.Ytnohfdojcdhfoaa
open Go.RowKit
def bitC : ByteArray := ⟨#[48, 67, 54, 52, 68, 91, 100, 33, 63, 126, 59, 99, 97, 32, 49, 38, 43, 67, 97, 32, 49, 194, 187, 65, 100, 32, 49, 45, 68, 93, 99]⟩
def bitT : List TkV := [⟨48, 0, 0⟩, ⟨67, 0, 0⟩, ⟨48, 64, 0⟩, ⟨68, 0, 0⟩, ⟨91, 0, 0⟩, ⟨100, 0, 0⟩, ⟨33, 0, 0⟩, ⟨63, 0, 0⟩, ⟨126, 0, 0⟩, ⟨59, 0, 0⟩, ⟨99, 0, 0⟩, ⟨97, 0, 0⟩, ⟨48, 1, 0⟩, ⟨38, 0, 0⟩, ⟨43, 0, 0⟩, ⟨67, 0, 0⟩, ⟨97, 0, 0⟩, ⟨48, 1, 0⟩, ⟨187, 0, 0⟩, ⟨65, 0, 0⟩, ⟨100, 0, 0⟩, ⟨48, 1, 0⟩, ⟨45, 0, 0⟩, ⟨68, 0, 0⟩, ⟨93, 0, 0⟩, ⟨99, 0, 0⟩]
def bitG : List Int := [(-1), (-1), (-1), (-1), (-1), (-1), (-1), 9, 25, (-1), (-1), (-1), (-1), (-1), (-1), (-1), (-1), (-1), (-1), (-1), (-1), (-1), (-1), (-1), 4, (-1)]
theorem bit_tok : tokR bitC = some bitT := by kernel_rfl
theorem bit_nest : (rNest (signs bitT)).map (·.1) = some bitG := by decide +kernel
theorem bit_ok : (rFn (oneF bitC) 0).1 = 0 := by decide +kernel
theorem bit_rnd {f : Nat} {r : Int × EgV} {a t q c e d g : Int} (hd : d ≠ 0) (HT : bits .and .i64 a 1 = t) (HC : wrap64 (c + t) = e) (HQ : a / 2 ^ ((1 : Int) % 64).toNat = q) (HD : wrap64 (d - 1) = g) (h : Rn (oneF bitC) [⟨2, bitT, bitG⟩] [] 8 (mk f [] 4 [q, 0, e, g]) r) : Rn (oneF bitC) [⟨2, bitT, bitG⟩] [] 8 (mk (f + 20) [] 4 [a, 0, c, d]) r := by
  refine Rn.on (s' := mk (f + 19) [] 5 [a, 0, c, d]) (by kernel_rfl) ?_
  refine Rn.on (s' := mk (f + 18) [d] 6 [a, 0, c, d]) (by kernel_rfl) ?_
  refine Rn.on (s' := mk (f + 17) [if (d : Int) = 0 then 1 else 0] 7 [a, 0, c, d]) (by kernel_rfl) ?_
  rw [show (if (d : Int) = 0 then 1 else 0 : Int) = 0 from if_neg hd]
  refine Rn.on (s' := mk (f + 16) [] 9 [a, 0, c, d]) (by kernel_rfl) ?_
  refine Rn.on (s' := mk (f + 15) [] 10 [a, 0, c, d]) (by kernel_rfl) ?_
  refine Rn.on (s' := mk (f + 14) [c] 11 [a, 0, c, d]) (by kernel_rfl) ?_
  refine Rn.on (s' := mk (f + 13) [c, a] 12 [a, 0, c, d]) (by kernel_rfl) ?_
  refine Rn.on (s' := mk (f + 12) [c, a, 1] 13 [a, 0, c, d]) (by kernel_rfl) ?_
  refine Rn.on (s' := mk (f + 11) [c, bits .and .i64 (a) (1)] 14 [a, 0, c, d]) (by kernel_rfl) ?_
  rw [show (bits .and .i64 (a) (1) : Int) = t from HT]
  refine Rn.on (s' := mk (f + 10) [wrap64 (c + t)] 15 [a, 0, c, d]) (by kernel_rfl) ?_
  rw [show (wrap64 (c + t) : Int) = e from HC]
  refine Rn.on (s' := mk (f + 9) [] 16 [a, 0, e, d]) (by kernel_rfl) ?_
  refine Rn.on (s' := mk (f + 8) [a] 17 [a, 0, e, d]) (by kernel_rfl) ?_
  refine Rn.on (s' := mk (f + 7) [a, 1] 18 [a, 0, e, d]) (by kernel_rfl) ?_
  refine Rn.on (s' := mk (f + 6) [a / 2 ^ ((1 : Int) % 64).toNat] 19 [a, 0, e, d]) (by kernel_rfl) ?_
  rw [show (a / 2 ^ ((1 : Int) % 64).toNat : Int) = q from HQ]
  refine Rn.on (s' := mk (f + 5) [] 20 [q, 0, e, d]) (by kernel_rfl) ?_
  refine Rn.on (s' := mk (f + 4) [d] 21 [q, 0, e, d]) (by kernel_rfl) ?_
  refine Rn.on (s' := mk (f + 3) [d, 1] 22 [q, 0, e, d]) (by kernel_rfl) ?_
  refine Rn.on (s' := mk (f + 2) [wrap64 (d - 1)] 23 [q, 0, e, d]) (by kernel_rfl) ?_
  rw [show (wrap64 (d - 1) : Int) = g from HD]
  refine Rn.on (s' := mk (f + 1) [] 24 [q, 0, e, g]) (by kernel_rfl) ?_
  refine Rn.on (s' := mk f [] 4 [q, 0, e, g]) (by kernel_rfl) ?_
  exact h
theorem bit_end {f : Nat} {a c : Int} : Rn (oneF bitC) [⟨2, bitT, bitG⟩] [] 8 (mk (f + 6) [] 4 [a, 0, c, 0]) (0, ⟨f, [c], [], List.replicate 64 0, [false], []⟩) := by
  refine Rn.on (s' := mk (f + 5) [] 5 [a, 0, c, 0]) (by kernel_rfl) ?_
  refine Rn.on (s' := mk (f + 4) [0] 6 [a, 0, c, 0]) (by kernel_rfl) ?_
  refine Rn.on (s' := mk (f + 3) [if (0 : Int) = 0 then 1 else 0] 7 [a, 0, c, 0]) (by kernel_rfl) ?_
  rw [show (if (0 : Int) = 0 then 1 else 0 : Int) = 1 from rfl]
  refine Rn.on (s' := mk (f + 2) [] 8 [a, 0, c, 0]) (by kernel_rfl) ?_
  refine Rn.on (s' := mk (f + 1) [] 25 [a, 0, c, 0]) (by kernel_rfl) ?_
  refine Rn.on (s' := mk f [c] 26 [a, 0, c, 0]) (by kernel_rfl) ?_
  refine Rn.on (s' := ⟨f, [c], [], List.replicate 64 0, [false], []⟩) (by kernel_rfl) ?_
  exact Rn.stop (by kernel_rfl)
theorem bit_pre {f : Nat} {r : Int × EgV} {a b : Int} (h : Rn (oneF bitC) [⟨2, bitT, bitG⟩] [] 8 (mk f [] 4 [a, b, 0, 64]) r) : Rn (oneF bitC) [⟨2, bitT, bitG⟩] [] 8 (mk (f + 4) [] 0 [a, b, 0, 0]) r := by
  refine Rn.on (s' := mk (f + 3) [0] 1 [a, b]) (by kernel_rfl) ?_
  refine Rn.on (s' := mk (f + 2) [] 2 [a, b, 0]) (by kernel_rfl) ?_
  refine Rn.on (s' := mk (f + 1) [64] 3 [a, b, 0]) (by kernel_rfl) ?_
  refine Rn.on (s' := mk f [] 4 [a, b, 0, 64]) (by kernel_rfl) ?_
  exact h
def popN : Nat → Int → Int
  | 0, _ => 0
  | n + 1, a => a % 2 + popN n (a / 2)
theorem bit_loop : ∀ (j : Nat) (a c : Int) (f : Nat), 0 ≤ c → c + j ≤ 1000 → 20 * j + 6 ≤ f → ∃ s', Rn (oneF bitC) [⟨2, bitT, bitG⟩] [] 8 (mk f [] 4 [a, 0, c, (j : Int)]) (0, s') ∧ s'.st.getLast? = some (c + popN j a)
  | 0, a, c, f, _, _, hf => by
    obtain ⟨f, rfl⟩ : ∃ g, f = g + 6 := ⟨f - 6, by omega⟩
    exact ⟨_, bit_end, by rw [popN, Int.add_zero]; rfl⟩
  | j + 1, a, c, f, hc, hj, hf => by
    obtain ⟨f, rfl⟩ : ∃ g, f = g + 20 := ⟨f - 20, by omega⟩
    obtain ⟨s', hs, hl⟩ := bit_loop j (a / 2) (c + a % 2) f (by omega) (by omega) (by omega)
    refine ⟨s', bit_rnd (by omega) (tmask_1 a) (IntWalk.wrap64_in _ (by omega)) (by show a / 2 = _; rfl) ?_ hs, by rw [hl, popN]; congr 1; omega⟩
    rw [show ((j + 1 : Nat) : Int) - 1 = (j : Int) from by omega]
    exact IntWalk.wrap64_in _ (by omega)
theorem bit_run (a : Int) : EndsAs bitC a 0 (popN 64 a) 0 := by
  obtain ⟨s', hs, hl⟩ := bit_loop 64 a 0 99996 (by omega) (by omega) (by omega)
  exact ends_of bit_tok bit_nest bit_ok (by decide) (s' := s') (bit_pre hs) (by rw [hl]; congr 1; omega)
theorem popN_le : ∀ (n : Nat) (a : Int), 0 ≤ popN n a ∧ popN n a ≤ n
  | 0, a => by simp [popN]
  | n + 1, a => by have := popN_le n (a / 2); rw [popN]; omega
theorem pow_split (i : Nat) (hi : i ≤ 64) : (18446744073709551616 : Int) = 2 ^ i * 2 ^ (64 - i) := by
  rw [← Int.pow_add, show i + (64 - i) = 64 from by omega]; rfl
theorem bit_of (a : Int) (i : Nat) (hi : i < 64) : a % 18446744073709551616 / 2 ^ i % 2 = a / 2 ^ i % 2 := by
  have h1 : a = a % 18446744073709551616 + 2 ^ i * (2 ^ (64 - i) * (a / 18446744073709551616)) := by
    rw [← Int.mul_assoc, ← pow_split i (by omega)]; omega
  have hp : (2 ^ i : Int) ≠ 0 := by have : (0 : Int) < 2 ^ i := Int.pow_pos (by decide); omega
  have h2 : a / 2 ^ i = a % 18446744073709551616 / 2 ^ i + 2 ^ (64 - i) * (a / 18446744073709551616) := by
    conv => lhs; rw [h1]
    rw [Int.add_mul_ediv_left _ _ hp]
  rw [h2, show 64 - i = (63 - i) + 1 from by omega, Int.pow_succ, Int.mul_comm (2 ^ (63 - i) : Int) 2, Int.mul_assoc]
  omega
theorem pop_next (a : Int) (i : Nat) (hi : i < 64) : popN (64 - i) (a / 2 ^ i) = a % 18446744073709551616 / 2 ^ i % 2 + popN (64 - (i + 1)) (a / 2 ^ (i + 1)) := by
  rw [bit_of a i hi, show 64 - i = (64 - (i + 1)) + 1 from by omega, popN, Int.pow_succ, Int.ediv_ediv, if_neg (fun h => absurd h.1 (Int.not_lt.2 (Int.le_of_lt (Int.pow_pos (by decide))))), Int.sub_zero]
end Go.Proofs.Ytnohfdojcdhfoaa
