/-
  Steps to 1: the run.
-/
import Derived.Test.YtnohfdojcdhfoaaZTopRun1
import Derived.Test.YtnohfdojcdhfoaaZTopRun2
import Derived.Test.YtnohfdojcdhfoaaZTopRun3
import Derived.Test.YtnohfdojcdhfoaaZTopRun4
import Derived.Test.YtnohfdojcdhfoaaZTopRun5
import Derived.Test.YtnohfdojcdhfoaaZTopRun6
import Derived.Test.YtnohfdojcdhfoaaZTopRun7
import Derived.Test.YtnohfdojcdhfoaaZTopRun8
import Derived.Test.YtnohfdojcdhfoaaZTopRun9
import Derived.Test.YtnohfdojcdhfoaaFrameZ
import Derived.Test.YtnohfdojcdhfoaaTopRunZ
import Derived.Test.YtnohfdojcdhfoaaTopAwakeZ
import Derived.Test.YtnohfdojcdhfoaaTopMaskZ
import Derived.Test.YtnohfdojcdhfoaaTopMemZ
namespace Go.Proofs.Ytnohfdojcdhfoaa
open Go.RowKit
def stpC : ByteArray := ⟨#[48, 67, 91, 97, 32, 49, 61, 63, 126, 59, 97, 32, 49, 38, 63, 97, 32, 51, 42, 49, 43, 65, 58, 97, 32, 50, 47, 65, 59, 99, 32, 49, 43, 67, 93, 99]⟩
def stpT : List TkV := [⟨48, 0, 0⟩, ⟨67, 0, 0⟩, ⟨91, 0, 0⟩, ⟨97, 0, 0⟩, ⟨48, 1, 0⟩, ⟨61, 0, 0⟩, ⟨63, 0, 0⟩, ⟨126, 0, 0⟩, ⟨59, 0, 0⟩, ⟨97, 0, 0⟩, ⟨48, 1, 0⟩, ⟨38, 0, 0⟩, ⟨63, 0, 0⟩, ⟨97, 0, 0⟩, ⟨48, 3, 0⟩, ⟨42, 0, 0⟩, ⟨48, 1, 0⟩, ⟨43, 0, 0⟩, ⟨65, 0, 0⟩, ⟨58, 0, 0⟩, ⟨97, 0, 0⟩, ⟨48, 2, 0⟩, ⟨47, 0, 0⟩, ⟨65, 0, 0⟩, ⟨59, 0, 0⟩, ⟨99, 0, 0⟩, ⟨48, 1, 0⟩, ⟨43, 0, 0⟩, ⟨67, 0, 0⟩, ⟨93, 0, 0⟩, ⟨99, 0, 0⟩]
def stpG : List Int := [(-1), (-1), (-1), (-1), (-1), (-1), 8, 30, (-1), (-1), (-1), (-1), 20, (-1), (-1), (-1), (-1), (-1), (-1), 24, (-1), (-1), (-1), (-1), (-1), (-1), (-1), (-1), (-1), 2, (-1)]
theorem stp_tok : tokR stpC = some stpT := by kernel_rfl
theorem stp_nest : (rNest (signs stpT)).map (·.1) = some stpG := by decide +kernel
theorem stp_ok : (rFn (oneF stpC) 0).1 = 0 := by decide +kernel
theorem stp_odd {f : Nat} {r : Int × EgV} {x y c d : Int} (h1 : x ≠ 1) (HB : bits .and .i64 x 1 = 1) (HM : wrap64 (wrap64 (x * 3) + 1) = y) (HC : wrap64 (c + 1) = d) (h : Rn (oneF stpC) [⟨2, stpT, stpG⟩] [] 8 (mk f [] 2 [y, 0, d]) r) : Rn (oneF stpC) [⟨2, stpT, stpG⟩] [] 8 (mk (f + 23) [] 2 [x, 0, c]) r := by
  refine Rn.on (s' := mk (f + 22) [] 3 [x, 0, c]) (by kernel_rfl) ?_
  refine Rn.on (s' := mk (f + 21) [x] 4 [x, 0, c]) (by kernel_rfl) ?_
  refine Rn.on (s' := mk (f + 20) [x, 1] 5 [x, 0, c]) (by kernel_rfl) ?_
  refine Rn.on (s' := mk (f + 19) [if (x : Int) = 1 then 1 else 0] 6 [x, 0, c]) (by kernel_rfl) ?_
  rw [show (if (x : Int) = 1 then 1 else 0 : Int) = 0 from if_neg h1]
  refine Rn.on (s' := mk (f + 18) [] 8 [x, 0, c]) (by kernel_rfl) ?_
  refine Rn.on (s' := mk (f + 17) [] 9 [x, 0, c]) (by kernel_rfl) ?_
  refine Rn.on (s' := mk (f + 16) [x] 10 [x, 0, c]) (by kernel_rfl) ?_
  refine Rn.on (s' := mk (f + 15) [x, 1] 11 [x, 0, c]) (by kernel_rfl) ?_
  refine Rn.on (s' := mk (f + 14) [bits .and .i64 (x) (1)] 12 [x, 0, c]) (by kernel_rfl) ?_
  rw [show (bits .and .i64 (x) (1) : Int) = 1 from HB]
  refine Rn.on (s' := mk (f + 13) [] 13 [x, 0, c]) (by kernel_rfl) ?_
  refine Rn.on (s' := mk (f + 12) [x] 14 [x, 0, c]) (by kernel_rfl) ?_
  refine Rn.on (s' := mk (f + 11) [x, 3] 15 [x, 0, c]) (by kernel_rfl) ?_
  refine Rn.on (s' := mk (f + 10) [wrap64 (x * 3)] 16 [x, 0, c]) (by kernel_rfl) ?_
  refine Rn.on (s' := mk (f + 9) [wrap64 (x * 3), 1] 17 [x, 0, c]) (by kernel_rfl) ?_
  refine Rn.on (s' := mk (f + 8) [wrap64 ((wrap64 (x * 3)) + 1)] 18 [x, 0, c]) (by kernel_rfl) ?_
  rw [show (wrap64 ((wrap64 (x * 3)) + 1) : Int) = y from HM]
  refine Rn.on (s' := mk (f + 7) [] 19 [y, 0, c]) (by kernel_rfl) ?_
  refine Rn.on (s' := mk (f + 6) [] 24 [y, 0, c]) (by kernel_rfl) ?_
  refine Rn.on (s' := mk (f + 5) [] 25 [y, 0, c]) (by kernel_rfl) ?_
  refine Rn.on (s' := mk (f + 4) [c] 26 [y, 0, c]) (by kernel_rfl) ?_
  refine Rn.on (s' := mk (f + 3) [c, 1] 27 [y, 0, c]) (by kernel_rfl) ?_
  refine Rn.on (s' := mk (f + 2) [wrap64 (c + 1)] 28 [y, 0, c]) (by kernel_rfl) ?_
  rw [show (wrap64 (c + 1) : Int) = d from HC]
  refine Rn.on (s' := mk (f + 1) [] 29 [y, 0, d]) (by kernel_rfl) ?_
  refine Rn.on (s' := mk f [] 2 [y, 0, d]) (by kernel_rfl) ?_
  exact h
theorem stp_even {f : Nat} {r : Int × EgV} {x y c d : Int} (h1 : x ≠ 1) (HB : bits .and .i64 x 1 = 0) (HM : doR 47 x 2 = (y, 0)) (HC : wrap64 (c + 1) = d) (h : Rn (oneF stpC) [⟨2, stpT, stpG⟩] [] 8 (mk f [] 2 [y, 0, d]) r) : Rn (oneF stpC) [⟨2, stpT, stpG⟩] [] 8 (mk (f + 20) [] 2 [x, 0, c]) r := by
  refine Rn.on (s' := mk (f + 19) [] 3 [x, 0, c]) (by kernel_rfl) ?_
  refine Rn.on (s' := mk (f + 18) [x] 4 [x, 0, c]) (by kernel_rfl) ?_
  refine Rn.on (s' := mk (f + 17) [x, 1] 5 [x, 0, c]) (by kernel_rfl) ?_
  refine Rn.on (s' := mk (f + 16) [if (x : Int) = 1 then 1 else 0] 6 [x, 0, c]) (by kernel_rfl) ?_
  rw [show (if (x : Int) = 1 then 1 else 0 : Int) = 0 from if_neg h1]
  refine Rn.on (s' := mk (f + 15) [] 8 [x, 0, c]) (by kernel_rfl) ?_
  refine Rn.on (s' := mk (f + 14) [] 9 [x, 0, c]) (by kernel_rfl) ?_
  refine Rn.on (s' := mk (f + 13) [x] 10 [x, 0, c]) (by kernel_rfl) ?_
  refine Rn.on (s' := mk (f + 12) [x, 1] 11 [x, 0, c]) (by kernel_rfl) ?_
  refine Rn.on (s' := mk (f + 11) [bits .and .i64 (x) (1)] 12 [x, 0, c]) (by kernel_rfl) ?_
  rw [show (bits .and .i64 (x) (1) : Int) = 0 from HB]
  refine Rn.on (s' := mk (f + 10) [] 20 [x, 0, c]) (by kernel_rfl) ?_
  refine Rn.on (s' := mk (f + 9) [x] 21 [x, 0, c]) (by kernel_rfl) ?_
  refine Rn.on (s' := mk (f + 8) [x, 2] 22 [x, 0, c]) (by kernel_rfl) ?_
  refine Rn.on (s' := mk (f + 7) [y] 23 [x, 0, c]) (step_rk (f + 7) [] x 2 y 22 [x, 0, c] (List.replicate 64 0) [false] [] (by kernel_rfl) (by kernel_rfl) (by decide) rfl rfl (by decide) (HM)) ?_
  refine Rn.on (s' := mk (f + 6) [] 24 [y, 0, c]) (by kernel_rfl) ?_
  refine Rn.on (s' := mk (f + 5) [] 25 [y, 0, c]) (by kernel_rfl) ?_
  refine Rn.on (s' := mk (f + 4) [c] 26 [y, 0, c]) (by kernel_rfl) ?_
  refine Rn.on (s' := mk (f + 3) [c, 1] 27 [y, 0, c]) (by kernel_rfl) ?_
  refine Rn.on (s' := mk (f + 2) [wrap64 (c + 1)] 28 [y, 0, c]) (by kernel_rfl) ?_
  rw [show (wrap64 (c + 1) : Int) = d from HC]
  refine Rn.on (s' := mk (f + 1) [] 29 [y, 0, d]) (by kernel_rfl) ?_
  refine Rn.on (s' := mk f [] 2 [y, 0, d]) (by kernel_rfl) ?_
  exact h
theorem stp_end {f : Nat} {c : Int} : Rn (oneF stpC) [⟨2, stpT, stpG⟩] [] 8 (mk (f + 7) [] 2 [1, 0, c]) (0, ⟨f, [c], [], List.replicate 64 0, [false], []⟩) := by
  refine Rn.on (s' := mk (f + 6) [] 3 [1, 0, c]) (by kernel_rfl) ?_
  refine Rn.on (s' := mk (f + 5) [1] 4 [1, 0, c]) (by kernel_rfl) ?_
  refine Rn.on (s' := mk (f + 4) [1, 1] 5 [1, 0, c]) (by kernel_rfl) ?_
  refine Rn.on (s' := mk (f + 3) [if (1 : Int) = 1 then 1 else 0] 6 [1, 0, c]) (by kernel_rfl) ?_
  rw [show (if (1 : Int) = 1 then 1 else 0 : Int) = 1 from rfl]
  refine Rn.on (s' := mk (f + 2) [] 7 [1, 0, c]) (by kernel_rfl) ?_
  refine Rn.on (s' := mk (f + 1) [] 30 [1, 0, c]) (by kernel_rfl) ?_
  refine Rn.on (s' := mk f [c] 31 [1, 0, c]) (by kernel_rfl) ?_
  refine Rn.on (s' := ⟨f, [c], [], List.replicate 64 0, [false], []⟩) (by kernel_rfl) ?_
  exact Rn.stop (by kernel_rfl)
theorem stp_pre {f : Nat} {r : Int × EgV} {a b : Int} (h : Rn (oneF stpC) [⟨2, stpT, stpG⟩] [] 8 (mk f [] 2 [a, b, 0]) r) : Rn (oneF stpC) [⟨2, stpT, stpG⟩] [] 8 (mk (f + 2) [] 0 [a, b, 0]) r := by
  refine Rn.on (s' := mk (f + 1) [0] 1 [a, b]) (by kernel_rfl) ?_
  refine Rn.on (s' := mk f [] 2 [a, b, 0]) (by kernel_rfl) ?_
  exact h
def nxt (x : Nat) : Nat := if x % 2 = 1 then 3 * x + 1 else x / 2
def colN : Nat → Nat → Option Nat
  | 0, x => if x = 1 then some 0 else none
  | n + 1, x => if x = 1 then some 0 else if 1000000 < x then none else (colN n (nxt x)).map (· + 1)
theorem col_all : ∀ k, k < 256 → (colN 140 (k + 1)).isSome = true := by decide +kernel
theorem col_one {n m : Nat} (h : colN n 1 = some m) : m = 0 := by
  cases n with
  | zero => rw [colN, if_pos rfl] at h; injection h with h; exact h.symm
  | succ n => rw [colN, if_pos rfl] at h; injection h with h; exact h.symm
theorem col_next {n x m : Nat} (hx : x ≠ 1) (h : colN n x = some m) : ∃ k i, n = k + 1 ∧ m = i + 1 ∧ colN k (nxt x) = some i ∧ x ≤ 1000000 := by
  cases n with
  | zero => rw [colN, if_neg hx] at h; cases h
  | succ n =>
    rw [colN, if_neg hx] at h
    by_cases hb : 1000000 < x
    · rw [if_pos hb] at h; cases h
    · rw [if_neg hb] at h
      cases hc : colN n (nxt x) with
      | none => rw [hc] at h; cases h
      | some i => rw [hc] at h; simp only [Option.map_some, Option.some.injEq] at h; exact ⟨n, i, rfl, h.symm, hc, by omega⟩
theorem col_le : ∀ (n : Nat) {x m : Nat}, colN n x = some m → m ≤ n
  | n, x, m, h => by
    by_cases hx : x = 1
    · subst hx; rw [col_one h]; omega
    · obtain ⟨k, i, rfl, rfl, hc, _⟩ := col_next hx h
      have := col_le k hc
      omega
theorem nxt_pos {x : Nat} (_hx : x ≠ 1) (h : 1 ≤ x) : 1 ≤ nxt x := by unfold nxt; split <;> omega
theorem stp_loop : ∀ (n : Nat) (x m : Nat) (c : Int) (f : Nat), colN n x = some m → 1 ≤ x → 0 ≤ c → c + m ≤ 100000 → 23 * m + 7 ≤ f → ∃ s', Rn (oneF stpC) [⟨2, stpT, stpG⟩] [] 8 (mk f [] 2 [(x : Int), 0, c]) (0, s') ∧ s'.st.getLast? = some (c + m)
  | n, x, m, c, f, h, hx, hc, hm, hf => by
    by_cases h1 : x = 1
    · subst h1
      obtain rfl := col_one h
      obtain ⟨f, rfl⟩ : ∃ g, f = g + 7 := ⟨f - 7, by omega⟩
      exact ⟨_, stp_end, by simp⟩
    · obtain ⟨k, i, rfl, rfl, hk, hb⟩ := col_next h1 h
      have hi : (x : Int) ≠ 1 := by omega
      have HC : wrap64 (c + 1) = c + 1 := IntWalk.wrap64_in _ (by omega)
      have hmm := tmask_1 (x : Int)
      by_cases hx2 : x % 2 = 1
      · obtain ⟨f, rfl⟩ : ∃ g, f = g + 23 := ⟨f - 23, by omega⟩
        have hn : nxt x = 3 * x + 1 := if_pos hx2
        obtain ⟨s', hs, hl⟩ := stp_loop k (nxt x) i (c + 1) f hk (nxt_pos h1 hx) (by omega) (by omega) (by omega)
        refine ⟨s', stp_odd hi (by rw [hmm]; omega) ?_ HC hs, by rw [hl]; congr 1; omega⟩
        rw [hn, show wrap64 ((x : Int) * 3) = (x : Int) * 3 from IntWalk.wrap64_in _ (by omega), show ((3 * x + 1 : Nat) : Int) = (x : Int) * 3 + 1 from by omega]
        exact IntWalk.wrap64_in _ (by omega)
      · obtain ⟨f, rfl⟩ : ∃ g, f = g + 20 := ⟨f - 20, by omega⟩
        have hn : nxt x = x / 2 := if_neg hx2
        obtain ⟨s', hs, hl⟩ := stp_loop k (nxt x) i (c + 1) f hk (nxt_pos h1 hx) (by omega) (by omega) (by omega)
        refine ⟨s', stp_even hi (by rw [hmm]; omega) ?_ HC hs, by rw [hl]; congr 1; omega⟩
        rw [doR_quo _ (by decide) (by decide), hn, show (x : Int).tdiv 2 = ((x / 2 : Nat) : Int) from by rw [Int.tdiv_eq_ediv_of_nonneg (by omega)]; omega, IntWalk.wrap64_in _ (by omega)]
theorem stp_run (k m : Nat) (h : colN 140 k = some m) (hk : 1 ≤ k) : EndsAs stpC (k : Int) 0 (m : Int) 0 := by
  have hm := col_le _ h
  obtain ⟨s', hs, hl⟩ := stp_loop 140 k m 0 99998 h hk (by omega) (by omega) (by omega)
  exact ends_of stp_tok stp_nest stp_ok (by decide) (s' := s') (stp_pre hs) (by rw [hl]; congr 1; omega)
end Go.Proofs.Ytnohfdojcdhfoaa
