/-
  Digits the other way round: the run.
-/
import Derived.Test.YtnohfdojcdhfoaaZTopRun1
import Derived.Test.YtnohfdojcdhfoaaZTopRun2
import Derived.Test.YtnohfdojcdhfoaaZTopRun3
import Derived.Test.YtnohfdojcdhfoaaZTopRun4
import Derived.Test.YtnohfdojcdhfoaaZTopRun5
import Derived.Test.YtnohfdojcdhfoaaZTopRun6
import Derived.Test.YtnohfdojcdhfoaaZTopRun7
import Derived.Test.YtnohfdojcdhfoaaZTopRun8
import Derived.Test.YtnohfdojcdhfoaaZTopRun9
import Derived.Test.YtnohfdojcdhfoaaFrameZ
import Derived.Test.YtnohfdojcdhfoaaTopRunZ
import Derived.Test.YtnohfdojcdhfoaaTopAwakeZ
import Derived.Test.YtnohfdojcdhfoaaTopMaskZ
import Derived.Test.YtnohfdojcdhfoaaTopMemZ
namespace Go.Proofs.Ytnohfdojcdhfoaa
open Go.RowKit
def digC : ByteArray := ⟨#[48, 67, 91, 97, 33, 63, 126, 59, 99, 32, 49, 48, 42, 97, 32, 49, 48, 37, 43, 67, 97, 32, 49, 48, 47, 65, 93, 99]⟩
def digT : List TkV := [⟨48, 0, 0⟩, ⟨67, 0, 0⟩, ⟨91, 0, 0⟩, ⟨97, 0, 0⟩, ⟨33, 0, 0⟩, ⟨63, 0, 0⟩, ⟨126, 0, 0⟩, ⟨59, 0, 0⟩, ⟨99, 0, 0⟩, ⟨48, 10, 0⟩, ⟨42, 0, 0⟩, ⟨97, 0, 0⟩, ⟨48, 10, 0⟩, ⟨37, 0, 0⟩, ⟨43, 0, 0⟩, ⟨67, 0, 0⟩, ⟨97, 0, 0⟩, ⟨48, 10, 0⟩, ⟨47, 0, 0⟩, ⟨65, 0, 0⟩, ⟨93, 0, 0⟩, ⟨99, 0, 0⟩]
def digG : List Int := [(-1), (-1), (-1), (-1), (-1), 7, 21, (-1), (-1), (-1), (-1), (-1), (-1), (-1), (-1), (-1), (-1), (-1), (-1), (-1), 2, (-1)]
theorem dig_tok : tokR digC = some digT := by kernel_rfl
theorem dig_nest : (rNest (signs digT)).map (·.1) = some digG := by decide +kernel
theorem dig_ok : (rFn (oneF digC) 0).1 = 0 := by decide +kernel
theorem dig_rnd {f : Nat} {r : Int × EgV} {x y m c : Int} (hx : x ≠ 0) (HM : doR 37 x 10 = (m, 0)) (HD : doR 47 x 10 = (y, 0)) (h : Rn (oneF digC) [⟨2, digT, digG⟩] [] 8 (mk f [] 2 [y, 0, wrap64 ((wrap64 (c * 10)) + m)]) r) : Rn (oneF digC) [⟨2, digT, digG⟩] [] 8 (mk (f + 18) [] 2 [x, 0, c]) r := by
  refine Rn.on (s' := mk (f + 17) [] 3 [x, 0, c]) (by kernel_rfl) ?_
  refine Rn.on (s' := mk (f + 16) [x] 4 [x, 0, c]) (by kernel_rfl) ?_
  refine Rn.on (s' := mk (f + 15) [if (x : Int) = 0 then 1 else 0] 5 [x, 0, c]) (by kernel_rfl) ?_
  rw [show (if (x : Int) = 0 then 1 else 0 : Int) = 0 from if_neg hx]
  refine Rn.on (s' := mk (f + 14) [] 7 [x, 0, c]) (by kernel_rfl) ?_
  refine Rn.on (s' := mk (f + 13) [] 8 [x, 0, c]) (by kernel_rfl) ?_
  refine Rn.on (s' := mk (f + 12) [c] 9 [x, 0, c]) (by kernel_rfl) ?_
  refine Rn.on (s' := mk (f + 11) [c, 10] 10 [x, 0, c]) (by kernel_rfl) ?_
  refine Rn.on (s' := mk (f + 10) [wrap64 (c * 10)] 11 [x, 0, c]) (by kernel_rfl) ?_
  refine Rn.on (s' := mk (f + 9) [wrap64 (c * 10), x] 12 [x, 0, c]) (by kernel_rfl) ?_
  refine Rn.on (s' := mk (f + 8) [wrap64 (c * 10), x, 10] 13 [x, 0, c]) (by kernel_rfl) ?_
  refine Rn.on (s' := mk (f + 7) [wrap64 (c * 10), m] 14 [x, 0, c]) (step_rk (f + 7) [wrap64 (c * 10)] x 10 m 13 [x, 0, c] (List.replicate 64 0) [false] [] (by kernel_rfl) (by kernel_rfl) (by decide) rfl rfl (by decide) (HM)) ?_
  refine Rn.on (s' := mk (f + 6) [wrap64 ((wrap64 (c * 10)) + m)] 15 [x, 0, c]) (by kernel_rfl) ?_
  refine Rn.on (s' := mk (f + 5) [] 16 [x, 0, wrap64 ((wrap64 (c * 10)) + m)]) (by kernel_rfl) ?_
  refine Rn.on (s' := mk (f + 4) [x] 17 [x, 0, wrap64 ((wrap64 (c * 10)) + m)]) (by kernel_rfl) ?_
  refine Rn.on (s' := mk (f + 3) [x, 10] 18 [x, 0, wrap64 ((wrap64 (c * 10)) + m)]) (by kernel_rfl) ?_
  refine Rn.on (s' := mk (f + 2) [y] 19 [x, 0, wrap64 ((wrap64 (c * 10)) + m)]) (step_rk (f + 2) [] x 10 y 18 [x, 0, wrap64 ((wrap64 (c * 10)) + m)] (List.replicate 64 0) [false] [] (by kernel_rfl) (by kernel_rfl) (by decide) rfl rfl (by decide) (HD)) ?_
  refine Rn.on (s' := mk (f + 1) [] 20 [y, 0, wrap64 ((wrap64 (c * 10)) + m)]) (by kernel_rfl) ?_
  refine Rn.on (s' := mk f [] 2 [y, 0, wrap64 ((wrap64 (c * 10)) + m)]) (by kernel_rfl) ?_
  exact h
theorem dig_end {f : Nat} {c : Int} : Rn (oneF digC) [⟨2, digT, digG⟩] [] 8 (mk (f + 6) [] 2 [0, 0, c]) (0, ⟨f, [c], [], List.replicate 64 0, [false], []⟩) := by
  refine Rn.on (s' := mk (f + 5) [] 3 [0, 0, c]) (by kernel_rfl) ?_
  refine Rn.on (s' := mk (f + 4) [0] 4 [0, 0, c]) (by kernel_rfl) ?_
  refine Rn.on (s' := mk (f + 3) [if (0 : Int) = 0 then 1 else 0] 5 [0, 0, c]) (by kernel_rfl) ?_
  rw [show (if (0 : Int) = 0 then 1 else 0 : Int) = 1 from rfl]
  refine Rn.on (s' := mk (f + 2) [] 6 [0, 0, c]) (by kernel_rfl) ?_
  refine Rn.on (s' := mk (f + 1) [] 21 [0, 0, c]) (by kernel_rfl) ?_
  refine Rn.on (s' := mk f [c] 22 [0, 0, c]) (by kernel_rfl) ?_
  refine Rn.on (s' := ⟨f, [c], [], List.replicate 64 0, [false], []⟩) (by kernel_rfl) ?_
  exact Rn.stop (by kernel_rfl)
theorem dig_pre {f : Nat} {r : Int × EgV} {a b : Int} (h : Rn (oneF digC) [⟨2, digT, digG⟩] [] 8 (mk f [] 2 [a, b, 0]) r) : Rn (oneF digC) [⟨2, digT, digG⟩] [] 8 (mk (f + 2) [] 0 [a, b, 0]) r := by
  refine Rn.on (s' := mk (f + 1) [0] 1 [a, b]) (by kernel_rfl) ?_
  refine Rn.on (s' := mk f [] 2 [a, b, 0]) (by kernel_rfl) ?_
  exact h
def digN : Nat → Nat → Int → Int
  | 0, _, c => c
  | n + 1, x, c => if x = 0 then c else digN n (x / 10) (wrap64 (wrap64 (c * 10) + ((x % 10 : Nat) : Int)))
theorem digN_zero (n : Nat) (c : Int) : digN n 0 c = c := by cases n <;> simp [digN]
theorem digN_next {n x : Nat} (c : Int) (hx : x ≠ 0) : digN (n + 1) x c = digN n (x / 10) (wrap64 (wrap64 (c * 10) + ((x % 10 : Nat) : Int))) := by rw [digN, if_neg hx]
theorem dig_loop : ∀ (n x : Nat) (c : Int) (f : Nat), x < 10 ^ n → x ≤ 1099511627776 → 18 * n + 6 ≤ f → ∃ s', Rn (oneF digC) [⟨2, digT, digG⟩] [] 8 (mk f [] 2 [(x : Int), 0, c]) (0, s') ∧ s'.st.getLast? = some (digN n x c)
  | n, x, c, f, hx, hb, hf => by
    by_cases h0 : x = 0
    · subst h0
      obtain ⟨f, rfl⟩ : ∃ g, f = g + 6 := ⟨f - 6, by omega⟩
      exact ⟨_, dig_end, by rw [digN_zero]; rfl⟩
    · cases n with
      | zero => simp at hx; omega
      | succ n =>
        obtain ⟨f, rfl⟩ : ∃ g, f = g + 18 := ⟨f - 18, by omega⟩
        obtain ⟨s', hs, hl⟩ := dig_loop n (x / 10) (wrap64 (wrap64 (c * 10) + ((x % 10 : Nat) : Int))) f (by rw [Nat.pow_succ] at hx; omega) (by omega) (by omega)
        refine ⟨s', dig_rnd (by omega) ?_ ?_ hs, by rw [hl, digN_next c h0]⟩
        · rw [doR_rem _ (by decide), Int.tmod_eq_emod_of_nonneg (by omega)]; congr 1
        · rw [doR_quo _ (by decide) (by decide), show (x : Int).tdiv 10 = ((x / 10 : Nat) : Int) from by rw [Int.tdiv_eq_ediv_of_nonneg (by omega)]; omega, IntWalk.wrap64_in _ (by omega)]
theorem dig_run (k : Nat) (hk : k < 1099511627776) : EndsAs digC (k : Int) 0 (digN 13 k 0) 0 := by
  obtain ⟨s', hs, hl⟩ := dig_loop 13 k 0 99998 (by omega) (by omega) (by omega)
  exact ends_of dig_tok dig_nest dig_ok (by decide) (s' := s') (dig_pre hs) hl
end Go.Proofs.Ytnohfdojcdhfoaa
