/-
  Copied bytes: the run.
-/
import Derived.Test.YtnohfdojcdhfoaaZTopRun1
import Derived.Test.YtnohfdojcdhfoaaZTopRun2
import Derived.Test.YtnohfdojcdhfoaaZTopRun3
import Derived.Test.YtnohfdojcdhfoaaZTopRun4
import Derived.Test.YtnohfdojcdhfoaaZTopRun5
import Derived.Test.YtnohfdojcdhfoaaZTopRun6
import Derived.Test.YtnohfdojcdhfoaaZTopRun7
import Derived.Test.YtnohfdojcdhfoaaZTopRun8
import Derived.Test.YtnohfdojcdhfoaaZTopRun9
import Derived.Test.YtnohfdojcdhfoaaFrameZ
import Derived.Test.YtnohfdojcdhfoaaTopRunZ
import Derived.Test.YtnohfdojcdhfoaaTopAwakeZ
import Derived.Test.YtnohfdojcdhfoaaTopMaskZ
import Derived.Test.YtnohfdojcdhfoaaTopMemZ
import Derived.Test.YtnohfdojcdhfoaaTopSwapsPZ
import Derived.Test.YtnohfdojcdhfoaaTopTwoZ
namespace Go.Proofs.Ytnohfdojcdhfoaa
open Go.RowKit
def cpyC : ByteArray := ⟨#[48, 97, 36, 56, 98, 36, 48, 67, 91, 99, 32, 49, 54, 61, 63, 126, 59, 99, 32, 50, 48, 43, 99, 194, 169, 194, 174, 99, 32, 49, 43, 67, 93, 48, 68, 48, 67, 91, 99, 32, 49, 54, 61, 63, 126, 59, 100, 99, 32, 50, 48, 43, 194, 169, 43, 68, 99, 32, 49, 43, 67, 93, 100]⟩
def cpyT : List TkV := [⟨48, 0, 0⟩, ⟨97, 0, 0⟩, ⟨36, 0, 0⟩, ⟨48, 8, 0⟩, ⟨98, 0, 0⟩, ⟨36, 0, 0⟩, ⟨48, 0, 0⟩, ⟨67, 0, 0⟩, ⟨91, 0, 0⟩, ⟨99, 0, 0⟩, ⟨48, 16, 0⟩, ⟨61, 0, 0⟩, ⟨63, 0, 0⟩, ⟨126, 0, 0⟩, ⟨59, 0, 0⟩, ⟨99, 0, 0⟩, ⟨48, 20, 0⟩, ⟨43, 0, 0⟩, ⟨99, 0, 0⟩, ⟨169, 0, 0⟩, ⟨174, 0, 0⟩, ⟨99, 0, 0⟩, ⟨48, 1, 0⟩, ⟨43, 0, 0⟩, ⟨67, 0, 0⟩, ⟨93, 0, 0⟩, ⟨48, 0, 0⟩, ⟨68, 0, 0⟩, ⟨48, 0, 0⟩, ⟨67, 0, 0⟩, ⟨91, 0, 0⟩, ⟨99, 0, 0⟩, ⟨48, 16, 0⟩, ⟨61, 0, 0⟩, ⟨63, 0, 0⟩, ⟨126, 0, 0⟩, ⟨59, 0, 0⟩, ⟨100, 0, 0⟩, ⟨99, 0, 0⟩, ⟨48, 20, 0⟩, ⟨43, 0, 0⟩, ⟨169, 0, 0⟩, ⟨43, 0, 0⟩, ⟨68, 0, 0⟩, ⟨99, 0, 0⟩, ⟨48, 1, 0⟩, ⟨43, 0, 0⟩, ⟨67, 0, 0⟩, ⟨93, 0, 0⟩, ⟨100, 0, 0⟩]
def cpyG : List Int := [(-1), (-1), (-1), (-1), (-1), (-1), (-1), (-1), (-1), (-1), (-1), (-1), 14, 26, (-1), (-1), (-1), (-1), (-1), (-1), (-1), (-1), (-1), (-1), (-1), 8, (-1), (-1), (-1), (-1), (-1), (-1), (-1), (-1), 36, 49, (-1), (-1), (-1), (-1), (-1), (-1), (-1), (-1), (-1), (-1), (-1), (-1), 30, (-1)]
theorem cpy_tok : tokR cpyC = some cpyT := by kernel_rfl
theorem cpy_nest : (rNest (signs cpyT)).map (·.1) = some cpyG := by decide +kernel
theorem cpy_ok : (rFn (oneF cpyC) 0).1 = 0 := by decide +kernel
theorem cpy_one {f : Nat} {r : Int × EgV} {L : List UInt8} {V : List Bool} {a b c y v d : Int} {i j : Nat} (h : c ≠ 16) (HY : wrap64 (c + 20) = y) (hc : c = (i : Int)) (hi : i + 1 ≤ L.length) (HV : ldI L i 1 = v) (hy : y = (j : Int)) (hj : j + 1 ≤ L.length) (HD : wrap64 (c + 1) = d) (hK : Rn (oneF cpyC) [⟨2, cpyT, cpyG⟩] [] 8 (mkm f [] 8 [a, b, d, 0] (stL L j v 1) (stV V j 1) []) r) : Rn (oneF cpyC) [⟨2, cpyT, cpyG⟩] [] 8 (mkm (f + 17) [] 8 [a, b, c, 0] L V []) r := by
  refine Rn.on (s' := mkm (f + 16) [] 9 [a, b, c, 0] L V []) (by kernel_rfl) ?_
  refine Rn.on (s' := mkm (f + 15) [c] 10 [a, b, c, 0] L V []) (by kernel_rfl) ?_
  refine Rn.on (s' := mkm (f + 14) [c, 16] 11 [a, b, c, 0] L V []) (by kernel_rfl) ?_
  refine Rn.on (s' := mkm (f + 13) [if (c : Int) = 16 then 1 else 0] 12 [a, b, c, 0] L V []) (by kernel_rfl) ?_
  rw [show (if (c : Int) = 16 then 1 else 0 : Int) = 0 from if_neg h]
  refine Rn.on (s' := mkm (f + 12) [] 14 [a, b, c, 0] L V []) (by kernel_rfl) ?_
  refine Rn.on (s' := mkm (f + 11) [] 15 [a, b, c, 0] L V []) (by kernel_rfl) ?_
  refine Rn.on (s' := mkm (f + 10) [c] 16 [a, b, c, 0] L V []) (by kernel_rfl) ?_
  refine Rn.on (s' := mkm (f + 9) [c, 20] 17 [a, b, c, 0] L V []) (by kernel_rfl) ?_
  refine Rn.on (s' := mkm (f + 8) [wrap64 (c + 20)] 18 [a, b, c, 0] L V []) (by kernel_rfl) ?_
  rw [show (wrap64 (c + 20) : Int) = y from HY]
  refine Rn.on (s' := mkm (f + 7) [y, c] 19 [a, b, c, 0] L V []) (by kernel_rfl) ?_
  refine Rn.on (s' := mkm (f + 6) [y, v] 20 [a, b, c, 0] L V []) (step_ld (f + 6) [y] i c v 1 19 [a, b, c, 0] L V [] (by kernel_rfl) (by kernel_rfl) (by decide) rfl rfl (by decide) (hc) (hi) (HV)) ?_
  refine Rn.on (s' := mkm (f + 5) [] 21 [a, b, c, 0] (stL L j v 1) (stV V j 1) []) (step_sv (f + 5) [] j y v 1 20 [a, b, c, 0] L V [] (by kernel_rfl) (by kernel_rfl) (by decide) rfl rfl (by decide) (hy) (hj)) ?_
  refine Rn.on (s' := mkm (f + 4) [c] 22 [a, b, c, 0] (stL L j v 1) (stV V j 1) []) (by kernel_rfl) ?_
  refine Rn.on (s' := mkm (f + 3) [c, 1] 23 [a, b, c, 0] (stL L j v 1) (stV V j 1) []) (by kernel_rfl) ?_
  refine Rn.on (s' := mkm (f + 2) [wrap64 (c + 1)] 24 [a, b, c, 0] (stL L j v 1) (stV V j 1) []) (by kernel_rfl) ?_
  rw [show (wrap64 (c + 1) : Int) = d from HD]
  refine Rn.on (s' := mkm (f + 1) [] 25 [a, b, d, 0] (stL L j v 1) (stV V j 1) []) (by kernel_rfl) ?_
  refine Rn.on (s' := mkm f [] 8 [a, b, d, 0] (stL L j v 1) (stV V j 1) []) (by kernel_rfl) ?_
  exact hK
theorem cpy_mid {f : Nat} {r : Int × EgV} {L : List UInt8} {V : List Bool} {a b : Int} (hK : Rn (oneF cpyC) [⟨2, cpyT, cpyG⟩] [] 8 (mkm f [] 30 [a, b, 0, 0] L V []) r) : Rn (oneF cpyC) [⟨2, cpyT, cpyG⟩] [] 8 (mkm (f + 10) [] 8 [a, b, 16, 0] L V []) r := by
  refine Rn.on (s' := mkm (f + 9) [] 9 [a, b, 16, 0] L V []) (by kernel_rfl) ?_
  refine Rn.on (s' := mkm (f + 8) [16] 10 [a, b, 16, 0] L V []) (by kernel_rfl) ?_
  refine Rn.on (s' := mkm (f + 7) [16, 16] 11 [a, b, 16, 0] L V []) (by kernel_rfl) ?_
  refine Rn.on (s' := mkm (f + 6) [if (16 : Int) = 16 then 1 else 0] 12 [a, b, 16, 0] L V []) (by kernel_rfl) ?_
  rw [show (if (16 : Int) = 16 then 1 else 0 : Int) = 1 from rfl]
  refine Rn.on (s' := mkm (f + 5) [] 13 [a, b, 16, 0] L V []) (by kernel_rfl) ?_
  refine Rn.on (s' := mkm (f + 4) [] 26 [a, b, 16, 0] L V []) (by kernel_rfl) ?_
  refine Rn.on (s' := mkm (f + 3) [0] 27 [a, b, 16, 0] L V []) (by kernel_rfl) ?_
  refine Rn.on (s' := mkm (f + 2) [] 28 [a, b, 16, 0] L V []) (by kernel_rfl) ?_
  refine Rn.on (s' := mkm (f + 1) [0] 29 [a, b, 16, 0] L V []) (by kernel_rfl) ?_
  refine Rn.on (s' := mkm f [] 30 [a, b, 0, 0] L V []) (by kernel_rfl) ?_
  exact hK
theorem cpy_two {f : Nat} {r : Int × EgV} {L : List UInt8} {V : List Bool} {a b c y v d e g : Int} {j : Nat} (h : c ≠ 16) (HY : wrap64 (c + 20) = y) (hy : y = (j : Int)) (hj : j + 1 ≤ L.length) (HV : ldI L j 1 = v) (HE : wrap64 (d + v) = e) (HD : wrap64 (c + 1) = g) (hK : Rn (oneF cpyC) [⟨2, cpyT, cpyG⟩] [] 8 (mkm f [] 30 [a, b, g, e] L V []) r) : Rn (oneF cpyC) [⟨2, cpyT, cpyG⟩] [] 8 (mkm (f + 18) [] 30 [a, b, c, d] L V []) r := by
  refine Rn.on (s' := mkm (f + 17) [] 31 [a, b, c, d] L V []) (by kernel_rfl) ?_
  refine Rn.on (s' := mkm (f + 16) [c] 32 [a, b, c, d] L V []) (by kernel_rfl) ?_
  refine Rn.on (s' := mkm (f + 15) [c, 16] 33 [a, b, c, d] L V []) (by kernel_rfl) ?_
  refine Rn.on (s' := mkm (f + 14) [if (c : Int) = 16 then 1 else 0] 34 [a, b, c, d] L V []) (by kernel_rfl) ?_
  rw [show (if (c : Int) = 16 then 1 else 0 : Int) = 0 from if_neg h]
  refine Rn.on (s' := mkm (f + 13) [] 36 [a, b, c, d] L V []) (by kernel_rfl) ?_
  refine Rn.on (s' := mkm (f + 12) [] 37 [a, b, c, d] L V []) (by kernel_rfl) ?_
  refine Rn.on (s' := mkm (f + 11) [d] 38 [a, b, c, d] L V []) (by kernel_rfl) ?_
  refine Rn.on (s' := mkm (f + 10) [d, c] 39 [a, b, c, d] L V []) (by kernel_rfl) ?_
  refine Rn.on (s' := mkm (f + 9) [d, c, 20] 40 [a, b, c, d] L V []) (by kernel_rfl) ?_
  refine Rn.on (s' := mkm (f + 8) [d, wrap64 (c + 20)] 41 [a, b, c, d] L V []) (by kernel_rfl) ?_
  rw [show (wrap64 (c + 20) : Int) = y from HY]
  refine Rn.on (s' := mkm (f + 7) [d, v] 42 [a, b, c, d] L V []) (step_ld (f + 7) [d] j y v 1 41 [a, b, c, d] L V [] (by kernel_rfl) (by kernel_rfl) (by decide) rfl rfl (by decide) (hy) (hj) (HV)) ?_
  refine Rn.on (s' := mkm (f + 6) [wrap64 (d + v)] 43 [a, b, c, d] L V []) (by kernel_rfl) ?_
  rw [show (wrap64 (d + v) : Int) = e from HE]
  refine Rn.on (s' := mkm (f + 5) [] 44 [a, b, c, e] L V []) (by kernel_rfl) ?_
  refine Rn.on (s' := mkm (f + 4) [c] 45 [a, b, c, e] L V []) (by kernel_rfl) ?_
  refine Rn.on (s' := mkm (f + 3) [c, 1] 46 [a, b, c, e] L V []) (by kernel_rfl) ?_
  refine Rn.on (s' := mkm (f + 2) [wrap64 (c + 1)] 47 [a, b, c, e] L V []) (by kernel_rfl) ?_
  rw [show (wrap64 (c + 1) : Int) = g from HD]
  refine Rn.on (s' := mkm (f + 1) [] 48 [a, b, g, e] L V []) (by kernel_rfl) ?_
  refine Rn.on (s' := mkm f [] 30 [a, b, g, e] L V []) (by kernel_rfl) ?_
  exact hK
theorem cpy_end {f : Nat} {L : List UInt8} {V : List Bool} {a b d : Int} : Rn (oneF cpyC) [⟨2, cpyT, cpyG⟩] [] 8 (mkm (f + 7) [] 30 [a, b, 16, d] L V []) (0, ⟨f, [d], [], L, V, []⟩) := by
  refine Rn.on (s' := mkm (f + 6) [] 31 [a, b, 16, d] L V []) (by kernel_rfl) ?_
  refine Rn.on (s' := mkm (f + 5) [16] 32 [a, b, 16, d] L V []) (by kernel_rfl) ?_
  refine Rn.on (s' := mkm (f + 4) [16, 16] 33 [a, b, 16, d] L V []) (by kernel_rfl) ?_
  refine Rn.on (s' := mkm (f + 3) [if (16 : Int) = 16 then 1 else 0] 34 [a, b, 16, d] L V []) (by kernel_rfl) ?_
  rw [show (if (16 : Int) = 16 then 1 else 0 : Int) = 1 from rfl]
  refine Rn.on (s' := mkm (f + 2) [] 35 [a, b, 16, d] L V []) (by kernel_rfl) ?_
  refine Rn.on (s' := mkm (f + 1) [] 49 [a, b, 16, d] L V []) (by kernel_rfl) ?_
  refine Rn.on (s' := mkm f [d] 50 [a, b, 16, d] L V []) (by kernel_rfl) ?_
  refine Rn.on (s' := ⟨f, [d], [], L, V, []⟩) (by kernel_rfl) ?_
  exact Rn.stop (by kernel_rfl)
theorem cpy_pre {f : Nat} {r : Int × EgV} {a b : Int} (h : Rn (oneF cpyC) [⟨2, cpyT, cpyG⟩] [] 8 (mkm f [] 8 [a, b, 0, 0] (stL (stL (List.replicate 64 0) 0 a 8) 8 b 8) (stV (stV ([false]) 0 8) 8 8) []) r) : Rn (oneF cpyC) [⟨2, cpyT, cpyG⟩] [] 8 (mkm (f + 8) [] 0 [a, b] (List.replicate 64 0) [false] []) r := by
  refine Rn.on (s' := mkm (f + 7) [0] 1 [a, b] ((List.replicate 64 0)) ([false]) []) (by kernel_rfl) ?_
  refine Rn.on (s' := mkm (f + 6) [0, a] 2 [a, b] ((List.replicate 64 0)) ([false]) []) (by kernel_rfl) ?_
  refine Rn.on (s' := mkm (f + 5) [] 3 [a, b] (stL ((List.replicate 64 0)) 0 a 8) (stV ([false]) 0 8) []) (step_sv (f + 5) [] 0 0 a 8 2 [a, b] ((List.replicate 64 0)) ([false]) [] (by kernel_rfl) (by kernel_rfl) (by decide) rfl rfl (by decide) (rfl) (by decide)) ?_
  refine Rn.on (s' := mkm (f + 4) [8] 4 [a, b] (stL ((List.replicate 64 0)) 0 a 8) (stV ([false]) 0 8) []) (by kernel_rfl) ?_
  refine Rn.on (s' := mkm (f + 3) [8, b] 5 [a, b] (stL ((List.replicate 64 0)) 0 a 8) (stV ([false]) 0 8) []) (by kernel_rfl) ?_
  refine Rn.on (s' := mkm (f + 2) [] 6 [a, b] (stL (stL ((List.replicate 64 0)) 0 a 8) 8 b 8) (stV (stV ([false]) 0 8) 8 8) []) (step_sv (f + 2) [] 8 8 b 8 5 [a, b] (stL ((List.replicate 64 0)) 0 a 8) (stV ([false]) 0 8) [] (by kernel_rfl) (by kernel_rfl) (by decide) rfl rfl (by decide) (rfl) (by rw [stL_len]; decide)) ?_
  refine Rn.on (s' := mkm (f + 1) [0] 7 [a, b] (stL (stL ((List.replicate 64 0)) 0 a 8) 8 b 8) (stV (stV ([false]) 0 8) 8 8) []) (by kernel_rfl) ?_
  refine Rn.on (s' := mkm f [] 8 [a, b, 0] (stL (stL ((List.replicate 64 0)) 0 a 8) 8 b 8) (stV (stV ([false]) 0 8) 8 8) []) (by kernel_rfl) ?_
  exact h
def bbI (a b : Int) (k : Nat) : Int := ((bb a b k).toNat : Int)
theorem cpy_two_loop {a b : Int} {L : List UInt8} {V : List Bool} (hL : L.length = 64) (hb : ∀ k, k < 16 → L[20 + k]? = some (bb a b k)) : ∀ (n i f : Nat), i + n = 16 → 18 * n + 7 ≤ f → ∃ s', Rn (oneF cpyC) [⟨2, cpyT, cpyG⟩] [] 8 (mkm f [] 30 [a, b, (i : Int), sumF (bbI a b) i] L V []) (0, s') ∧ s'.st.getLast? = some (sumF (bbI a b) 16)
  | 0, i, f, hi, hf => by
    obtain rfl : i = 16 := by omega
    obtain ⟨f, rfl⟩ : ∃ g, f = g + 7 := ⟨f - 7, by omega⟩
    exact ⟨_, cpy_end, rfl⟩
  | n + 1, i, f, hi, hf => by
    obtain ⟨f, rfl⟩ : ∃ g, f = g + 18 := ⟨f - 18, by omega⟩
    obtain ⟨s', hs, hl⟩ := cpy_two_loop hL hb n (i + 1) f (by omega) (by omega)
    have hsum := sumF_le (g := bbI a b) (bb_le a b) i
    have hbi : 0 ≤ bbI a b i ∧ bbI a b i ≤ 255 := bb_le a b i
    refine ⟨s', cpy_two (y := ((20 + i : Nat) : Int)) (j := 20 + i) (v := bbI a b i) (by omega) (by rw [IntWalk.wrap64_in _ (by omega)]; omega) rfl (by omega) (ldI_one _ _ _ (hb i (by omega))) ?_ (by rw [IntWalk.wrap64_in _ (by omega)]; rfl) hs, hl⟩
    exact IntWalk.wrap64_in (sumF (bbI a b) i + bbI a b i) (by omega)
theorem cpy_one_loop {a b : Int} : ∀ (n i f : Nat) (L : List UInt8) (V : List Bool), Has a b L → (∀ k, k < i → L[20 + k]? = some (bb a b k)) → i + n = 16 → 17 * n + 10 + 18 * 16 + 7 ≤ f → ∃ s', Rn (oneF cpyC) [⟨2, cpyT, cpyG⟩] [] 8 (mkm f [] 8 [a, b, (i : Int), 0] L V []) (0, s') ∧ s'.st.getLast? = some (sumF (bbI a b) 16)
  | 0, i, f, L, V, hL, hb, hi, hf => by
    obtain rfl : i = 16 := by omega
    obtain ⟨f, rfl⟩ : ∃ g, f = g + 10 := ⟨f - 10, by omega⟩
    obtain ⟨s', hs, hl⟩ := cpy_two_loop (V := V) hL.len hb 16 0 f (by omega) (by omega)
    exact ⟨s', cpy_mid hs, hl⟩
  | n + 1, i, f, L, V, hL, hb, hi, hf => by
    obtain ⟨f, rfl⟩ : ∃ g, f = g + 17 := ⟨f - 17, by omega⟩
    have hlen := hL.len
    obtain ⟨s', hs, hl⟩ := cpy_one_loop n (i + 1) f (stL L (20 + i) (bbI a b i) 1) (stV V (20 + i) 1) (hL.put (by omega) _) (fun k hk => by
      by_cases h : k = i
      · subst h; exact put_at (by omega) _
      · rw [stL_out _ _ _ _ _ (by omega)]; exact hb k (by omega)) (by omega) (by omega)
    exact ⟨s', cpy_one (y := ((20 + i : Nat) : Int)) (i := i) (j := 20 + i) (v := bbI a b i) (by omega) (by rw [IntWalk.wrap64_in _ (by omega)]; omega) rfl (by omega) (ldI_one _ _ _ (hL.two i (by omega))) rfl (by omega) (by rw [IntWalk.wrap64_in _ (by omega)]; rfl) hs, hl⟩
theorem cpy_run (a b : Int) : EndsAs cpyC a b (sumF (bbI a b) 16) 0 := by
  obtain ⟨s', hs, hl⟩ := cpy_one_loop 16 0 99992 _ (stV (stV ([false]) 0 8) 8 8) (has_first a b) (fun k hk => by omega) (by omega) (by omega)
  exact ends_of cpy_tok cpy_nest cpy_ok (by decide) (s' := s') (cpy_pre hs) hl
theorem cpy_sum (a b : Int) : sumF (bbI a b) 16 = sumF (fun k => ((byteN a k).toNat : Int) + ((byteN b k).toNat : Int)) 8 := by
  simp only [sumF, bbI, bb, Nat.reduceLT, if_true, if_false, Nat.reduceSub]
  omega
end Go.Proofs.Ytnohfdojcdhfoaa
