/-
  Mixed bytes: the run.
-/
import Derived.Test.YtnohfdojcdhfoaaZTopRun1
import Derived.Test.YtnohfdojcdhfoaaZTopRun2
import Derived.Test.YtnohfdojcdhfoaaZTopRun3
import Derived.Test.YtnohfdojcdhfoaaZTopRun4
import Derived.Test.YtnohfdojcdhfoaaZTopRun5
import Derived.Test.YtnohfdojcdhfoaaZTopRun6
import Derived.Test.YtnohfdojcdhfoaaZTopRun7
import Derived.Test.YtnohfdojcdhfoaaZTopRun8
import Derived.Test.YtnohfdojcdhfoaaZTopRun9
import Derived.Test.YtnohfdojcdhfoaaFrameZ
import Derived.Test.YtnohfdojcdhfoaaTopRunZ
import Derived.Test.YtnohfdojcdhfoaaTopAwakeZ
import Derived.Test.YtnohfdojcdhfoaaTopMaskZ
import Derived.Test.YtnohfdojcdhfoaaTopMemZ
import Derived.Test.YtnohfdojcdhfoaaTopSwapsPZ
import Derived.Test.YtnohfdojcdhfoaaTopTwoZ
namespace Go.Proofs.Ytnohfdojcdhfoaa
open Go.RowKit
def bytC : ByteArray := ⟨#[48, 97, 36, 56, 98, 36, 48, 67, 91, 99, 32, 56, 61, 63, 126, 59, 99, 32, 49, 54, 43, 99, 32, 49, 38, 63, 99, 32, 56, 43, 58, 99, 59, 194, 169, 194, 174, 99, 32, 49, 43, 67, 93, 49, 54, 64]⟩
def bytT : List TkV := [⟨48, 0, 0⟩, ⟨97, 0, 0⟩, ⟨36, 0, 0⟩, ⟨48, 8, 0⟩, ⟨98, 0, 0⟩, ⟨36, 0, 0⟩, ⟨48, 0, 0⟩, ⟨67, 0, 0⟩, ⟨91, 0, 0⟩, ⟨99, 0, 0⟩, ⟨48, 8, 0⟩, ⟨61, 0, 0⟩, ⟨63, 0, 0⟩, ⟨126, 0, 0⟩, ⟨59, 0, 0⟩, ⟨99, 0, 0⟩, ⟨48, 16, 0⟩, ⟨43, 0, 0⟩, ⟨99, 0, 0⟩, ⟨48, 1, 0⟩, ⟨38, 0, 0⟩, ⟨63, 0, 0⟩, ⟨99, 0, 0⟩, ⟨48, 8, 0⟩, ⟨43, 0, 0⟩, ⟨58, 0, 0⟩, ⟨99, 0, 0⟩, ⟨59, 0, 0⟩, ⟨169, 0, 0⟩, ⟨174, 0, 0⟩, ⟨99, 0, 0⟩, ⟨48, 1, 0⟩, ⟨43, 0, 0⟩, ⟨67, 0, 0⟩, ⟨93, 0, 0⟩, ⟨48, 16, 0⟩, ⟨64, 0, 0⟩]
def bytG : List Int := [(-1), (-1), (-1), (-1), (-1), (-1), (-1), (-1), (-1), (-1), (-1), (-1), 14, 35, (-1), (-1), (-1), (-1), (-1), (-1), (-1), 26, (-1), (-1), (-1), 27, (-1), (-1), (-1), (-1), (-1), (-1), (-1), (-1), 8, (-1), (-1)]
theorem byt_tok : tokR bytC = some bytT := by kernel_rfl
theorem byt_nest : (rNest (signs bytT)).map (·.1) = some bytG := by decide +kernel
theorem byt_ok : (rFn (oneF bytC) 0).1 = 0 := by decide +kernel
theorem byt_even {f : Nat} {r : Int × EgV} {L : List UInt8} {V : List Bool} {a b c y v d : Int} {i j : Nat} (h : c ≠ 8) (HY : wrap64 (c + 16) = y) (HB : bits .and .i64 c 1 = 0) (hc : c = (i : Int)) (hi : i + 1 ≤ L.length) (HV : ldI L i 1 = v) (hy : y = (j : Int)) (hj : j + 1 ≤ L.length) (HD : wrap64 (c + 1) = d) (hK : Rn (oneF bytC) [⟨2, bytT, bytG⟩] [] 8 (mkm f [] 8 [a, b, d] (stL L j v 1) (stV V j 1) []) r) : Rn (oneF bytC) [⟨2, bytT, bytG⟩] [] 8 (mkm (f + 22) [] 8 [a, b, c] L V []) r := by
  refine Rn.on (s' := mkm (f + 21) [] 9 [a, b, c] L V []) (by kernel_rfl) ?_
  refine Rn.on (s' := mkm (f + 20) [c] 10 [a, b, c] L V []) (by kernel_rfl) ?_
  refine Rn.on (s' := mkm (f + 19) [c, 8] 11 [a, b, c] L V []) (by kernel_rfl) ?_
  refine Rn.on (s' := mkm (f + 18) [if (c : Int) = 8 then 1 else 0] 12 [a, b, c] L V []) (by kernel_rfl) ?_
  rw [show (if (c : Int) = 8 then 1 else 0 : Int) = 0 from if_neg h]
  refine Rn.on (s' := mkm (f + 17) [] 14 [a, b, c] L V []) (by kernel_rfl) ?_
  refine Rn.on (s' := mkm (f + 16) [] 15 [a, b, c] L V []) (by kernel_rfl) ?_
  refine Rn.on (s' := mkm (f + 15) [c] 16 [a, b, c] L V []) (by kernel_rfl) ?_
  refine Rn.on (s' := mkm (f + 14) [c, 16] 17 [a, b, c] L V []) (by kernel_rfl) ?_
  refine Rn.on (s' := mkm (f + 13) [wrap64 (c + 16)] 18 [a, b, c] L V []) (by kernel_rfl) ?_
  rw [show (wrap64 (c + 16) : Int) = y from HY]
  refine Rn.on (s' := mkm (f + 12) [y, c] 19 [a, b, c] L V []) (by kernel_rfl) ?_
  refine Rn.on (s' := mkm (f + 11) [y, c, 1] 20 [a, b, c] L V []) (by kernel_rfl) ?_
  refine Rn.on (s' := mkm (f + 10) [y, bits .and .i64 (c) (1)] 21 [a, b, c] L V []) (by kernel_rfl) ?_
  rw [show (bits .and .i64 (c) (1) : Int) = 0 from HB]
  refine Rn.on (s' := mkm (f + 9) [y] 26 [a, b, c] L V []) (by kernel_rfl) ?_
  refine Rn.on (s' := mkm (f + 8) [y, c] 27 [a, b, c] L V []) (by kernel_rfl) ?_
  refine Rn.on (s' := mkm (f + 7) [y, c] 28 [a, b, c] L V []) (by kernel_rfl) ?_
  refine Rn.on (s' := mkm (f + 6) [y, v] 29 [a, b, c] L V []) (step_ld (f + 6) [y] i c v 1 28 [a, b, c] L V [] (by kernel_rfl) (by kernel_rfl) (by decide) rfl rfl (by decide) (hc) (hi) (HV)) ?_
  refine Rn.on (s' := mkm (f + 5) [] 30 [a, b, c] (stL L j v 1) (stV V j 1) []) (step_sv (f + 5) [] j y v 1 29 [a, b, c] L V [] (by kernel_rfl) (by kernel_rfl) (by decide) rfl rfl (by decide) (hy) (hj)) ?_
  refine Rn.on (s' := mkm (f + 4) [c] 31 [a, b, c] (stL L j v 1) (stV V j 1) []) (by kernel_rfl) ?_
  refine Rn.on (s' := mkm (f + 3) [c, 1] 32 [a, b, c] (stL L j v 1) (stV V j 1) []) (by kernel_rfl) ?_
  refine Rn.on (s' := mkm (f + 2) [wrap64 (c + 1)] 33 [a, b, c] (stL L j v 1) (stV V j 1) []) (by kernel_rfl) ?_
  rw [show (wrap64 (c + 1) : Int) = d from HD]
  refine Rn.on (s' := mkm (f + 1) [] 34 [a, b, d] (stL L j v 1) (stV V j 1) []) (by kernel_rfl) ?_
  refine Rn.on (s' := mkm f [] 8 [a, b, d] (stL L j v 1) (stV V j 1) []) (by kernel_rfl) ?_
  exact hK
theorem byt_odd {f : Nat} {r : Int × EgV} {L : List UInt8} {V : List Bool} {a b c y v d z : Int} {i j : Nat} (h : c ≠ 8) (HY : wrap64 (c + 16) = y) (HB : bits .and .i64 c 1 = 1) (HZ : wrap64 (c + 8) = z) (hc : z = (i : Int)) (hi : i + 1 ≤ L.length) (HV : ldI L i 1 = v) (hy : y = (j : Int)) (hj : j + 1 ≤ L.length) (HD : wrap64 (c + 1) = d) (hK : Rn (oneF bytC) [⟨2, bytT, bytG⟩] [] 8 (mkm f [] 8 [a, b, d] (stL L j v 1) (stV V j 1) []) r) : Rn (oneF bytC) [⟨2, bytT, bytG⟩] [] 8 (mkm (f + 25) [] 8 [a, b, c] L V []) r := by
  refine Rn.on (s' := mkm (f + 24) [] 9 [a, b, c] L V []) (by kernel_rfl) ?_
  refine Rn.on (s' := mkm (f + 23) [c] 10 [a, b, c] L V []) (by kernel_rfl) ?_
  refine Rn.on (s' := mkm (f + 22) [c, 8] 11 [a, b, c] L V []) (by kernel_rfl) ?_
  refine Rn.on (s' := mkm (f + 21) [if (c : Int) = 8 then 1 else 0] 12 [a, b, c] L V []) (by kernel_rfl) ?_
  rw [show (if (c : Int) = 8 then 1 else 0 : Int) = 0 from if_neg h]
  refine Rn.on (s' := mkm (f + 20) [] 14 [a, b, c] L V []) (by kernel_rfl) ?_
  refine Rn.on (s' := mkm (f + 19) [] 15 [a, b, c] L V []) (by kernel_rfl) ?_
  refine Rn.on (s' := mkm (f + 18) [c] 16 [a, b, c] L V []) (by kernel_rfl) ?_
  refine Rn.on (s' := mkm (f + 17) [c, 16] 17 [a, b, c] L V []) (by kernel_rfl) ?_
  refine Rn.on (s' := mkm (f + 16) [wrap64 (c + 16)] 18 [a, b, c] L V []) (by kernel_rfl) ?_
  rw [show (wrap64 (c + 16) : Int) = y from HY]
  refine Rn.on (s' := mkm (f + 15) [y, c] 19 [a, b, c] L V []) (by kernel_rfl) ?_
  refine Rn.on (s' := mkm (f + 14) [y, c, 1] 20 [a, b, c] L V []) (by kernel_rfl) ?_
  refine Rn.on (s' := mkm (f + 13) [y, bits .and .i64 (c) (1)] 21 [a, b, c] L V []) (by kernel_rfl) ?_
  rw [show (bits .and .i64 (c) (1) : Int) = 1 from HB]
  refine Rn.on (s' := mkm (f + 12) [y] 22 [a, b, c] L V []) (by kernel_rfl) ?_
  refine Rn.on (s' := mkm (f + 11) [y, c] 23 [a, b, c] L V []) (by kernel_rfl) ?_
  refine Rn.on (s' := mkm (f + 10) [y, c, 8] 24 [a, b, c] L V []) (by kernel_rfl) ?_
  refine Rn.on (s' := mkm (f + 9) [y, wrap64 (c + 8)] 25 [a, b, c] L V []) (by kernel_rfl) ?_
  rw [show (wrap64 (c + 8) : Int) = z from HZ]
  refine Rn.on (s' := mkm (f + 8) [y, z] 27 [a, b, c] L V []) (by kernel_rfl) ?_
  refine Rn.on (s' := mkm (f + 7) [y, z] 28 [a, b, c] L V []) (by kernel_rfl) ?_
  refine Rn.on (s' := mkm (f + 6) [y, v] 29 [a, b, c] L V []) (step_ld (f + 6) [y] i z v 1 28 [a, b, c] L V [] (by kernel_rfl) (by kernel_rfl) (by decide) rfl rfl (by decide) (hc) (hi) (HV)) ?_
  refine Rn.on (s' := mkm (f + 5) [] 30 [a, b, c] (stL L j v 1) (stV V j 1) []) (step_sv (f + 5) [] j y v 1 29 [a, b, c] L V [] (by kernel_rfl) (by kernel_rfl) (by decide) rfl rfl (by decide) (hy) (hj)) ?_
  refine Rn.on (s' := mkm (f + 4) [c] 31 [a, b, c] (stL L j v 1) (stV V j 1) []) (by kernel_rfl) ?_
  refine Rn.on (s' := mkm (f + 3) [c, 1] 32 [a, b, c] (stL L j v 1) (stV V j 1) []) (by kernel_rfl) ?_
  refine Rn.on (s' := mkm (f + 2) [wrap64 (c + 1)] 33 [a, b, c] (stL L j v 1) (stV V j 1) []) (by kernel_rfl) ?_
  rw [show (wrap64 (c + 1) : Int) = d from HD]
  refine Rn.on (s' := mkm (f + 1) [] 34 [a, b, d] (stL L j v 1) (stV V j 1) []) (by kernel_rfl) ?_
  refine Rn.on (s' := mkm f [] 8 [a, b, d] (stL L j v 1) (stV V j 1) []) (by kernel_rfl) ?_
  exact hK
theorem byt_end {f : Nat} {L : List UInt8} {V : List Bool} {a b v : Int} (hi : 16 + 8 ≤ L.length) (HV : ldI L 16 8 = v) : Rn (oneF bytC) [⟨2, bytT, bytG⟩] [] 8 (mkm (f + 8) [] 8 [a, b, 8] L V []) (0, ⟨f, [v], [], L, V, []⟩) := by
  refine Rn.on (s' := mkm (f + 7) [] 9 [a, b, 8] L V []) (by kernel_rfl) ?_
  refine Rn.on (s' := mkm (f + 6) [8] 10 [a, b, 8] L V []) (by kernel_rfl) ?_
  refine Rn.on (s' := mkm (f + 5) [8, 8] 11 [a, b, 8] L V []) (by kernel_rfl) ?_
  refine Rn.on (s' := mkm (f + 4) [if (8 : Int) = 8 then 1 else 0] 12 [a, b, 8] L V []) (by kernel_rfl) ?_
  rw [show (if (8 : Int) = 8 then 1 else 0 : Int) = 1 from rfl]
  refine Rn.on (s' := mkm (f + 3) [] 13 [a, b, 8] L V []) (by kernel_rfl) ?_
  refine Rn.on (s' := mkm (f + 2) [] 35 [a, b, 8] L V []) (by kernel_rfl) ?_
  refine Rn.on (s' := mkm (f + 1) [16] 36 [a, b, 8] L V []) (by kernel_rfl) ?_
  refine Rn.on (s' := mkm f [v] 37 [a, b, 8] L V []) (step_ld f [] 16 16 v 8 36 [a, b, 8] L V [] (by kernel_rfl) (by kernel_rfl) (by decide) rfl rfl (by decide) (rfl) (hi) (HV)) ?_
  refine Rn.on (s' := ⟨f, [v], [], L, V, []⟩) (by kernel_rfl) ?_
  exact Rn.stop (by kernel_rfl)
theorem byt_pre {f : Nat} {r : Int × EgV} {a b : Int} (h : Rn (oneF bytC) [⟨2, bytT, bytG⟩] [] 8 (mkm f [] 8 [a, b, 0] (stL (stL (List.replicate 64 0) 0 a 8) 8 b 8) (stV (stV ([false]) 0 8) 8 8) []) r) : Rn (oneF bytC) [⟨2, bytT, bytG⟩] [] 8 (mkm (f + 8) [] 0 [a, b] (List.replicate 64 0) [false] []) r := by
  refine Rn.on (s' := mkm (f + 7) [0] 1 [a, b] ((List.replicate 64 0)) ([false]) []) (by kernel_rfl) ?_
  refine Rn.on (s' := mkm (f + 6) [0, a] 2 [a, b] ((List.replicate 64 0)) ([false]) []) (by kernel_rfl) ?_
  refine Rn.on (s' := mkm (f + 5) [] 3 [a, b] (stL ((List.replicate 64 0)) 0 a 8) (stV ([false]) 0 8) []) (step_sv (f + 5) [] 0 0 a 8 2 [a, b] ((List.replicate 64 0)) ([false]) [] (by kernel_rfl) (by kernel_rfl) (by decide) rfl rfl (by decide) (rfl) (by decide)) ?_
  refine Rn.on (s' := mkm (f + 4) [8] 4 [a, b] (stL ((List.replicate 64 0)) 0 a 8) (stV ([false]) 0 8) []) (by kernel_rfl) ?_
  refine Rn.on (s' := mkm (f + 3) [8, b] 5 [a, b] (stL ((List.replicate 64 0)) 0 a 8) (stV ([false]) 0 8) []) (by kernel_rfl) ?_
  refine Rn.on (s' := mkm (f + 2) [] 6 [a, b] (stL (stL ((List.replicate 64 0)) 0 a 8) 8 b 8) (stV (stV ([false]) 0 8) 8 8) []) (step_sv (f + 2) [] 8 8 b 8 5 [a, b] (stL ((List.replicate 64 0)) 0 a 8) (stV ([false]) 0 8) [] (by kernel_rfl) (by kernel_rfl) (by decide) rfl rfl (by decide) (rfl) (by rw [stL_len]; decide)) ?_
  refine Rn.on (s' := mkm (f + 1) [0] 7 [a, b] (stL (stL ((List.replicate 64 0)) 0 a 8) 8 b 8) (stV (stV ([false]) 0 8) 8 8) []) (by kernel_rfl) ?_
  refine Rn.on (s' := mkm f [] 8 [a, b, 0] (stL (stL ((List.replicate 64 0)) 0 a 8) 8 b 8) (stV (stV ([false]) 0 8) 8 8) []) (by kernel_rfl) ?_
  exact h
/-- The byte that is taken: of the first number at even places, of the second one at odd ones. -/
def mm8 (a b : Int) (k : Nat) : UInt8 := if k % 2 = 1 then byteN b k else byteN a k
def natB (g : Nat → Nat) : Nat → Nat
  | 0 => 0
  | n + 1 => natB g n + 2 ^ (8 * n) * g n
def bytN (a b : Int) : Nat := natB (fun k => (mm8 a b k).toNat) 8
theorem byt_loop {a b : Int} : ∀ (n i f : Nat) (L : List UInt8) (V : List Bool), Has a b L → (∀ k, k < i → L[16 + k]? = some (mm8 a b k)) → i + n = 8 → 25 * n + 8 ≤ f → ∃ s', Rn (oneF bytC) [⟨2, bytT, bytG⟩] [] 8 (mkm f [] 8 [a, b, (i : Int)] L V []) (0, s') ∧ s'.st.getLast? = some (IntKind.i64.wrap (bytN a b : Nat))
  | 0, i, f, L, V, hL, hb, hi, hf => by
    obtain rfl : i = 8 := by omega
    obtain ⟨f, rfl⟩ : ∃ g, f = g + 8 := ⟨f - 8, by omega⟩
    have hlen := hL.len
    have hld : ldI L 16 8 = IntKind.i64.wrap (bytN a b : Nat) := by
      have h8 := take8 L 16 _ _ _ _ _ _ _ _ (hb 0 (by omega)) (hb 1 (by omega)) (hb 2 (by omega)) (hb 3 (by omega)) (hb 4 (by omega)) (hb 5 (by omega)) (hb 6 (by omega)) (hb 7 (by omega))
      have e : ldN ((L.drop 16).take 8) = bytN a b := by
        rw [h8]
        simp only [bytN, natB, ldN, Nat.mul_zero, Nat.pow_zero, Nat.reduceMul, Nat.reducePow]
        generalize (mm8 a b 0).toNat = b0
        generalize (mm8 a b 1).toNat = b1
        generalize (mm8 a b 2).toNat = b2
        generalize (mm8 a b 3).toNat = b3
        generalize (mm8 a b 4).toNat = b4
        generalize (mm8 a b 5).toNat = b5
        generalize (mm8 a b 6).toNat = b6
        generalize (mm8 a b 7).toNat = b7
        omega
      unfold ldI
      rw [e]
    exact ⟨_, byt_end (by omega) hld, rfl⟩
  | n + 1, i, f, L, V, hL, hb, hi, hf => by
    have hlen := hL.len
    have hm := tmask_1 (i : Int)
    have nxt : ∀ (f : Nat) (V : List Bool), 25 * n + 8 ≤ f → ∃ s', Rn (oneF bytC) [⟨2, bytT, bytG⟩] [] 8 (mkm f [] 8 [a, b, ((i + 1 : Nat) : Int)] (stL L (16 + i) ((mm8 a b i).toNat : Int) 1) V []) (0, s') ∧ s'.st.getLast? = some (IntKind.i64.wrap (bytN a b : Nat)) := fun f V hf =>
      byt_loop n (i + 1) f _ V (hL.put (by omega) _) (fun k hk => by
        by_cases h : k = i
        · subst h; exact put_at (by omega) _
        · rw [stL_out _ _ _ _ _ (by omega)]; exact hb k (by omega)) (by omega) hf
    by_cases ho : i % 2 = 1
    · obtain ⟨f, rfl⟩ : ∃ g, f = g + 25 := ⟨f - 25, by omega⟩
      obtain ⟨s', hs, hl⟩ := nxt f (stV V (16 + i) 1) (by omega)
      have hv : ldI L (8 + i) 1 = ((mm8 a b i).toNat : Int) := by
        rw [ldI_one _ _ _ (hL.two (8 + i) (by omega))]
        unfold mm8 bb
        rw [if_neg (by omega), if_pos ho, show 8 + i - 8 = i from by omega]
      exact ⟨s', byt_odd (y := ((16 + i : Nat) : Int)) (z := ((8 + i : Nat) : Int)) (i := 8 + i) (j := 16 + i) (by omega) (by rw [IntWalk.wrap64_in _ (by omega)]; omega) (by rw [hm]; omega) (by rw [IntWalk.wrap64_in _ (by omega)]; omega) rfl (by omega) hv rfl (by omega) (by rw [IntWalk.wrap64_in _ (by omega)]; rfl) hs, hl⟩
    · obtain ⟨f, rfl⟩ : ∃ g, f = g + 22 := ⟨f - 22, by omega⟩
      obtain ⟨s', hs, hl⟩ := nxt f (stV V (16 + i) 1) (by omega)
      have hv : ldI L i 1 = ((mm8 a b i).toNat : Int) := by
        rw [ldI_one _ _ _ (hL.two i (by omega))]
        unfold mm8 bb
        rw [if_pos (by omega), if_neg ho]
      exact ⟨s', byt_even (y := ((16 + i : Nat) : Int)) (i := i) (j := 16 + i) (by omega) (by rw [IntWalk.wrap64_in _ (by omega)]; omega) (by rw [hm]; omega) rfl (by omega) hv rfl (by omega) (by rw [IntWalk.wrap64_in _ (by omega)]; rfl) hs, hl⟩
theorem byt_run (a b : Int) : EndsAs bytC a b (IntKind.i64.wrap (bytN a b : Nat)) 0 := by
  obtain ⟨s', hs, hl⟩ := byt_loop 8 0 99992 _ (stV (stV ([false]) 0 8) 8 8) (has_first a b) (fun k hk => by omega) (by omega) (by omega)
  exact ends_of byt_tok byt_nest byt_ok (by decide) (s' := s') (byt_pre hs) hl
theorem natB_lt {g : Nat → Nat} (hg : ∀ k, g k < 256) : ∀ n, natB g n < 2 ^ (8 * n)
  | 0 => by simp [natB]
  | n + 1 => by
    have h1 := natB_lt hg n
    have h2 := hg n
    have h3 : 2 ^ (8 * n) * g n ≤ 2 ^ (8 * n) * 255 := Nat.mul_le_mul_left _ (by omega)
    have h4 : 2 ^ (8 * (n + 1)) = 2 ^ (8 * n) * 256 := by rw [Nat.mul_add, Nat.pow_add]
    rw [natB, h4]
    omega
/-- What Go lays together. -/
theorem orb8 (x y m : Nat) (hm : m < 8) (hx : x < 2 ^ (8 * m)) (hy : y < 256) : bits .or .u64 (x : Int) (IntKind.u64.wrap ((y : Int) * 2 ^ (8 * m))) = ((x + 2 ^ (8 * m) * y : Nat) : Int) := by
  have hp : 2 ^ (8 * m) * 256 ≤ 2 ^ 64 := by rw [show (256 : Nat) = 2 ^ 8 from rfl, ← Nat.pow_add]; exact Nat.pow_le_pow_right (by decide) (by omega)
  have hyy : 2 ^ (8 * m) * y ≤ 2 ^ (8 * m) * 255 := Nat.mul_le_mul_left _ (by omega)
  have hz : IntKind.u64.wrap ((y : Int) * 2 ^ (8 * m)) = ((2 ^ (8 * m) * y : Nat) : Int) := by
    rw [show (y : Int) * 2 ^ (8 * m) = ((2 ^ (8 * m) * y : Nat) : Int) from by rw [Int.natCast_mul, Int.natCast_pow, Int.mul_comm]; rfl]
    show ((_ : Nat) : Int) % 18446744073709551616 = _
    omega
  rw [hz]
  have h64 : (2 : Nat) ^ 64 = 18446744073709551616 := by decide
  show IntKind.u64.wrap ((BitVec.ofInt 64 (x : Int) ||| BitVec.ofInt 64 ((2 ^ (8 * m) * y : Nat) : Int)).toNat : Nat) = _
  have e1 : (BitVec.ofInt 64 (x : Int)).toNat = x := by rw [BitVec.toNat_ofInt]; omega
  have e2 : (BitVec.ofInt 64 ((2 ^ (8 * m) * y : Nat) : Int)).toNat = 2 ^ (8 * m) * y := by rw [BitVec.toNat_ofInt]; omega
  rw [BitVec.toNat_or, e1, e2, Nat.or_comm, ← Nat.two_pow_add_eq_or_of_lt hx]
  show ((_ : Nat) : Int) % 18446744073709551616 = _
  omega
end Go.Proofs.Ytnohfdojcdhfoaa
