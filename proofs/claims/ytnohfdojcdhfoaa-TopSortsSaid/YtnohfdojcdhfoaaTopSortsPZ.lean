/-
  Sorting six numbers: the run.
-/
import Derived.Test.YtnohfdojcdhfoaaZTopRun1
import Derived.Test.YtnohfdojcdhfoaaZTopRun2
import Derived.Test.YtnohfdojcdhfoaaZTopRun3
import Derived.Test.YtnohfdojcdhfoaaZTopRun4
import Derived.Test.YtnohfdojcdhfoaaZTopRun5
import Derived.Test.YtnohfdojcdhfoaaZTopRun6
import Derived.Test.YtnohfdojcdhfoaaZTopRun7
import Derived.Test.YtnohfdojcdhfoaaZTopRun8
import Derived.Test.YtnohfdojcdhfoaaZTopRun9
import Derived.Test.YtnohfdojcdhfoaaFrameZ
import Derived.Test.YtnohfdojcdhfoaaTopRunZ
import Derived.Test.YtnohfdojcdhfoaaTopAwakeZ
import Derived.Test.YtnohfdojcdhfoaaTopMaskZ
import Derived.Test.YtnohfdojcdhfoaaTopMemZ
import Derived.Test.YtnohfdojcdhfoaaTopSwapsPZ
namespace Go.Proofs.Ytnohfdojcdhfoaa
open Go.RowKit
def srtU : List FnV := [⟨115, 0, ⟨#[54, 67, 91, 99, 33, 63, 126, 59, 48, 68, 91, 100, 32, 53, 61, 63, 126, 59, 100, 56, 42, 69, 101, 64, 70, 101, 56, 43, 64, 71, 103, 102, 60, 63, 101, 103, 36, 101, 56, 43, 102, 36, 59, 100, 32, 49, 43, 68, 93, 99, 32, 49, 45, 67, 93, 48]⟩⟩]
theorem srt_right : RightU 1 1 srtU := by
  refine ⟨by decide, by decide, by decide, by decide, fun k f hf => ?_, fun k hk => ?_, fun f hf => ?_⟩
  · match k, hf with
    | 0, hf => simp only [srtU, List.getElem?_cons_zero, Option.some.injEq] at hf; subst hf; exact ⟨by decide, by decide, by decide, by decide⟩
    | k + 1, hf => simp [srtU] at hf
  · match k, hk with
    | 0, _ => exact (by decide +kernel : (rFn srtU 0).1 = 0)
    | k + 1, hk => have e : srtU.length = 1 := rfl; omega
  · simp only [srtU, List.mem_cons, List.not_mem_nil, or_false] at hf
    subst hf; decide
def srtC : ByteArray := ⟨#[54, 67, 91, 99, 33, 63, 126, 59, 48, 68, 91, 100, 32, 53, 61, 63, 126, 59, 100, 56, 42, 69, 101, 64, 70, 101, 56, 43, 64, 71, 103, 102, 60, 63, 101, 103, 36, 101, 56, 43, 102, 36, 59, 100, 32, 49, 43, 68, 93, 99, 32, 49, 45, 67, 93, 48]⟩
def srtT : List TkV := [⟨48, 6, 0⟩, ⟨67, 0, 0⟩, ⟨91, 0, 0⟩, ⟨99, 0, 0⟩, ⟨33, 0, 0⟩, ⟨63, 0, 0⟩, ⟨126, 0, 0⟩, ⟨59, 0, 0⟩, ⟨48, 0, 0⟩, ⟨68, 0, 0⟩, ⟨91, 0, 0⟩, ⟨100, 0, 0⟩, ⟨48, 5, 0⟩, ⟨61, 0, 0⟩, ⟨63, 0, 0⟩, ⟨126, 0, 0⟩, ⟨59, 0, 0⟩, ⟨100, 0, 0⟩, ⟨48, 8, 0⟩, ⟨42, 0, 0⟩, ⟨69, 0, 0⟩, ⟨101, 0, 0⟩, ⟨64, 0, 0⟩, ⟨70, 0, 0⟩, ⟨101, 0, 0⟩, ⟨48, 8, 0⟩, ⟨43, 0, 0⟩, ⟨64, 0, 0⟩, ⟨71, 0, 0⟩, ⟨103, 0, 0⟩, ⟨102, 0, 0⟩, ⟨60, 0, 0⟩, ⟨63, 0, 0⟩, ⟨101, 0, 0⟩, ⟨103, 0, 0⟩, ⟨36, 0, 0⟩, ⟨101, 0, 0⟩, ⟨48, 8, 0⟩, ⟨43, 0, 0⟩, ⟨102, 0, 0⟩, ⟨36, 0, 0⟩, ⟨59, 0, 0⟩, ⟨100, 0, 0⟩, ⟨48, 1, 0⟩, ⟨43, 0, 0⟩, ⟨68, 0, 0⟩, ⟨93, 0, 0⟩, ⟨99, 0, 0⟩, ⟨48, 1, 0⟩, ⟨45, 0, 0⟩, ⟨67, 0, 0⟩, ⟨93, 0, 0⟩, ⟨48, 0, 0⟩]
def srtG : List Int := [(-1), (-1), (-1), (-1), (-1), 7, 52, (-1), (-1), (-1), (-1), (-1), (-1), (-1), 16, 47, (-1), (-1), (-1), (-1), (-1), (-1), (-1), (-1), (-1), (-1), (-1), (-1), (-1), (-1), (-1), (-1), 41, (-1), (-1), (-1), (-1), (-1), (-1), (-1), (-1), (-1), (-1), (-1), (-1), (-1), 10, (-1), (-1), (-1), (-1), 2, (-1)]
theorem srt_tok : tokR srtC = some srtT := by kernel_rfl
theorem srt_nest : (rNest (signs srtT)).map (·.1) = some srtG := by decide +kernel
theorem srt_swap {f : Nat} {r : Int × EgV} {L : List UInt8} {V : List Bool} {c d e f_ g x y u v z : Int} {i j : Nat} (h : d ≠ 5) (HX : wrap64 (d * 8) = x) (hx : x = (i : Int)) (hi : i + 8 ≤ L.length) (HU : ldI L i 8 = u) (HY : wrap64 (x + 8) = y) (hy : y = (j : Int)) (hj : j + 8 ≤ L.length) (HV : ldI L j 8 = v) (HZ : wrap64 (d + 1) = z) (hlt : v < u) (hj2 : j + 8 ≤ (stL L i v 8).length) (hK : Rn srtU [⟨0, srtT, srtG⟩] [] 1 (mkm f [] 10 [0, 0, c, z, x, u, v] (stL (stL L i v 8) j u 8) (stV (stV V i 8) j 8) []) r) : Rn srtU [⟨0, srtT, srtG⟩] [] 1 (mkm (f + 36) [] 10 [0, 0, c, d, e, f_, g] L V []) r := by
  refine Rn.on (s' := mkm (f + 35) [] 11 [0, 0, c, d, e, f_, g] L V []) (by kernel_rfl) ?_
  refine Rn.on (s' := mkm (f + 34) [d] 12 [0, 0, c, d, e, f_, g] L V []) (by kernel_rfl) ?_
  refine Rn.on (s' := mkm (f + 33) [d, 5] 13 [0, 0, c, d, e, f_, g] L V []) (by kernel_rfl) ?_
  refine Rn.on (s' := mkm (f + 32) [if (d : Int) = 5 then 1 else 0] 14 [0, 0, c, d, e, f_, g] L V []) (by kernel_rfl) ?_
  rw [show (if (d : Int) = 5 then 1 else 0 : Int) = 0 from if_neg h]
  refine Rn.on (s' := mkm (f + 31) [] 16 [0, 0, c, d, e, f_, g] L V []) (by kernel_rfl) ?_
  refine Rn.on (s' := mkm (f + 30) [] 17 [0, 0, c, d, e, f_, g] L V []) (by kernel_rfl) ?_
  refine Rn.on (s' := mkm (f + 29) [d] 18 [0, 0, c, d, e, f_, g] L V []) (by kernel_rfl) ?_
  refine Rn.on (s' := mkm (f + 28) [d, 8] 19 [0, 0, c, d, e, f_, g] L V []) (by kernel_rfl) ?_
  refine Rn.on (s' := mkm (f + 27) [wrap64 (d * 8)] 20 [0, 0, c, d, e, f_, g] L V []) (by kernel_rfl) ?_
  rw [show (wrap64 (d * 8) : Int) = x from HX]
  refine Rn.on (s' := mkm (f + 26) [] 21 [0, 0, c, d, x, f_, g] L V []) (by kernel_rfl) ?_
  refine Rn.on (s' := mkm (f + 25) [x] 22 [0, 0, c, d, x, f_, g] L V []) (by kernel_rfl) ?_
  refine Rn.on (s' := mkm (f + 24) [u] 23 [0, 0, c, d, x, f_, g] L V []) (step_ld (f + 24) [] i x u 8 22 [0, 0, c, d, x, f_, g] L V [] (by kernel_rfl) (by kernel_rfl) (by decide) rfl rfl (by decide) (hx) (hi) (HU)) ?_
  refine Rn.on (s' := mkm (f + 23) [] 24 [0, 0, c, d, x, u, g] L V []) (by kernel_rfl) ?_
  refine Rn.on (s' := mkm (f + 22) [x] 25 [0, 0, c, d, x, u, g] L V []) (by kernel_rfl) ?_
  refine Rn.on (s' := mkm (f + 21) [x, 8] 26 [0, 0, c, d, x, u, g] L V []) (by kernel_rfl) ?_
  refine Rn.on (s' := mkm (f + 20) [wrap64 (x + 8)] 27 [0, 0, c, d, x, u, g] L V []) (by kernel_rfl) ?_
  rw [show (wrap64 (x + 8) : Int) = y from HY]
  refine Rn.on (s' := mkm (f + 19) [v] 28 [0, 0, c, d, x, u, g] L V []) (step_ld (f + 19) [] j y v 8 27 [0, 0, c, d, x, u, g] L V [] (by kernel_rfl) (by kernel_rfl) (by decide) rfl rfl (by decide) (hy) (hj) (HV)) ?_
  refine Rn.on (s' := mkm (f + 18) [] 29 [0, 0, c, d, x, u, v] L V []) (by kernel_rfl) ?_
  refine Rn.on (s' := mkm (f + 17) [v] 30 [0, 0, c, d, x, u, v] L V []) (by kernel_rfl) ?_
  refine Rn.on (s' := mkm (f + 16) [v, u] 31 [0, 0, c, d, x, u, v] L V []) (by kernel_rfl) ?_
  refine Rn.on (s' := mkm (f + 15) [if (v : Int) < u then 1 else 0] 32 [0, 0, c, d, x, u, v] L V []) (by kernel_rfl) ?_
  rw [show (if (v : Int) < u then 1 else 0 : Int) = 1 from if_pos hlt]
  refine Rn.on (s' := mkm (f + 14) [] 33 [0, 0, c, d, x, u, v] L V []) (by kernel_rfl) ?_
  refine Rn.on (s' := mkm (f + 13) [x] 34 [0, 0, c, d, x, u, v] L V []) (by kernel_rfl) ?_
  refine Rn.on (s' := mkm (f + 12) [x, v] 35 [0, 0, c, d, x, u, v] L V []) (by kernel_rfl) ?_
  refine Rn.on (s' := mkm (f + 11) [] 36 [0, 0, c, d, x, u, v] (stL L i v 8) (stV V i 8) []) (step_sv (f + 11) [] i x v 8 35 [0, 0, c, d, x, u, v] L V [] (by kernel_rfl) (by kernel_rfl) (by decide) rfl rfl (by decide) (hx) (hi)) ?_
  refine Rn.on (s' := mkm (f + 10) [x] 37 [0, 0, c, d, x, u, v] (stL L i v 8) (stV V i 8) []) (by kernel_rfl) ?_
  refine Rn.on (s' := mkm (f + 9) [x, 8] 38 [0, 0, c, d, x, u, v] (stL L i v 8) (stV V i 8) []) (by kernel_rfl) ?_
  refine Rn.on (s' := mkm (f + 8) [wrap64 (x + 8)] 39 [0, 0, c, d, x, u, v] (stL L i v 8) (stV V i 8) []) (by kernel_rfl) ?_
  rw [show (wrap64 (x + 8) : Int) = y from HY]
  refine Rn.on (s' := mkm (f + 7) [y, u] 40 [0, 0, c, d, x, u, v] (stL L i v 8) (stV V i 8) []) (by kernel_rfl) ?_
  refine Rn.on (s' := mkm (f + 6) [] 41 [0, 0, c, d, x, u, v] (stL (stL L i v 8) j u 8) (stV (stV V i 8) j 8) []) (step_sv (f + 6) [] j y u 8 40 [0, 0, c, d, x, u, v] (stL L i v 8) (stV V i 8) [] (by kernel_rfl) (by kernel_rfl) (by decide) rfl rfl (by decide) (hy) (hj2)) ?_
  refine Rn.on (s' := mkm (f + 5) [] 42 [0, 0, c, d, x, u, v] (stL (stL L i v 8) j u 8) (stV (stV V i 8) j 8) []) (by kernel_rfl) ?_
  refine Rn.on (s' := mkm (f + 4) [d] 43 [0, 0, c, d, x, u, v] (stL (stL L i v 8) j u 8) (stV (stV V i 8) j 8) []) (by kernel_rfl) ?_
  refine Rn.on (s' := mkm (f + 3) [d, 1] 44 [0, 0, c, d, x, u, v] (stL (stL L i v 8) j u 8) (stV (stV V i 8) j 8) []) (by kernel_rfl) ?_
  refine Rn.on (s' := mkm (f + 2) [wrap64 (d + 1)] 45 [0, 0, c, d, x, u, v] (stL (stL L i v 8) j u 8) (stV (stV V i 8) j 8) []) (by kernel_rfl) ?_
  rw [show (wrap64 (d + 1) : Int) = z from HZ]
  refine Rn.on (s' := mkm (f + 1) [] 46 [0, 0, c, z, x, u, v] (stL (stL L i v 8) j u 8) (stV (stV V i 8) j 8) []) (by kernel_rfl) ?_
  refine Rn.on (s' := mkm f [] 10 [0, 0, c, z, x, u, v] (stL (stL L i v 8) j u 8) (stV (stV V i 8) j 8) []) (by kernel_rfl) ?_
  exact hK
theorem srt_keep {f : Nat} {r : Int × EgV} {L : List UInt8} {V : List Bool} {c d e f_ g x y u v z : Int} {i j : Nat} (h : d ≠ 5) (HX : wrap64 (d * 8) = x) (hx : x = (i : Int)) (hi : i + 8 ≤ L.length) (HU : ldI L i 8 = u) (HY : wrap64 (x + 8) = y) (hy : y = (j : Int)) (hj : j + 8 ≤ L.length) (HV : ldI L j 8 = v) (HZ : wrap64 (d + 1) = z) (hlt : ¬ v < u) (hK : Rn srtU [⟨0, srtT, srtG⟩] [] 1 (mkm f [] 10 [0, 0, c, z, x, u, v] L V []) r) : Rn srtU [⟨0, srtT, srtG⟩] [] 1 (mkm (f + 28) [] 10 [0, 0, c, d, e, f_, g] L V []) r := by
  refine Rn.on (s' := mkm (f + 27) [] 11 [0, 0, c, d, e, f_, g] L V []) (by kernel_rfl) ?_
  refine Rn.on (s' := mkm (f + 26) [d] 12 [0, 0, c, d, e, f_, g] L V []) (by kernel_rfl) ?_
  refine Rn.on (s' := mkm (f + 25) [d, 5] 13 [0, 0, c, d, e, f_, g] L V []) (by kernel_rfl) ?_
  refine Rn.on (s' := mkm (f + 24) [if (d : Int) = 5 then 1 else 0] 14 [0, 0, c, d, e, f_, g] L V []) (by kernel_rfl) ?_
  rw [show (if (d : Int) = 5 then 1 else 0 : Int) = 0 from if_neg h]
  refine Rn.on (s' := mkm (f + 23) [] 16 [0, 0, c, d, e, f_, g] L V []) (by kernel_rfl) ?_
  refine Rn.on (s' := mkm (f + 22) [] 17 [0, 0, c, d, e, f_, g] L V []) (by kernel_rfl) ?_
  refine Rn.on (s' := mkm (f + 21) [d] 18 [0, 0, c, d, e, f_, g] L V []) (by kernel_rfl) ?_
  refine Rn.on (s' := mkm (f + 20) [d, 8] 19 [0, 0, c, d, e, f_, g] L V []) (by kernel_rfl) ?_
  refine Rn.on (s' := mkm (f + 19) [wrap64 (d * 8)] 20 [0, 0, c, d, e, f_, g] L V []) (by kernel_rfl) ?_
  rw [show (wrap64 (d * 8) : Int) = x from HX]
  refine Rn.on (s' := mkm (f + 18) [] 21 [0, 0, c, d, x, f_, g] L V []) (by kernel_rfl) ?_
  refine Rn.on (s' := mkm (f + 17) [x] 22 [0, 0, c, d, x, f_, g] L V []) (by kernel_rfl) ?_
  refine Rn.on (s' := mkm (f + 16) [u] 23 [0, 0, c, d, x, f_, g] L V []) (step_ld (f + 16) [] i x u 8 22 [0, 0, c, d, x, f_, g] L V [] (by kernel_rfl) (by kernel_rfl) (by decide) rfl rfl (by decide) (hx) (hi) (HU)) ?_
  refine Rn.on (s' := mkm (f + 15) [] 24 [0, 0, c, d, x, u, g] L V []) (by kernel_rfl) ?_
  refine Rn.on (s' := mkm (f + 14) [x] 25 [0, 0, c, d, x, u, g] L V []) (by kernel_rfl) ?_
  refine Rn.on (s' := mkm (f + 13) [x, 8] 26 [0, 0, c, d, x, u, g] L V []) (by kernel_rfl) ?_
  refine Rn.on (s' := mkm (f + 12) [wrap64 (x + 8)] 27 [0, 0, c, d, x, u, g] L V []) (by kernel_rfl) ?_
  rw [show (wrap64 (x + 8) : Int) = y from HY]
  refine Rn.on (s' := mkm (f + 11) [v] 28 [0, 0, c, d, x, u, g] L V []) (step_ld (f + 11) [] j y v 8 27 [0, 0, c, d, x, u, g] L V [] (by kernel_rfl) (by kernel_rfl) (by decide) rfl rfl (by decide) (hy) (hj) (HV)) ?_
  refine Rn.on (s' := mkm (f + 10) [] 29 [0, 0, c, d, x, u, v] L V []) (by kernel_rfl) ?_
  refine Rn.on (s' := mkm (f + 9) [v] 30 [0, 0, c, d, x, u, v] L V []) (by kernel_rfl) ?_
  refine Rn.on (s' := mkm (f + 8) [v, u] 31 [0, 0, c, d, x, u, v] L V []) (by kernel_rfl) ?_
  refine Rn.on (s' := mkm (f + 7) [if (v : Int) < u then 1 else 0] 32 [0, 0, c, d, x, u, v] L V []) (by kernel_rfl) ?_
  rw [show (if (v : Int) < u then 1 else 0 : Int) = 0 from if_neg hlt]
  refine Rn.on (s' := mkm (f + 6) [] 41 [0, 0, c, d, x, u, v] L V []) (by kernel_rfl) ?_
  refine Rn.on (s' := mkm (f + 5) [] 42 [0, 0, c, d, x, u, v] L V []) (by kernel_rfl) ?_
  refine Rn.on (s' := mkm (f + 4) [d] 43 [0, 0, c, d, x, u, v] L V []) (by kernel_rfl) ?_
  refine Rn.on (s' := mkm (f + 3) [d, 1] 44 [0, 0, c, d, x, u, v] L V []) (by kernel_rfl) ?_
  refine Rn.on (s' := mkm (f + 2) [wrap64 (d + 1)] 45 [0, 0, c, d, x, u, v] L V []) (by kernel_rfl) ?_
  rw [show (wrap64 (d + 1) : Int) = z from HZ]
  refine Rn.on (s' := mkm (f + 1) [] 46 [0, 0, c, z, x, u, v] L V []) (by kernel_rfl) ?_
  refine Rn.on (s' := mkm f [] 10 [0, 0, c, z, x, u, v] L V []) (by kernel_rfl) ?_
  exact hK
theorem srt_out {f : Nat} {r : Int × EgV} {L : List UInt8} {V : List Bool} {c e f_ g z : Int} (HZ : wrap64 (c - 1) = z) (hK : Rn srtU [⟨0, srtT, srtG⟩] [] 1 (mkm f [] 2 [0, 0, z, 5, e, f_, g] L V []) r) : Rn srtU [⟨0, srtT, srtG⟩] [] 1 (mkm (f + 11) [] 10 [0, 0, c, 5, e, f_, g] L V []) r := by
  refine Rn.on (s' := mkm (f + 10) [] 11 [0, 0, c, 5, e, f_, g] L V []) (by kernel_rfl) ?_
  refine Rn.on (s' := mkm (f + 9) [5] 12 [0, 0, c, 5, e, f_, g] L V []) (by kernel_rfl) ?_
  refine Rn.on (s' := mkm (f + 8) [5, 5] 13 [0, 0, c, 5, e, f_, g] L V []) (by kernel_rfl) ?_
  refine Rn.on (s' := mkm (f + 7) [if (5 : Int) = 5 then 1 else 0] 14 [0, 0, c, 5, e, f_, g] L V []) (by kernel_rfl) ?_
  rw [show (if (5 : Int) = 5 then 1 else 0 : Int) = 1 from rfl]
  refine Rn.on (s' := mkm (f + 6) [] 15 [0, 0, c, 5, e, f_, g] L V []) (by kernel_rfl) ?_
  refine Rn.on (s' := mkm (f + 5) [] 47 [0, 0, c, 5, e, f_, g] L V []) (by kernel_rfl) ?_
  refine Rn.on (s' := mkm (f + 4) [c] 48 [0, 0, c, 5, e, f_, g] L V []) (by kernel_rfl) ?_
  refine Rn.on (s' := mkm (f + 3) [c, 1] 49 [0, 0, c, 5, e, f_, g] L V []) (by kernel_rfl) ?_
  refine Rn.on (s' := mkm (f + 2) [wrap64 (c - 1)] 50 [0, 0, c, 5, e, f_, g] L V []) (by kernel_rfl) ?_
  rw [show (wrap64 (c - 1) : Int) = z from HZ]
  refine Rn.on (s' := mkm (f + 1) [] 51 [0, 0, z, 5, e, f_, g] L V []) (by kernel_rfl) ?_
  refine Rn.on (s' := mkm f [] 2 [0, 0, z, 5, e, f_, g] L V []) (by kernel_rfl) ?_
  exact hK
theorem srt_in {f : Nat} {r : Int × EgV} {L : List UInt8} {V : List Bool} {c d e f_ g : Int} (h : c ≠ 0) (hK : Rn srtU [⟨0, srtT, srtG⟩] [] 1 (mkm f [] 10 [0, 0, c, 0, e, f_, g] L V []) r) : Rn srtU [⟨0, srtT, srtG⟩] [] 1 (mkm (f + 7) [] 2 [0, 0, c, d, e, f_, g] L V []) r := by
  refine Rn.on (s' := mkm (f + 6) [] 3 [0, 0, c, d, e, f_, g] L V []) (by kernel_rfl) ?_
  refine Rn.on (s' := mkm (f + 5) [c] 4 [0, 0, c, d, e, f_, g] L V []) (by kernel_rfl) ?_
  refine Rn.on (s' := mkm (f + 4) [if (c : Int) = 0 then 1 else 0] 5 [0, 0, c, d, e, f_, g] L V []) (by kernel_rfl) ?_
  rw [show (if (c : Int) = 0 then 1 else 0 : Int) = 0 from if_neg h]
  refine Rn.on (s' := mkm (f + 3) [] 7 [0, 0, c, d, e, f_, g] L V []) (by kernel_rfl) ?_
  refine Rn.on (s' := mkm (f + 2) [] 8 [0, 0, c, d, e, f_, g] L V []) (by kernel_rfl) ?_
  refine Rn.on (s' := mkm (f + 1) [0] 9 [0, 0, c, d, e, f_, g] L V []) (by kernel_rfl) ?_
  refine Rn.on (s' := mkm f [] 10 [0, 0, c, 0, e, f_, g] L V []) (by kernel_rfl) ?_
  exact hK
theorem srt_end {f : Nat} {L : List UInt8} {V : List Bool} {d e f_ g : Int} : Rn srtU [⟨0, srtT, srtG⟩] [] 1 (mkm (f + 6) [] 2 [0, 0, 0, d, e, f_, g] L V []) (0, ⟨f, [0], [], L, V, []⟩) := by
  refine Rn.on (s' := mkm (f + 5) [] 3 [0, 0, 0, d, e, f_, g] L V []) (by kernel_rfl) ?_
  refine Rn.on (s' := mkm (f + 4) [0] 4 [0, 0, 0, d, e, f_, g] L V []) (by kernel_rfl) ?_
  refine Rn.on (s' := mkm (f + 3) [if (0 : Int) = 0 then 1 else 0] 5 [0, 0, 0, d, e, f_, g] L V []) (by kernel_rfl) ?_
  rw [show (if (0 : Int) = 0 then 1 else 0 : Int) = 1 from rfl]
  refine Rn.on (s' := mkm (f + 2) [] 6 [0, 0, 0, d, e, f_, g] L V []) (by kernel_rfl) ?_
  refine Rn.on (s' := mkm (f + 1) [] 52 [0, 0, 0, d, e, f_, g] L V []) (by kernel_rfl) ?_
  refine Rn.on (s' := mkm f [0] 53 [0, 0, 0, d, e, f_, g] L V []) (by kernel_rfl) ?_
  refine Rn.on (s' := ⟨f, [0], [], L, V, []⟩) (by kernel_rfl) ?_
  exact Rn.stop (by kernel_rfl)
theorem srt_pre {f : Nat} {r : Int × EgV} {L : List UInt8} {V : List Bool}  (hK : Rn srtU [⟨0, srtT, srtG⟩] [] 1 (mkm f [] 2 [0, 0, 6, 0, 0, 0, 0] L V []) r) : Rn srtU [⟨0, srtT, srtG⟩] [] 1 (mkm (f + 2) [] 0 [0, 0, 0, 0, 0, 0, 0] L V []) r := by
  refine Rn.on (s' := mkm (f + 1) [6] 1 [0, 0, 0, 0, 0, 0, 0] L V []) (by kernel_rfl) ?_
  refine Rn.on (s' := mkm f [] 2 [0, 0, 6, 0, 0, 0, 0] L V []) (by kernel_rfl) ?_
  exact hK
/-- Six numbers in memory. -/
structure Six (L : List UInt8) (x : Nat → Int) : Prop where
  len : L.length = 64
  at_ : ∀ k, k < 6 → ldI L (8 * k) 8 = x k
  in_ : ∀ k, k < 6 → In64 (x k)
def swapF (x : Nat → Int) (d k : Nat) : Int := if k = d then x (d + 1) else if k = d + 1 then x d else x k
theorem Six.swap {L : List UInt8} {x : Nat → Int} (h : Six L x) {d : Nat} (hd : d < 5) : Six (stL (stL L (8 * d) (x (d + 1)) 8) (8 * d + 8) (x d) 8) (swapF x d) := by
  have hl := h.len
  refine ⟨by rw [stL_len, stL_len]; exact h.len, fun k hk => ?_, fun k hk => ?_⟩
  · unfold swapF
    by_cases h1 : k = d
    · subst h1
      rw [if_pos rfl, ldI_out _ _ _ _ _ _ (by omega)]
      exact ldI_st _ _ _ (h.in_ _ (by omega)) (by omega)
    · rw [if_neg h1]
      by_cases h2 : k = d + 1
      · subst h2
        rw [if_pos rfl, show 8 * (d + 1) = 8 * d + 8 from by omega]
        exact ldI_st _ _ _ (h.in_ _ (by omega)) (by rw [stL_len]; omega)
      · rw [if_neg h2, ldI_out _ _ _ _ _ _ (by omega), ldI_out _ _ _ _ _ _ (by omega)]
        exact h.at_ k hk
  · unfold swapF
    split
    · exact h.in_ _ (by omega)
    · split
      · exact h.in_ _ (by omega)
      · exact h.in_ _ hk
def row6 (x : Nat → Int) : List Int := [x 0, x 1, x 2, x 3, x 4, x 5]
theorem row6_swap (x : Nat → Int) {d : Nat} (hd : d < 5) : (row6 (swapF x d)).Perm (row6 x) := by
  have h : d = 0 ∨ d = 1 ∨ d = 2 ∨ d = 3 ∨ d = 4 := by omega
  rcases h with rfl | rfl | rfl | rfl | rfl
  · exact .swap _ _ _
  · exact .cons _ (.swap _ _ _)
  · exact .cons _ (.cons _ (.swap _ _ _))
  · exact .cons _ (.cons _ (.cons _ (.swap _ _ _)))
  · exact .cons _ (.cons _ (.cons _ (.cons _ (.swap _ _ _))))
/-- The greatest ones stand at the end. -/
def Top6 (x : Nat → Int) (c : Nat) : Prop := ∀ p q, p < q → q < 6 → c ≤ q → x p ≤ x q
/-- The greatest of those up to d stands at d, as far as d has come. -/
def Peak (x : Nat → Int) (c d : Nat) : Prop := ∀ p, p < d → p < c - 1 → x p ≤ x (min d (c - 1))
theorem next_keep {x : Nat → Int} {c d : Nat} (h1 : Peak x c d) (_hc : 1 ≤ c) (hk : x d ≤ x (d + 1)) : Peak x c (d + 1) := by
  intro p hp hpc
  by_cases hdc : d + 1 ≤ c - 1
  · rw [Nat.min_eq_left hdc]
    by_cases hpd : p = d
    · subst hpd; exact hk
    · have := h1 p (by omega) (by omega)
      rw [Nat.min_eq_left (by omega)] at this
      omega
  · rw [Nat.min_eq_right (by omega)]
    have := h1 p (by omega) (by omega)
    rw [Nat.min_eq_right (by omega)] at this
    exact this
theorem next_swap {x : Nat → Int} {c d : Nat} (h0 : Top6 x c) (h1 : Peak x c d) (hd : d < 5) (hc : 1 ≤ c) (hk : x (d + 1) < x d) : Top6 (swapF x d) c ∧ Peak (swapF x d) c (d + 1) := by
  have hdc : d + 1 < c := by
    by_cases h : d + 1 < c
    · exact h
    · have := h0 d (d + 1) (by omega) (by omega) (by omega); omega
  constructor
  · intro p q hpq hq hcq
    unfold swapF
    rw [if_neg (show ¬ q = d by omega), if_neg (show ¬ q = d + 1 by omega)]
    split
    · exact h0 _ _ (by omega) hq hcq
    · split
      · exact h0 _ _ (by omega) hq hcq
      · exact h0 _ _ hpq hq hcq
  · intro p hp hpc
    rw [Nat.min_eq_left (by omega)]
    unfold swapF
    rw [if_neg (show ¬ d + 1 = d by omega), if_pos (show d + 1 = d + 1 from rfl)]
    by_cases hpd : p = d
    · subst hpd; rw [if_pos rfl]; omega
    · rw [if_neg hpd, if_neg (by omega)]
      have := h1 p (by omega) (by omega)
      rw [Nat.min_eq_left (by omega)] at this
      exact this
theorem top_next {x : Nat → Int} {c : Nat} (h0 : Top6 x (c + 1)) (h1 : Peak x (c + 1) 5) (hc : c < 6) : Top6 x c := by
  intro p q hpq hq hcq
  by_cases h : q = c
  · subst h
    have := h1 p (by omega) (by omega)
    rw [Nat.min_eq_right (by omega)] at this
    exact this
  · exact h0 p q hpq hq (by omega)
/-- What is behind it all: sorted, and the same numbers. -/
def Done6 (x : Nat → Int) (r : Int × EgV) : Prop := r.1 = 0 ∧ r.2.st.getLast? = some 0 ∧ r.2.V.length = 1 ∧ r.2.qs = [] ∧ ∃ y, Six r.2.L y ∧ Top6 y 0 ∧ (row6 y).Perm (row6 x)
theorem srt_inner {c : Nat} (hc : c < 6) {x0 : Nat → Int} {F : Nat} (nxt : ∀ (L : List UInt8) (V : List Bool) (x : Nat → Int) (f : Nat) (e g k : Int), F ≤ f → Six L x → V.length = 1 → (row6 x).Perm (row6 x0) → Top6 x c → ∃ r, Rn srtU [⟨0, srtT, srtG⟩] [] 1 (mkm f [] 2 [0, 0, (c : Int), 5, e, g, k] L V []) r ∧ Done6 x0 r) :
    ∀ (n d f : Nat) (L : List UInt8) (V : List Bool) (x : Nat → Int) (e g k : Int), d + n = 5 → 36 * n + 11 + F ≤ f → Six L x → V.length = 1 → (row6 x).Perm (row6 x0) → Top6 x (c + 1) → Peak x (c + 1) d → ∃ r, Rn srtU [⟨0, srtT, srtG⟩] [] 1 (mkm f [] 10 [0, 0, ((c + 1 : Nat) : Int), (d : Int), e, g, k] L V []) r ∧ Done6 x0 r
  | 0, d, f, L, V, x, e, g, k, hd, hf, hx, hV, hp, h0, h1 => by
    obtain rfl : d = 5 := by omega
    obtain ⟨f, rfl⟩ : ∃ t, f = t + 11 := ⟨f - 11, by omega⟩
    obtain ⟨r, hr, hD⟩ := nxt L V x f e g k (by omega) hx hV hp (top_next h0 h1 hc)
    exact ⟨r, srt_out (by rw [show ((c + 1 : Nat) : Int) - 1 = (c : Int) from by omega]; exact IntWalk.wrap64_in _ (by omega)) hr, hD⟩
  | n + 1, d, f, L, V, x, e, g, k, hd, hf, hx, hV, hp, h0, h1 => by
    have hl := hx.len
    have HX : wrap64 ((d : Int) * 8) = ((8 * d : Nat) : Int) := by rw [IntWalk.wrap64_in _ (by omega)]; omega
    have HY : wrap64 (((8 * d : Nat) : Int) + 8) = ((8 * d + 8 : Nat) : Int) := by rw [IntWalk.wrap64_in _ (by omega)]; omega
    have HZ : wrap64 ((d : Int) + 1) = ((d + 1 : Nat) : Int) := by rw [IntWalk.wrap64_in _ (by omega)]; rfl
    have HU := hx.at_ d (by omega)
    have HV := hx.at_ (d + 1) (by omega)
    rw [show 8 * (d + 1) = 8 * d + 8 from by omega] at HV
    by_cases hlt : x (d + 1) < x d
    · obtain ⟨f, rfl⟩ : ∃ t, f = t + 36 := ⟨f - 36, by omega⟩
      obtain ⟨t0, t1⟩ := next_swap h0 h1 (by omega) (by omega) hlt
      obtain ⟨r, hr, hD⟩ := srt_inner hc nxt n (d + 1) f _ (stV (stV V (8 * d) 8) (8 * d + 8) 8) _ ((8 * d : Nat) : Int) (x d) (x (d + 1)) (by omega) (by omega) (hx.swap (by omega)) (by rw [stV_len, stV_len]; exact hV) ((row6_swap x (by omega)).trans hp) t0 t1
      exact ⟨r, srt_swap (by omega) HX rfl (by omega) HU HY rfl (by omega) HV HZ hlt (by rw [stL_len]; omega) hr, hD⟩
    · obtain ⟨f, rfl⟩ : ∃ t, f = t + 28 := ⟨f - 28, by omega⟩
      obtain ⟨r, hr, hD⟩ := srt_inner hc nxt n (d + 1) f L V x ((8 * d : Nat) : Int) (x d) (x (d + 1)) (by omega) (by omega) hx hV hp h0 (next_keep h1 (by omega) (by omega))
      exact ⟨r, srt_keep (by omega) HX rfl (by omega) HU HY rfl (by omega) HV HZ hlt hr, hD⟩
theorem srt_outer (x0 : Nat → Int) : ∀ (c f : Nat) (L : List UInt8) (V : List Bool) (x : Nat → Int) (d e g k : Int), c ≤ 6 → 198 * c + 6 ≤ f → Six L x → V.length = 1 → (row6 x).Perm (row6 x0) → Top6 x c → ∃ r, Rn srtU [⟨0, srtT, srtG⟩] [] 1 (mkm f [] 2 [0, 0, (c : Int), d, e, g, k] L V []) r ∧ Done6 x0 r
  | 0, f, L, V, x, d, e, g, k, _, hf, hx, hV, hp, h0 => by
    obtain ⟨f, rfl⟩ : ∃ t, f = t + 6 := ⟨f - 6, by omega⟩
    exact ⟨_, srt_end, rfl, rfl, hV, rfl, x, hx, h0, hp⟩
  | c + 1, f, L, V, x, d, e, g, k, hc, hf, hx, hV, hp, h0 => by
    obtain ⟨f, rfl⟩ : ∃ t, f = t + 7 := ⟨f - 7, by omega⟩
    obtain ⟨r, hr, hD⟩ := srt_inner (c := c) (by omega) (x0 := x0) (F := 198 * c + 6) (fun L V x f e g k hf hx hV hp h0 => srt_outer x0 c f L V x 5 e g k (by omega) hf hx hV hp h0) 5 0 f L V x e g k (by omega) (by omega) hx hV hp h0 (fun p hp => by omega)
    exact ⟨r, srt_in (by omega) hr, hD⟩
theorem srt_codes : srtU.map codeOf = [⟨0, srtT, srtG⟩] := by
  show [codeOf ⟨115, 0, srtC⟩] = _
  unfold codeOf
  simp only
  rw [srt_tok]
  simp only
  have hnest := srt_nest
  cases hn : rNest (signs srtT) with
  | none => rw [hn] at hnest; cases hnest
  | some R => rw [hn] at hnest; simp only [Option.map_some, Option.some.injEq] at hnest; rw [← hnest]; rfl
theorem srt_run {L : List UInt8} {V : List Bool} {x : Nat → Int} (hx : Six L x) (hV : V.length = 1) : ∃ s', eDo srtU [] 1 0 20000 [] L V [] = some (0, 0, s') ∧ s'.V.length = 1 ∧ s'.qs = [] ∧ ∃ y, Six s'.L y ∧ Top6 y 0 ∧ (row6 y).Perm (row6 x) := by
  obtain ⟨⟨t, s'⟩, hr, ht, hl, hV', hq, hy⟩ := srt_outer x 6 19998 L V x 0 0 0 0 (by omega) (by omega) hx hV (List.Perm.refl _) (fun p q _ hq hc => by omega)
  simp only at ht hl hV' hq hy
  subst ht
  refine ⟨⟨s'.fuel, s'.st.dropLast, s'.cs, s'.L, s'.V, s'.qs⟩, ?_, hV', hq, hy⟩
  unfold eDo
  rw [srt_codes]
  rw [show eCall [(⟨0, srtT, srtG⟩ : CodeV)] 0 ⟨20000, [], [], L, V, []⟩ = some (mkm 20000 [] 0 [0, 0, 0, 0, 0, 0, 0] L V []) from rfl]
  simp only
  rw [(srt_pre hr).run (2 * 20000 + 2) (by show 2 * 20000 + 1 < _; omega)]
  simp only [if_true]
  unfold EgV.pop
  rw [hl]
  rfl
/-- Sorted rows of the same numbers are the same. -/
theorem sorted_same {y z : Nat → Int} (hy : Top6 y 0) (hz : Top6 z 0) (hp : (row6 y).Perm (row6 z)) : ∀ k, k < 6 → y k = z k := by
  have st : ∀ {y : Nat → Int}, Top6 y 0 → (row6 y).Pairwise (· ≤ ·) := fun {y} h => by
    have a := fun p q hpq hq => h p q hpq hq (Nat.zero_le _)
    simp only [row6, List.pairwise_cons, List.mem_cons, List.not_mem_nil, or_false, forall_eq_or_imp, forall_eq]
    have := a 0 1 (by omega) (by omega); have := a 1 2 (by omega) (by omega); have := a 2 3 (by omega) (by omega); have := a 3 4 (by omega) (by omega); have := a 4 5 (by omega) (by omega)
    refine ⟨⟨?_, ?_, ?_, ?_, ?_⟩, ⟨?_, ?_, ?_, ?_⟩, ⟨?_, ?_, ?_⟩, ⟨?_, ?_⟩, ?_, ?_, List.Pairwise.nil⟩ <;> first | omega | (intro a ha; cases ha)
  have he : row6 y = row6 z := hp.eq_of_pairwise (fun a b _ _ h1 h2 => Int.le_antisymm h1 h2) (st hy) (st hz)
  intro k hk
  simp only [row6, List.cons.injEq, and_true] at he
  obtain ⟨h0, h1, h2, h3, h4, h5⟩ := he
  have h : k = 0 ∨ k = 1 ∨ k = 2 ∨ k = 3 ∨ k = 4 ∨ k = 5 := by omega
  rcases h with rfl | rfl | rfl | rfl | rfl | rfl <;> assumption
end Go.Proofs.Ytnohfdojcdhfoaa
