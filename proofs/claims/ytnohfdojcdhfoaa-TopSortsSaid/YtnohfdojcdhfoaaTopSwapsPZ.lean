/-
  Swapped in memory: the runs.
-/
import Derived.Test.YtnohfdojcdhfoaaZTopRun1
import Derived.Test.YtnohfdojcdhfoaaZTopRun2
import Derived.Test.YtnohfdojcdhfoaaZTopRun3
import Derived.Test.YtnohfdojcdhfoaaZTopRun4
import Derived.Test.YtnohfdojcdhfoaaZTopRun5
import Derived.Test.YtnohfdojcdhfoaaZTopRun6
import Derived.Test.YtnohfdojcdhfoaaZTopRun7
import Derived.Test.YtnohfdojcdhfoaaZTopRun8
import Derived.Test.YtnohfdojcdhfoaaZTopRun9
import Derived.Test.YtnohfdojcdhfoaaFrameZ
import Derived.Test.YtnohfdojcdhfoaaTopRunZ
import Derived.Test.YtnohfdojcdhfoaaTopAwakeZ
import Derived.Test.YtnohfdojcdhfoaaTopMaskZ
import Derived.Test.YtnohfdojcdhfoaaTopMemZ
namespace Go.Proofs.Ytnohfdojcdhfoaa
open Go.RowKit
def swpC : ByteArray := ⟨#[48, 97, 36, 56, 98, 36, 48, 64, 67, 48, 32, 56, 64, 36, 56, 99, 36, 56, 64]⟩
def swpT : List TkV := [⟨48, 0, 0⟩, ⟨97, 0, 0⟩, ⟨36, 0, 0⟩, ⟨48, 8, 0⟩, ⟨98, 0, 0⟩, ⟨36, 0, 0⟩, ⟨48, 0, 0⟩, ⟨64, 0, 0⟩, ⟨67, 0, 0⟩, ⟨48, 0, 0⟩, ⟨48, 8, 0⟩, ⟨64, 0, 0⟩, ⟨36, 0, 0⟩, ⟨48, 8, 0⟩, ⟨99, 0, 0⟩, ⟨36, 0, 0⟩, ⟨48, 8, 0⟩, ⟨64, 0, 0⟩]
def swpG : List Int := [(-1), (-1), (-1), (-1), (-1), (-1), (-1), (-1), (-1), (-1), (-1), (-1), (-1), (-1), (-1), (-1), (-1), (-1)]
theorem swp_tok : tokR swpC = some swpT := by kernel_rfl
theorem swp_nest : (rNest (signs swpT)).map (·.1) = some swpG := by decide +kernel
theorem swp_ok : (rFn (oneF swpC) 0).1 = 0 := by decide +kernel
def sbyC : ByteArray := ⟨#[57, 97, 36, 49, 50, 194, 169]⟩
def sbyT : List TkV := [⟨48, 9, 0⟩, ⟨97, 0, 0⟩, ⟨36, 0, 0⟩, ⟨48, 12, 0⟩, ⟨169, 0, 0⟩]
def sbyG : List Int := [(-1), (-1), (-1), (-1), (-1)]
theorem sby_tok : tokR sbyC = some sbyT := by kernel_rfl
theorem sby_nest : (rNest (signs sbyT)).map (·.1) = some sbyG := by decide +kernel
theorem sby_ok : (rFn (oneF sbyC) 0).1 = 0 := by decide +kernel
def sbdC : ByteArray := ⟨#[97, 64]⟩
def sbdT : List TkV := [⟨97, 0, 0⟩, ⟨64, 0, 0⟩]
def sbdG : List Int := [(-1), (-1)]
theorem sbd_tok : tokR sbdC = some sbdT := by kernel_rfl
theorem sbd_nest : (rNest (signs sbdT)).map (·.1) = some sbdG := by decide +kernel
theorem sbd_ok : (rFn (oneF sbdC) 0).1 = 0 := by decide +kernel
theorem stL_out (L : List UInt8) (k : Nat) (n : Int) : ∀ (m i : Nat), i < k ∨ k + m ≤ i → (stL L k n m)[i]? = L[i]?
  | 0, i, _ => rfl
  | m + 1, i, h => by
    rw [show stL L k n (m + 1) = (stL L k n m).set (k + m) (byteN n m) from rfl, List.getElem?_set_ne (by omega)]
    exact stL_out L k n m i (by omega)
theorem ldI_congr {L M : List UInt8} {k s : Nat} (h : ∀ i, i < s → L[k + i]? = M[k + i]?) : ldI L k s = ldI M k s := by
  have e : (L.drop k).take s = (M.drop k).take s := by
    apply List.ext_getElem?
    intro i
    rw [List.getElem?_take, List.getElem?_take]
    split
    · rw [List.getElem?_drop, List.getElem?_drop]; exact h i (by assumption)
    · rfl
  unfold ldI
  rw [e]
theorem ldI_out (L : List UInt8) (k j : Nat) (n : Int) (m s : Nat) (h : j + s ≤ k ∨ k + m ≤ j) : ldI (stL L k n m) j s = ldI L j s := ldI_congr fun i hi => stL_out L k n m (j + i) (by omega)
theorem swp_rn {f : Nat} {a b : Int} (ha : In64 a) (hb : In64 b) : ∃ s', Rn (oneF swpC) [⟨2, swpT, swpG⟩] [] 8 (mkm (f + 18) [] 0 [a, b, 0] (List.replicate 64 0) [false] []) (0, s') ∧ s'.st.getLast? = some a := by
  refine ⟨⟨f, [a], [], stL (stL (stL (stL ((List.replicate 64 0)) 0 a 8) 8 b 8) 0 b 8) 8 a 8, stV (stV (stV (stV ([false]) 0 8) 8 8) 0 8) 8 8, []⟩, ?_, rfl⟩
  refine Rn.on (s' := mkm (f + 17) [0] 1 [a, b, 0] ((List.replicate 64 0)) ([false]) []) (by kernel_rfl) ?_
  refine Rn.on (s' := mkm (f + 16) [0, a] 2 [a, b, 0] ((List.replicate 64 0)) ([false]) []) (by kernel_rfl) ?_
  refine Rn.on (s' := mkm (f + 15) [] 3 [a, b, 0] (stL ((List.replicate 64 0)) 0 a 8) (stV ([false]) 0 8) []) (step_sv (f + 15) [] 0 0 a 8 2 [a, b, 0] ((List.replicate 64 0)) ([false]) [] (by kernel_rfl) (by kernel_rfl) (by decide) rfl rfl (by decide) (rfl) (by decide)) ?_
  refine Rn.on (s' := mkm (f + 14) [8] 4 [a, b, 0] (stL ((List.replicate 64 0)) 0 a 8) (stV ([false]) 0 8) []) (by kernel_rfl) ?_
  refine Rn.on (s' := mkm (f + 13) [8, b] 5 [a, b, 0] (stL ((List.replicate 64 0)) 0 a 8) (stV ([false]) 0 8) []) (by kernel_rfl) ?_
  refine Rn.on (s' := mkm (f + 12) [] 6 [a, b, 0] (stL (stL ((List.replicate 64 0)) 0 a 8) 8 b 8) (stV (stV ([false]) 0 8) 8 8) []) (step_sv (f + 12) [] 8 8 b 8 5 [a, b, 0] (stL ((List.replicate 64 0)) 0 a 8) (stV ([false]) 0 8) [] (by kernel_rfl) (by kernel_rfl) (by decide) rfl rfl (by decide) (rfl) (by rw [stL_len]; decide)) ?_
  refine Rn.on (s' := mkm (f + 11) [0] 7 [a, b, 0] (stL (stL ((List.replicate 64 0)) 0 a 8) 8 b 8) (stV (stV ([false]) 0 8) 8 8) []) (by kernel_rfl) ?_
  refine Rn.on (s' := mkm (f + 10) [a] 8 [a, b, 0] (stL (stL ((List.replicate 64 0)) 0 a 8) 8 b 8) (stV (stV ([false]) 0 8) 8 8) []) (step_ld (f + 10) [] 0 0 a 8 7 [a, b, 0] (stL (stL ((List.replicate 64 0)) 0 a 8) 8 b 8) (stV (stV ([false]) 0 8) 8 8) [] (by kernel_rfl) (by kernel_rfl) (by decide) rfl rfl (by decide) (rfl) (by rw [stL_len, stL_len]; decide) (by rw [ldI_out _ _ _ _ _ _ (by omega), ldI_st _ _ _ ha (by decide)])) ?_
  refine Rn.on (s' := mkm (f + 9) [] 9 [a, b, a] (stL (stL ((List.replicate 64 0)) 0 a 8) 8 b 8) (stV (stV ([false]) 0 8) 8 8) []) (by kernel_rfl) ?_
  refine Rn.on (s' := mkm (f + 8) [0] 10 [a, b, a] (stL (stL ((List.replicate 64 0)) 0 a 8) 8 b 8) (stV (stV ([false]) 0 8) 8 8) []) (by kernel_rfl) ?_
  refine Rn.on (s' := mkm (f + 7) [0, 8] 11 [a, b, a] (stL (stL ((List.replicate 64 0)) 0 a 8) 8 b 8) (stV (stV ([false]) 0 8) 8 8) []) (by kernel_rfl) ?_
  refine Rn.on (s' := mkm (f + 6) [0, b] 12 [a, b, a] (stL (stL ((List.replicate 64 0)) 0 a 8) 8 b 8) (stV (stV ([false]) 0 8) 8 8) []) (step_ld (f + 6) [0] 8 8 b 8 11 [a, b, a] (stL (stL ((List.replicate 64 0)) 0 a 8) 8 b 8) (stV (stV ([false]) 0 8) 8 8) [] (by kernel_rfl) (by kernel_rfl) (by decide) rfl rfl (by decide) (rfl) (by rw [stL_len, stL_len]; decide) (ldI_st _ _ _ hb (by rw [stL_len]; decide))) ?_
  refine Rn.on (s' := mkm (f + 5) [] 13 [a, b, a] (stL (stL (stL ((List.replicate 64 0)) 0 a 8) 8 b 8) 0 b 8) (stV (stV (stV ([false]) 0 8) 8 8) 0 8) []) (step_sv (f + 5) [] 0 0 b 8 12 [a, b, a] (stL (stL ((List.replicate 64 0)) 0 a 8) 8 b 8) (stV (stV ([false]) 0 8) 8 8) [] (by kernel_rfl) (by kernel_rfl) (by decide) rfl rfl (by decide) (rfl) (by rw [stL_len, stL_len]; decide)) ?_
  refine Rn.on (s' := mkm (f + 4) [8] 14 [a, b, a] (stL (stL (stL ((List.replicate 64 0)) 0 a 8) 8 b 8) 0 b 8) (stV (stV (stV ([false]) 0 8) 8 8) 0 8) []) (by kernel_rfl) ?_
  refine Rn.on (s' := mkm (f + 3) [8, a] 15 [a, b, a] (stL (stL (stL ((List.replicate 64 0)) 0 a 8) 8 b 8) 0 b 8) (stV (stV (stV ([false]) 0 8) 8 8) 0 8) []) (by kernel_rfl) ?_
  refine Rn.on (s' := mkm (f + 2) [] 16 [a, b, a] (stL (stL (stL (stL ((List.replicate 64 0)) 0 a 8) 8 b 8) 0 b 8) 8 a 8) (stV (stV (stV (stV ([false]) 0 8) 8 8) 0 8) 8 8) []) (step_sv (f + 2) [] 8 8 a 8 15 [a, b, a] (stL (stL (stL ((List.replicate 64 0)) 0 a 8) 8 b 8) 0 b 8) (stV (stV (stV ([false]) 0 8) 8 8) 0 8) [] (by kernel_rfl) (by kernel_rfl) (by decide) rfl rfl (by decide) (rfl) (by rw [stL_len, stL_len, stL_len]; decide)) ?_
  refine Rn.on (s' := mkm (f + 1) [8] 17 [a, b, a] (stL (stL (stL (stL ((List.replicate 64 0)) 0 a 8) 8 b 8) 0 b 8) 8 a 8) (stV (stV (stV (stV ([false]) 0 8) 8 8) 0 8) 8 8) []) (by kernel_rfl) ?_
  refine Rn.on (s' := mkm f [a] 18 [a, b, a] (stL (stL (stL (stL ((List.replicate 64 0)) 0 a 8) 8 b 8) 0 b 8) 8 a 8) (stV (stV (stV (stV ([false]) 0 8) 8 8) 0 8) 8 8) []) (step_ld f [] 8 8 a 8 17 [a, b, a] (stL (stL (stL (stL ((List.replicate 64 0)) 0 a 8) 8 b 8) 0 b 8) 8 a 8) (stV (stV (stV (stV ([false]) 0 8) 8 8) 0 8) 8 8) [] (by kernel_rfl) (by kernel_rfl) (by decide) rfl rfl (by decide) (rfl) (by rw [stL_len, stL_len, stL_len, stL_len]; decide) (ldI_st _ _ _ ha (by rw [stL_len, stL_len, stL_len]; decide))) ?_
  refine Rn.on (s' := ⟨f, [a], [], stL (stL (stL (stL ((List.replicate 64 0)) 0 a 8) 8 b 8) 0 b 8) 8 a 8, stV (stV (stV (stV ([false]) 0 8) 8 8) 0 8) 8 8, []⟩) (by kernel_rfl) ?_
  exact Rn.stop (by kernel_rfl)
theorem swp_run (a b : Int) (ha : In64 a) (hb : In64 b) : EndsAs swpC a b a 0 := by
  obtain ⟨s', hs, hl⟩ := swp_rn (f := 99982) ha hb
  exact ends_of swp_tok swp_nest swp_ok (by decide) (s' := s') hs hl
theorem sby_run (a : Int) : EndsAs sbyC a 0 (a / 2 ^ 24 % 256) 0 := by
  refine ends_dec sby_ok (by decide) ?_
  have h : ldI (stL (List.replicate 64 0) 9 a 8) 12 1 = a / 2 ^ 24 % 256 := by
    rw [ldI_one _ _ _ (stL_get (List.replicate 64 0) 9 a 8 3 (by omega) (by decide)), byteN_int]
  have e : (eDo (oneF sbyC) [] 8 0 100000 [a, 0] (List.replicate 64 0) [false] []).map (fun q => (q.1, q.2.1)) = some (ldI (stL (List.replicate 64 0) 9 a 8) 12 1, 0) := by kernel_rfl
  rw [e, h]
theorem sbd_run (k : Nat) (h : 57 ≤ k) : EndsAs sbdC (k : Int) 0 0 5 := by
  refine ends_trap sbd_tok sbd_nest sbd_ok (by decide) (s' := ⟨99998, [], [⟨0, 2, [(k : Int), 0] ++ List.replicate 24 0⟩], List.replicate 64 0, [false], []⟩) ?_ (by decide)
  refine Rn.on (s' := mk 99999 [(k : Int)] 1 [(k : Int), 0]) (by kernel_rfl) ?_
  exact Rn.stop (stop_ld 99998 [] (k : Int) 8 1 [(k : Int), 0] (List.replicate 64 0) [false] [] (by kernel_rfl) (by decide) rfl rfl (by decide) (by rw [List.length_replicate]; omega))
end Go.Proofs.Ytnohfdojcdhfoaa
