/-
  The lesser, the greater: the runs.
-/
import Derived.Test.YtnohfdojcdhfoaaZTopRun1
import Derived.Test.YtnohfdojcdhfoaaZTopRun2
import Derived.Test.YtnohfdojcdhfoaaZTopRun3
import Derived.Test.YtnohfdojcdhfoaaZTopRun4
import Derived.Test.YtnohfdojcdhfoaaZTopRun5
import Derived.Test.YtnohfdojcdhfoaaZTopRun6
import Derived.Test.YtnohfdojcdhfoaaZTopRun7
import Derived.Test.YtnohfdojcdhfoaaZTopRun8
import Derived.Test.YtnohfdojcdhfoaaZTopRun9
import Derived.Test.YtnohfdojcdhfoaaFrameZ
import Derived.Test.YtnohfdojcdhfoaaTopRunZ
import Derived.Test.YtnohfdojcdhfoaaTopAwakeZ
namespace Go.Proofs.Ytnohfdojcdhfoaa
open Go.RowKit
def leaC : ByteArray := ⟨#[97, 98, 60, 63, 97, 58, 98, 59]⟩
def leaT : List TkV := [⟨97, 0, 0⟩, ⟨98, 0, 0⟩, ⟨60, 0, 0⟩, ⟨63, 0, 0⟩, ⟨97, 0, 0⟩, ⟨58, 0, 0⟩, ⟨98, 0, 0⟩, ⟨59, 0, 0⟩]
def leaG : List Int := [(-1), (-1), (-1), 6, (-1), 7, (-1), (-1)]
theorem lea_tok : tokR leaC = some leaT := by kernel_rfl
theorem lea_nest : (rNest (signs leaT)).map (·.1) = some leaG := by decide +kernel
theorem lea_ok : (rFn (oneF leaC) 0).1 = 0 := by decide +kernel
theorem lea_run (a b : Int) : EndsAs leaC a b (if a < b then a else b) 0 := by
  by_cases h : a < b
  · rw [if_pos h]
    refine ends_of (s' := ⟨99993, [a], [], List.replicate 64 0, [false], []⟩) lea_tok lea_nest lea_ok (by decide) ?_ (by rfl)
    refine Rn.on (s' := mk 99999 [a] 1 [a, b]) (by kernel_rfl) ?_
    refine Rn.on (s' := mk 99998 [a, b] 2 [a, b]) (by kernel_rfl) ?_
    refine Rn.on (s' := mk 99997 [if (a : Int) < b then 1 else 0] 3 [a, b]) (by kernel_rfl) ?_
    rw [show (if (a : Int) < b then 1 else 0 : Int) = 1 from if_pos h]
    refine Rn.on (s' := mk 99996 [] 4 [a, b]) (by kernel_rfl) ?_
    refine Rn.on (s' := mk 99995 [a] 5 [a, b]) (by kernel_rfl) ?_
    refine Rn.on (s' := mk 99994 [a] 7 [a, b]) (by kernel_rfl) ?_
    refine Rn.on (s' := mk 99993 [a] 8 [a, b]) (by kernel_rfl) ?_
    refine Rn.on (s' := ⟨99993, [a], [], List.replicate 64 0, [false], []⟩) (by kernel_rfl) ?_
    exact Rn.stop (by kernel_rfl)
  · rw [if_neg h]
    refine ends_of (s' := ⟨99994, [b], [], List.replicate 64 0, [false], []⟩) lea_tok lea_nest lea_ok (by decide) ?_ (by rfl)
    refine Rn.on (s' := mk 99999 [a] 1 [a, b]) (by kernel_rfl) ?_
    refine Rn.on (s' := mk 99998 [a, b] 2 [a, b]) (by kernel_rfl) ?_
    refine Rn.on (s' := mk 99997 [if (a : Int) < b then 1 else 0] 3 [a, b]) (by kernel_rfl) ?_
    rw [show (if (a : Int) < b then 1 else 0 : Int) = 0 from if_neg h]
    refine Rn.on (s' := mk 99996 [] 6 [a, b]) (by kernel_rfl) ?_
    refine Rn.on (s' := mk 99995 [b] 7 [a, b]) (by kernel_rfl) ?_
    refine Rn.on (s' := mk 99994 [b] 8 [a, b]) (by kernel_rfl) ?_
    refine Rn.on (s' := ⟨99994, [b], [], List.replicate 64 0, [false], []⟩) (by kernel_rfl) ?_
    exact Rn.stop (by kernel_rfl)
def greC : ByteArray := ⟨#[97, 98, 60, 63, 98, 58, 97, 59]⟩
def greT : List TkV := [⟨97, 0, 0⟩, ⟨98, 0, 0⟩, ⟨60, 0, 0⟩, ⟨63, 0, 0⟩, ⟨98, 0, 0⟩, ⟨58, 0, 0⟩, ⟨97, 0, 0⟩, ⟨59, 0, 0⟩]
def greG : List Int := [(-1), (-1), (-1), 6, (-1), 7, (-1), (-1)]
theorem gre_tok : tokR greC = some greT := by kernel_rfl
theorem gre_nest : (rNest (signs greT)).map (·.1) = some greG := by decide +kernel
theorem gre_ok : (rFn (oneF greC) 0).1 = 0 := by decide +kernel
theorem gre_run (a b : Int) : EndsAs greC a b (if a < b then b else a) 0 := by
  by_cases h : a < b
  · rw [if_pos h]
    refine ends_of (s' := ⟨99993, [b], [], List.replicate 64 0, [false], []⟩) gre_tok gre_nest gre_ok (by decide) ?_ (by rfl)
    refine Rn.on (s' := mk 99999 [a] 1 [a, b]) (by kernel_rfl) ?_
    refine Rn.on (s' := mk 99998 [a, b] 2 [a, b]) (by kernel_rfl) ?_
    refine Rn.on (s' := mk 99997 [if (a : Int) < b then 1 else 0] 3 [a, b]) (by kernel_rfl) ?_
    rw [show (if (a : Int) < b then 1 else 0 : Int) = 1 from if_pos h]
    refine Rn.on (s' := mk 99996 [] 4 [a, b]) (by kernel_rfl) ?_
    refine Rn.on (s' := mk 99995 [b] 5 [a, b]) (by kernel_rfl) ?_
    refine Rn.on (s' := mk 99994 [b] 7 [a, b]) (by kernel_rfl) ?_
    refine Rn.on (s' := mk 99993 [b] 8 [a, b]) (by kernel_rfl) ?_
    refine Rn.on (s' := ⟨99993, [b], [], List.replicate 64 0, [false], []⟩) (by kernel_rfl) ?_
    exact Rn.stop (by kernel_rfl)
  · rw [if_neg h]
    refine ends_of (s' := ⟨99994, [a], [], List.replicate 64 0, [false], []⟩) gre_tok gre_nest gre_ok (by decide) ?_ (by rfl)
    refine Rn.on (s' := mk 99999 [a] 1 [a, b]) (by kernel_rfl) ?_
    refine Rn.on (s' := mk 99998 [a, b] 2 [a, b]) (by kernel_rfl) ?_
    refine Rn.on (s' := mk 99997 [if (a : Int) < b then 1 else 0] 3 [a, b]) (by kernel_rfl) ?_
    rw [show (if (a : Int) < b then 1 else 0 : Int) = 0 from if_neg h]
    refine Rn.on (s' := mk 99996 [] 6 [a, b]) (by kernel_rfl) ?_
    refine Rn.on (s' := mk 99995 [a] 7 [a, b]) (by kernel_rfl) ?_
    refine Rn.on (s' := mk 99994 [a] 8 [a, b]) (by kernel_rfl) ?_
    refine Rn.on (s' := ⟨99994, [a], [], List.replicate 64 0, [false], []⟩) (by kernel_rfl) ?_
    exact Rn.stop (by kernel_rfl)
def ariC : ByteArray := ⟨#[97, 98, 60, 67, 32, 99, 97, 42, 99, 33, 98, 42, 43]⟩
def ariT : List TkV := [⟨97, 0, 0⟩, ⟨98, 0, 0⟩, ⟨60, 0, 0⟩, ⟨67, 0, 0⟩, ⟨99, 0, 0⟩, ⟨97, 0, 0⟩, ⟨42, 0, 0⟩, ⟨99, 0, 0⟩, ⟨33, 0, 0⟩, ⟨98, 0, 0⟩, ⟨42, 0, 0⟩, ⟨43, 0, 0⟩]
def ariG : List Int := [(-1), (-1), (-1), (-1), (-1), (-1), (-1), (-1), (-1), (-1), (-1), (-1)]
theorem ari_tok : tokR ariC = some ariT := by kernel_rfl
theorem ari_nest : (rNest (signs ariT)).map (·.1) = some ariG := by decide +kernel
theorem ari_ok : (rFn (oneF ariC) 0).1 = 0 := by decide +kernel
theorem ari_run (a b : Int) (ha : -9223372036854775808 ≤ a ∧ a ≤ 9223372036854775807) (hb : -9223372036854775808 ≤ b ∧ b ≤ 9223372036854775807) : EndsAs ariC a b (if a < b then a else b) 0 := by
  by_cases h : a < b
  · rw [if_pos h]
    have HA : wrap64 (1 * a) = a := by rw [Int.one_mul]; exact IntWalk.wrap64_in _ (by omega)
    have HB : wrap64 (0 * b) = 0 := by rw [Int.zero_mul]; exact IntWalk.wrap64_in 0 (by omega)
    have HC : wrap64 (a + 0) = a := by rw [Int.add_zero]; exact IntWalk.wrap64_in _ (by omega)
    refine ends_of (s' := ⟨99988, [a], [], List.replicate 64 0, [false], []⟩) ari_tok ari_nest ari_ok (by decide) ?_ (by rfl)
    refine Rn.on (s' := mk 99999 [a] 1 [a, b, 0]) (by kernel_rfl) ?_
    refine Rn.on (s' := mk 99998 [a, b] 2 [a, b, 0]) (by kernel_rfl) ?_
    refine Rn.on (s' := mk 99997 [if (a : Int) < b then 1 else 0] 3 [a, b, 0]) (by kernel_rfl) ?_
    rw [show (if (a : Int) < b then 1 else 0 : Int) = 1 from if_pos h]
    refine Rn.on (s' := mk 99996 [] 4 [a, b, 1]) (by kernel_rfl) ?_
    refine Rn.on (s' := mk 99995 [1] 5 [a, b, 1]) (by kernel_rfl) ?_
    refine Rn.on (s' := mk 99994 [1, a] 6 [a, b, 1]) (by kernel_rfl) ?_
    refine Rn.on (s' := mk 99993 [wrap64 (1 * a)] 7 [a, b, 1]) (by kernel_rfl) ?_
    rw [show (wrap64 (1 * a) : Int) = a from HA]
    refine Rn.on (s' := mk 99992 [a, 1] 8 [a, b, 1]) (by kernel_rfl) ?_
    refine Rn.on (s' := mk 99991 [a, if (1 : Int) = 0 then 1 else 0] 9 [a, b, 1]) (by kernel_rfl) ?_
    rw [show (if (1 : Int) = 0 then 1 else 0 : Int) = 0 from rfl]
    refine Rn.on (s' := mk 99990 [a, 0, b] 10 [a, b, 1]) (by kernel_rfl) ?_
    refine Rn.on (s' := mk 99989 [a, wrap64 (0 * b)] 11 [a, b, 1]) (by kernel_rfl) ?_
    rw [show (wrap64 (0 * b) : Int) = 0 from HB]
    refine Rn.on (s' := mk 99988 [wrap64 (a + 0)] 12 [a, b, 1]) (by kernel_rfl) ?_
    rw [show (wrap64 (a + 0) : Int) = a from HC]
    refine Rn.on (s' := ⟨99988, [a], [], List.replicate 64 0, [false], []⟩) (by kernel_rfl) ?_
    exact Rn.stop (by kernel_rfl)
  · rw [if_neg h]
    have HA : wrap64 (0 * a) = 0 := by rw [Int.zero_mul]; exact IntWalk.wrap64_in 0 (by omega)
    have HB : wrap64 (1 * b) = b := by rw [Int.one_mul]; exact IntWalk.wrap64_in _ (by omega)
    have HC : wrap64 (0 + b) = b := by rw [Int.zero_add]; exact IntWalk.wrap64_in _ (by omega)
    refine ends_of (s' := ⟨99988, [b], [], List.replicate 64 0, [false], []⟩) ari_tok ari_nest ari_ok (by decide) ?_ (by rfl)
    refine Rn.on (s' := mk 99999 [a] 1 [a, b, 0]) (by kernel_rfl) ?_
    refine Rn.on (s' := mk 99998 [a, b] 2 [a, b, 0]) (by kernel_rfl) ?_
    refine Rn.on (s' := mk 99997 [if (a : Int) < b then 1 else 0] 3 [a, b, 0]) (by kernel_rfl) ?_
    rw [show (if (a : Int) < b then 1 else 0 : Int) = 0 from if_neg h]
    refine Rn.on (s' := mk 99996 [] 4 [a, b, 0]) (by kernel_rfl) ?_
    refine Rn.on (s' := mk 99995 [0] 5 [a, b, 0]) (by kernel_rfl) ?_
    refine Rn.on (s' := mk 99994 [0, a] 6 [a, b, 0]) (by kernel_rfl) ?_
    refine Rn.on (s' := mk 99993 [wrap64 (0 * a)] 7 [a, b, 0]) (by kernel_rfl) ?_
    rw [show (wrap64 (0 * a) : Int) = 0 from HA]
    refine Rn.on (s' := mk 99992 [0, 0] 8 [a, b, 0]) (by kernel_rfl) ?_
    refine Rn.on (s' := mk 99991 [0, if (0 : Int) = 0 then 1 else 0] 9 [a, b, 0]) (by kernel_rfl) ?_
    rw [show (if (0 : Int) = 0 then 1 else 0 : Int) = 1 from rfl]
    refine Rn.on (s' := mk 99990 [0, 1, b] 10 [a, b, 0]) (by kernel_rfl) ?_
    refine Rn.on (s' := mk 99989 [0, wrap64 (1 * b)] 11 [a, b, 0]) (by kernel_rfl) ?_
    rw [show (wrap64 (1 * b) : Int) = b from HB]
    refine Rn.on (s' := mk 99988 [wrap64 (0 + b)] 12 [a, b, 0]) (by kernel_rfl) ?_
    rw [show (wrap64 (0 + b) : Int) = b from HC]
    refine Rn.on (s' := ⟨99988, [b], [], List.replicate 64 0, [false], []⟩) (by kernel_rfl) ?_
    exact Rn.stop (by kernel_rfl)
end Go.Proofs.Ytnohfdojcdhfoaa
