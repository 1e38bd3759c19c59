/-
  Runs of a code of one function.
-/
import Derived.Test.YtnohfdojcdhfoaaZTopRun1
import Derived.Test.YtnohfdojcdhfoaaZTopRun2
import Derived.Test.YtnohfdojcdhfoaaZTopRun3
import Derived.Test.YtnohfdojcdhfoaaZTopRun4
import Derived.Test.YtnohfdojcdhfoaaZTopRun5
import Derived.Test.YtnohfdojcdhfoaaZTopRun6
import Derived.Test.YtnohfdojcdhfoaaZTopRun7
import Derived.Test.YtnohfdojcdhfoaaZTopRun8
import Derived.Test.YtnohfdojcdhfoaaZTopRun9
import Derived.Test.YtnohfdojcdhfoaaFrameZ
namespace Go.Proofs.Ytnohfdojcdhfoaa
open Go.RowKit
/-- One call, with fuel, stack, place and the first locals. -/
def mk (f : Nat) (st : List Int) (pc : Nat) (loc : List Int) : EgV := ⟨f, st, [⟨0, pc, loc ++ List.replicate (26 - loc.length) 0⟩], List.replicate 64 0, [false], []⟩
theorem ends_of {code : ByteArray} {ts : List TkV} {go : List Int} (htok : tokR code = some ts) (hnest : (rNest (signs ts)).map (·.1) = some go) (hok : (rFn (oneF code) 0).1 = 0) (hsz : code.size ≤ 1000000) {a b val : Int} {s' : EgV} (hr : Rn (oneF code) [⟨2, ts, go⟩] [] 8 (mk 100000 [] 0 [a, b]) (0, s')) (hv : s'.st.getLast? = some val) : EndsAs code a b val 0 := by
  refine ⟨⟨by decide, by decide, by decide, by simp [oneF], fun k f hf => ?_, fun k hk => ?_, fun f hf => ?_⟩, ?_⟩
  · cases k with
    | zero => simp only [oneF, List.getElem?_cons_zero, Option.some.injEq] at hf; subst hf; exact ⟨by show nameB 102 = true; decide, by simp [findI, findK, oneF], by show (0 : Int) ≤ 2; decide, by show (2 : Int) ≤ 4; decide⟩
    | succ k => simp [oneF] at hf
  · obtain rfl : k = 0 := by simp [oneF] at hk; omega
    exact hok
  · simp only [oneF, List.mem_singleton] at hf
    subst hf
    exact hsz
  · refine ⟨⟨s'.fuel, s'.st.dropLast, s'.cs, s'.L, s'.V, s'.qs⟩, ?_⟩
    have hcd : (oneF code).map codeOf = [⟨2, ts, go⟩] := by
      show [codeOf ⟨102, 2, code⟩] = _
      unfold codeOf
      simp only
      rw [htok]
      simp only
      cases hn : rNest (signs ts) with
      | none => rw [hn] at hnest; cases hnest
      | some R => rw [hn] at hnest; simp only [Option.map_some, Option.some.injEq] at hnest; rw [← hnest]; rfl
    unfold eDo
    rw [hcd]
    rw [show eCall [(⟨2, ts, go⟩ : CodeV)] 0 ⟨100000, [a, b], [], List.replicate 64 0, [false], []⟩ = some (mk 100000 [] 0 [a, b]) from rfl]
    simp only
    rw [hr.run (2 * 100000 + 2) (by show 2 * 100000 + 1 < _; omega)]
    simp only [if_true]
    unfold EgV.pop
    rw [hv]
    rfl
end Go.Proofs.Ytnohfdojcdhfoaa
