/-
  A list of turns of a program as it comes in.
-/
import Derived.Test.YtafgpmempgoikaaZNestWithin1
import Derived.Test.YtafgpmempgoikaaZNestWithin2
import Derived.Test.YtafgpmempgoikaaZNestWithin3
import Derived.Test.YtafgpmempgoikaaZNestWithin4
import Derived.Test.YtafgpmempgoikaaZNestWithin5
import Derived.Test.YtafgpmempgoikaaZNestWithin6
import Derived.Test.YtafgpmempgoikaaFrZ
import Derived.Test.YtafgpmempgoikaaCTakesZ
import Derived.Test.YtafgpmempgoikaaWkMemZ
import Derived.Test.YtafgpmempgoikaaWkHalveZ
import Derived.Test.YtafgpmempgoikaaWkEndZ
import Derived.Test.YtafgpmempgoikaaWkLeaveZ
import Derived.Test.YtafgpmempgoikaaWkTurnZ
import Derived.Test.YtafgpmempgoikaaWkStepZ
import Derived.Test.YtafgpmempgoikaaWkPureZ
import Derived.Test.YtafgpmempgoikaaGl1Z
import Derived.Test.YtafgpmempgoikaaGl2Z
import Derived.Test.YtafgpmempgoikaaGlPureZ
import Derived.Test.YtafgpmempgoikaaGlMemZ
import Derived.Test.YtafgpmempgoikaaGlTakeZ
import Derived.Test.YtafgpmempgoikaaGlTokZ
import Derived.Test.YtafgpmempgoikaaWkFuncZ
import Derived.Test.YtafgpmempgoikaaOddZ
import Derived.Test.YtafgpmempgoikaaOddsZ
import Derived.Test.YtafgpmempgoikaaChkSameZ
import Derived.Test.YtafgpmempgoikaaChkTakesZ
import Derived.Test.YtafgpmempgoikaaChkKnownZ
import Derived.Test.YtafgpmempgoikaaLawChkTZ
import Derived.Test.YtafgpmempgoikaaDRowsZ
namespace Go.Proofs.Ytafgpmempgoikaa
open Go.RowKit Go.ChangeShapes Go.WideShapes Go.Deep
theorem turn_fields : ∃ fs, Try.prog.underlying 57 = some (.struct fs) ∧ oneCellFields Try.prog fs = true ∧ fs.map (·.type) = #[3, 3, 3, 3, 9] :=
  ⟨_, Try.underlying57, by kernel_rfl, by kernel_rfl⟩
theorem five_list {α : Type} {l : List α} (h : l.length = 5) : ∃ a b c d e, l = [a, b, c, d, e] := by
  match l, h with
  | [a, b, c, d, e], _ => exact ⟨a, b, c, d, e, rfl⟩
section
variable {H : Type} {enc : TypeId × Value → H} {w : World} {base : Nat} {held : Bool}
theorem turns_open {fuel : Nat} {cs : List Value} {x : DataW H × List MemPlace} (h : DataW.trod enc Try.prog w base (fun _ => true) held fuel 23 cs = some x) (v : Value) (hv : cs = [v]) :
    ∃ A n c l, v = .slice A n c ∧ Trn w A n l ∧ n ≤ c ∧ c ≤ maxLen := by
  obtain ⟨fs, hu, hone, hty⟩ := turn_fields
  have hfs : fs.size = 5 := by have := congrArg Array.size hty; simpa using this
  obtain ⟨A, n, c, rfl, hnc, hcm, hrow⟩ := rows_open Try.underlying23 hu hone hfs (by kernel_rfl) h v hv
  have key : ∀ i, i < n → ∃ q : TurnV, TurnOk q ∧ ∃ a, A = some a ∧ ∀ j u, (turnC q)[j]? = some u → w.cell? ((a.add (i * 5)).add j) = some u := by
    intro i hi
    obtain ⟨a, us, rfl, hl, hc, hf⟩ := hrow i hi
    obtain ⟨v0, v1, v2, v3, v4, rfl⟩ := five_list hl
    obtain ⟨f0, g0, t0⟩ := rfield_at hty 0 _ rfl
    obtain ⟨f1, g1, t1⟩ := rfield_at hty 1 _ rfl
    obtain ⟨f2, g2, t2⟩ := rfield_at hty 2 _ rfl
    obtain ⟨f3, g3, t3⟩ := rfield_at hty 3 _ rfl
    obtain ⟨f4, g4, t4⟩ := rfield_at hty 4 _ rfl
    obtain ⟨_, _, q0⟩ := hf 0 _ _ g0 rfl
    obtain ⟨_, _, q1⟩ := hf 1 _ _ g1 rfl
    obtain ⟨_, _, q2⟩ := hf 2 _ _ g2 rfl
    obtain ⟨_, _, q3⟩ := hf 3 _ _ g3 rfl
    obtain ⟨_, _, q4⟩ := hf 4 _ _ g4 rfl
    rw [t0] at q0; rw [t1] at q1; rw [t2] at q2; rw [t3] at q3; rw [t4] at q4
    obtain ⟨z0, e0, _, w0⟩ := DataW.trod_int Try.underlying3 q0
    obtain ⟨z1, e1, _, w1⟩ := DataW.trod_int Try.underlying3 q1
    obtain ⟨z2, e2, _, w2⟩ := DataW.trod_int Try.underlying3 q2
    obtain ⟨z3, e3, _, w3⟩ := DataW.trod_int Try.underlying3 q3
    obtain ⟨s4, e4, _, w4⟩ := DataW.trod_string Try.underlying9 q4
    simp only [List.cons.injEq, and_true] at e0 e1 e2 e3 e4
    subst e0 e1 e2 e3 e4
    exact ⟨⟨z0, z1, z2, z3, s4⟩, ⟨arg_i64 w0, arg_i64 w1, arg_i64 w2, arg_i64 w3, w4⟩, a, rfl, hc⟩
  obtain ⟨l, hll, hlx⟩ := dlist_of n key
  obtain ⟨hsrc, hsp⟩ := rows_src (C := turnC) (Cs := turnCs) rfl (fun _ _ => rfl) (fun _ => rfl) (fun _ => ⟨_, _, rfl⟩) hll (fun i x hx => (hlx i x hx).2)
  refine ⟨A, n, c, l, rfl, ⟨hll, hsrc, hsp, fun q hq => ?_⟩, hnc, hcm⟩
  obtain ⟨i, hi, rfl⟩ := List.getElem_of_mem hq
  exact (hlx i _ (List.getElem?_eq_getElem hi)).1
end
end Go.Proofs.Ytafgpmempgoikaa
