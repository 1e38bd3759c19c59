/-
  The greatest square root: the run.
-/
import Derived.Test.YtnohfdojcdhfoaaZTopRun1
import Derived.Test.YtnohfdojcdhfoaaZTopRun2
import Derived.Test.YtnohfdojcdhfoaaZTopRun3
import Derived.Test.YtnohfdojcdhfoaaZTopRun4
import Derived.Test.YtnohfdojcdhfoaaZTopRun5
import Derived.Test.YtnohfdojcdhfoaaZTopRun6
import Derived.Test.YtnohfdojcdhfoaaZTopRun7
import Derived.Test.YtnohfdojcdhfoaaZTopRun8
import Derived.Test.YtnohfdojcdhfoaaZTopRun9
import Derived.Test.YtnohfdojcdhfoaaFrameZ
import Derived.Test.YtnohfdojcdhfoaaTopRunZ
import Derived.Test.YtnohfdojcdhfoaaTopAwakeZ
import Derived.Test.YtnohfdojcdhfoaaTopMaskZ
import Derived.Test.YtnohfdojcdhfoaaTopMemZ
namespace Go.Proofs.Ytnohfdojcdhfoaa
open Go.RowKit
def rooC : ByteArray := ⟨#[48, 67, 49, 32, 50, 49, 194, 171, 68, 91, 100, 32, 99, 45, 49, 61, 63, 126, 59, 99, 100, 43, 50, 47, 66, 98, 98, 42, 97, 60, 98, 98, 42, 97, 61, 124, 63, 98, 67, 58, 98, 68, 59, 93, 99]⟩
def rooT : List TkV := [⟨48, 0, 0⟩, ⟨67, 0, 0⟩, ⟨48, 1, 0⟩, ⟨48, 21, 0⟩, ⟨171, 0, 0⟩, ⟨68, 0, 0⟩, ⟨91, 0, 0⟩, ⟨100, 0, 0⟩, ⟨99, 0, 0⟩, ⟨45, 0, 0⟩, ⟨48, 1, 0⟩, ⟨61, 0, 0⟩, ⟨63, 0, 0⟩, ⟨126, 0, 0⟩, ⟨59, 0, 0⟩, ⟨99, 0, 0⟩, ⟨100, 0, 0⟩, ⟨43, 0, 0⟩, ⟨48, 2, 0⟩, ⟨47, 0, 0⟩, ⟨66, 0, 0⟩, ⟨98, 0, 0⟩, ⟨98, 0, 0⟩, ⟨42, 0, 0⟩, ⟨97, 0, 0⟩, ⟨60, 0, 0⟩, ⟨98, 0, 0⟩, ⟨98, 0, 0⟩, ⟨42, 0, 0⟩, ⟨97, 0, 0⟩, ⟨61, 0, 0⟩, ⟨124, 0, 0⟩, ⟨63, 0, 0⟩, ⟨98, 0, 0⟩, ⟨67, 0, 0⟩, ⟨58, 0, 0⟩, ⟨98, 0, 0⟩, ⟨68, 0, 0⟩, ⟨59, 0, 0⟩, ⟨93, 0, 0⟩, ⟨99, 0, 0⟩]
def rooG : List Int := [(-1), (-1), (-1), (-1), (-1), (-1), (-1), (-1), (-1), (-1), (-1), (-1), 14, 40, (-1), (-1), (-1), (-1), (-1), (-1), (-1), (-1), (-1), (-1), (-1), (-1), (-1), (-1), (-1), (-1), (-1), (-1), 36, (-1), (-1), 38, (-1), (-1), (-1), 6, (-1)]
theorem roo_tok : tokR rooC = some rooT := by kernel_rfl
theorem roo_nest : (rNest (signs rooT)).map (·.1) = some rooG := by decide +kernel
theorem roo_ok : (rFn (oneF rooC) 0).1 = 0 := by decide +kernel
theorem roo_lo {f : Nat} {r : Int × EgV} {a b c d e s m p u v : Int} (HE : wrap64 (d - c) = e) (he : e ≠ 1) (HS : wrap64 (c + d) = s) (HD : doR 47 s 2 = (m, 0)) (HP : wrap64 (m * m) = p) (HU : (if p < a then 1 else 0 : Int) = u) (HV : (if p = a then 1 else 0 : Int) = v) (HO : bits .or .i64 u v = 1) (h : Rn (oneF rooC) [⟨2, rooT, rooG⟩] [] 8 (mk f [] 6 [a, m, m, d]) r) : Rn (oneF rooC) [⟨2, rooT, rooG⟩] [] 8 (mk (f + 31) [] 6 [a, b, c, d]) r := by
  refine Rn.on (s' := mk (f + 30) [] 7 [a, b, c, d]) (by kernel_rfl) ?_
  refine Rn.on (s' := mk (f + 29) [d] 8 [a, b, c, d]) (by kernel_rfl) ?_
  refine Rn.on (s' := mk (f + 28) [d, c] 9 [a, b, c, d]) (by kernel_rfl) ?_
  refine Rn.on (s' := mk (f + 27) [wrap64 (d - c)] 10 [a, b, c, d]) (by kernel_rfl) ?_
  rw [show (wrap64 (d - c) : Int) = e from HE]
  refine Rn.on (s' := mk (f + 26) [e, 1] 11 [a, b, c, d]) (by kernel_rfl) ?_
  refine Rn.on (s' := mk (f + 25) [if (e : Int) = 1 then 1 else 0] 12 [a, b, c, d]) (by kernel_rfl) ?_
  rw [show (if (e : Int) = 1 then 1 else 0 : Int) = 0 from if_neg he]
  refine Rn.on (s' := mk (f + 24) [] 14 [a, b, c, d]) (by kernel_rfl) ?_
  refine Rn.on (s' := mk (f + 23) [] 15 [a, b, c, d]) (by kernel_rfl) ?_
  refine Rn.on (s' := mk (f + 22) [c] 16 [a, b, c, d]) (by kernel_rfl) ?_
  refine Rn.on (s' := mk (f + 21) [c, d] 17 [a, b, c, d]) (by kernel_rfl) ?_
  refine Rn.on (s' := mk (f + 20) [wrap64 (c + d)] 18 [a, b, c, d]) (by kernel_rfl) ?_
  rw [show (wrap64 (c + d) : Int) = s from HS]
  refine Rn.on (s' := mk (f + 19) [s, 2] 19 [a, b, c, d]) (by kernel_rfl) ?_
  refine Rn.on (s' := mk (f + 18) [m] 20 [a, b, c, d]) (step_rk (f + 18) [] s 2 m 19 [a, b, c, d] (List.replicate 64 0) [false] [] (by kernel_rfl) (by kernel_rfl) (by decide) rfl rfl (by decide) (HD)) ?_
  refine Rn.on (s' := mk (f + 17) [] 21 [a, m, c, d]) (by kernel_rfl) ?_
  refine Rn.on (s' := mk (f + 16) [m] 22 [a, m, c, d]) (by kernel_rfl) ?_
  refine Rn.on (s' := mk (f + 15) [m, m] 23 [a, m, c, d]) (by kernel_rfl) ?_
  refine Rn.on (s' := mk (f + 14) [wrap64 (m * m)] 24 [a, m, c, d]) (by kernel_rfl) ?_
  rw [show (wrap64 (m * m) : Int) = p from HP]
  refine Rn.on (s' := mk (f + 13) [p, a] 25 [a, m, c, d]) (by kernel_rfl) ?_
  refine Rn.on (s' := mk (f + 12) [if (p : Int) < a then 1 else 0] 26 [a, m, c, d]) (by kernel_rfl) ?_
  rw [show (if (p : Int) < a then 1 else 0 : Int) = u from HU]
  refine Rn.on (s' := mk (f + 11) [u, m] 27 [a, m, c, d]) (by kernel_rfl) ?_
  refine Rn.on (s' := mk (f + 10) [u, m, m] 28 [a, m, c, d]) (by kernel_rfl) ?_
  refine Rn.on (s' := mk (f + 9) [u, wrap64 (m * m)] 29 [a, m, c, d]) (by kernel_rfl) ?_
  rw [show (wrap64 (m * m) : Int) = p from HP]
  refine Rn.on (s' := mk (f + 8) [u, p, a] 30 [a, m, c, d]) (by kernel_rfl) ?_
  refine Rn.on (s' := mk (f + 7) [u, if (p : Int) = a then 1 else 0] 31 [a, m, c, d]) (by kernel_rfl) ?_
  rw [show (if (p : Int) = a then 1 else 0 : Int) = v from HV]
  refine Rn.on (s' := mk (f + 6) [bits .or .i64 (u) (v)] 32 [a, m, c, d]) (by kernel_rfl) ?_
  rw [show (bits .or .i64 (u) (v) : Int) = 1 from HO]
  refine Rn.on (s' := mk (f + 5) [] 33 [a, m, c, d]) (by kernel_rfl) ?_
  refine Rn.on (s' := mk (f + 4) [m] 34 [a, m, c, d]) (by kernel_rfl) ?_
  refine Rn.on (s' := mk (f + 3) [] 35 [a, m, m, d]) (by kernel_rfl) ?_
  refine Rn.on (s' := mk (f + 2) [] 38 [a, m, m, d]) (by kernel_rfl) ?_
  refine Rn.on (s' := mk (f + 1) [] 39 [a, m, m, d]) (by kernel_rfl) ?_
  refine Rn.on (s' := mk f [] 6 [a, m, m, d]) (by kernel_rfl) ?_
  exact h
theorem roo_hi {f : Nat} {r : Int × EgV} {a b c d e s m p u v : Int} (HE : wrap64 (d - c) = e) (he : e ≠ 1) (HS : wrap64 (c + d) = s) (HD : doR 47 s 2 = (m, 0)) (HP : wrap64 (m * m) = p) (HU : (if p < a then 1 else 0 : Int) = u) (HV : (if p = a then 1 else 0 : Int) = v) (HO : bits .or .i64 u v = 0) (h : Rn (oneF rooC) [⟨2, rooT, rooG⟩] [] 8 (mk f [] 6 [a, m, c, m]) r) : Rn (oneF rooC) [⟨2, rooT, rooG⟩] [] 8 (mk (f + 30) [] 6 [a, b, c, d]) r := by
  refine Rn.on (s' := mk (f + 29) [] 7 [a, b, c, d]) (by kernel_rfl) ?_
  refine Rn.on (s' := mk (f + 28) [d] 8 [a, b, c, d]) (by kernel_rfl) ?_
  refine Rn.on (s' := mk (f + 27) [d, c] 9 [a, b, c, d]) (by kernel_rfl) ?_
  refine Rn.on (s' := mk (f + 26) [wrap64 (d - c)] 10 [a, b, c, d]) (by kernel_rfl) ?_
  rw [show (wrap64 (d - c) : Int) = e from HE]
  refine Rn.on (s' := mk (f + 25) [e, 1] 11 [a, b, c, d]) (by kernel_rfl) ?_
  refine Rn.on (s' := mk (f + 24) [if (e : Int) = 1 then 1 else 0] 12 [a, b, c, d]) (by kernel_rfl) ?_
  rw [show (if (e : Int) = 1 then 1 else 0 : Int) = 0 from if_neg he]
  refine Rn.on (s' := mk (f + 23) [] 14 [a, b, c, d]) (by kernel_rfl) ?_
  refine Rn.on (s' := mk (f + 22) [] 15 [a, b, c, d]) (by kernel_rfl) ?_
  refine Rn.on (s' := mk (f + 21) [c] 16 [a, b, c, d]) (by kernel_rfl) ?_
  refine Rn.on (s' := mk (f + 20) [c, d] 17 [a, b, c, d]) (by kernel_rfl) ?_
  refine Rn.on (s' := mk (f + 19) [wrap64 (c + d)] 18 [a, b, c, d]) (by kernel_rfl) ?_
  rw [show (wrap64 (c + d) : Int) = s from HS]
  refine Rn.on (s' := mk (f + 18) [s, 2] 19 [a, b, c, d]) (by kernel_rfl) ?_
  refine Rn.on (s' := mk (f + 17) [m] 20 [a, b, c, d]) (step_rk (f + 17) [] s 2 m 19 [a, b, c, d] (List.replicate 64 0) [false] [] (by kernel_rfl) (by kernel_rfl) (by decide) rfl rfl (by decide) (HD)) ?_
  refine Rn.on (s' := mk (f + 16) [] 21 [a, m, c, d]) (by kernel_rfl) ?_
  refine Rn.on (s' := mk (f + 15) [m] 22 [a, m, c, d]) (by kernel_rfl) ?_
  refine Rn.on (s' := mk (f + 14) [m, m] 23 [a, m, c, d]) (by kernel_rfl) ?_
  refine Rn.on (s' := mk (f + 13) [wrap64 (m * m)] 24 [a, m, c, d]) (by kernel_rfl) ?_
  rw [show (wrap64 (m * m) : Int) = p from HP]
  refine Rn.on (s' := mk (f + 12) [p, a] 25 [a, m, c, d]) (by kernel_rfl) ?_
  refine Rn.on (s' := mk (f + 11) [if (p : Int) < a then 1 else 0] 26 [a, m, c, d]) (by kernel_rfl) ?_
  rw [show (if (p : Int) < a then 1 else 0 : Int) = u from HU]
  refine Rn.on (s' := mk (f + 10) [u, m] 27 [a, m, c, d]) (by kernel_rfl) ?_
  refine Rn.on (s' := mk (f + 9) [u, m, m] 28 [a, m, c, d]) (by kernel_rfl) ?_
  refine Rn.on (s' := mk (f + 8) [u, wrap64 (m * m)] 29 [a, m, c, d]) (by kernel_rfl) ?_
  rw [show (wrap64 (m * m) : Int) = p from HP]
  refine Rn.on (s' := mk (f + 7) [u, p, a] 30 [a, m, c, d]) (by kernel_rfl) ?_
  refine Rn.on (s' := mk (f + 6) [u, if (p : Int) = a then 1 else 0] 31 [a, m, c, d]) (by kernel_rfl) ?_
  rw [show (if (p : Int) = a then 1 else 0 : Int) = v from HV]
  refine Rn.on (s' := mk (f + 5) [bits .or .i64 (u) (v)] 32 [a, m, c, d]) (by kernel_rfl) ?_
  rw [show (bits .or .i64 (u) (v) : Int) = 0 from HO]
  refine Rn.on (s' := mk (f + 4) [] 36 [a, m, c, d]) (by kernel_rfl) ?_
  refine Rn.on (s' := mk (f + 3) [m] 37 [a, m, c, d]) (by kernel_rfl) ?_
  refine Rn.on (s' := mk (f + 2) [] 38 [a, m, c, m]) (by kernel_rfl) ?_
  refine Rn.on (s' := mk (f + 1) [] 39 [a, m, c, m]) (by kernel_rfl) ?_
  refine Rn.on (s' := mk f [] 6 [a, m, c, m]) (by kernel_rfl) ?_
  exact h
theorem roo_end {f : Nat} {a b c d : Int} (HE : wrap64 (d - c) = 1) : Rn (oneF rooC) [⟨2, rooT, rooG⟩] [] 8 (mk (f + 9) [] 6 [a, b, c, d]) (0, ⟨f, [c], [], List.replicate 64 0, [false], []⟩) := by
  refine Rn.on (s' := mk (f + 8) [] 7 [a, b, c, d]) (by kernel_rfl) ?_
  refine Rn.on (s' := mk (f + 7) [d] 8 [a, b, c, d]) (by kernel_rfl) ?_
  refine Rn.on (s' := mk (f + 6) [d, c] 9 [a, b, c, d]) (by kernel_rfl) ?_
  refine Rn.on (s' := mk (f + 5) [wrap64 (d - c)] 10 [a, b, c, d]) (by kernel_rfl) ?_
  rw [show (wrap64 (d - c) : Int) = 1 from HE]
  refine Rn.on (s' := mk (f + 4) [1, 1] 11 [a, b, c, d]) (by kernel_rfl) ?_
  refine Rn.on (s' := mk (f + 3) [if (1 : Int) = 1 then 1 else 0] 12 [a, b, c, d]) (by kernel_rfl) ?_
  rw [show (if (1 : Int) = 1 then 1 else 0 : Int) = 1 from rfl]
  refine Rn.on (s' := mk (f + 2) [] 13 [a, b, c, d]) (by kernel_rfl) ?_
  refine Rn.on (s' := mk (f + 1) [] 40 [a, b, c, d]) (by kernel_rfl) ?_
  refine Rn.on (s' := mk f [c] 41 [a, b, c, d]) (by kernel_rfl) ?_
  refine Rn.on (s' := ⟨f, [c], [], List.replicate 64 0, [false], []⟩) (by kernel_rfl) ?_
  exact Rn.stop (by kernel_rfl)
theorem roo_pre {f : Nat} {r : Int × EgV} {a b : Int} (h : Rn (oneF rooC) [⟨2, rooT, rooG⟩] [] 8 (mk f [] 6 [a, b, 0, 2097152]) r) : Rn (oneF rooC) [⟨2, rooT, rooG⟩] [] 8 (mk (f + 6) [] 0 [a, b, 0, 0]) r := by
  refine Rn.on (s' := mk (f + 5) [0] 1 [a, b]) (by kernel_rfl) ?_
  refine Rn.on (s' := mk (f + 4) [] 2 [a, b, 0]) (by kernel_rfl) ?_
  refine Rn.on (s' := mk (f + 3) [1] 3 [a, b, 0]) (by kernel_rfl) ?_
  refine Rn.on (s' := mk (f + 2) [1, 21] 4 [a, b, 0]) (by kernel_rfl) ?_
  refine Rn.on (s' := mk (f + 1) [wrap64 (1 * 2 ^ ((21 : Int) % 64).toNat)] 5 [a, b, 0]) (by kernel_rfl) ?_
  rw [show (wrap64 (1 * 2 ^ ((21 : Int) % 64).toNat) : Int) = 2097152 from by kernel_rfl]
  refine Rn.on (s' := mk f [] 6 [a, b, 0, 2097152]) (by kernel_rfl) ?_
  exact h
theorem roo_loop (a : Nat) : ∀ (j c : Nat) (b : Int) (f : Nat), c * c ≤ a → a < (c + 2 ^ j) * (c + 2 ^ j) → c + 2 ^ j ≤ 2097152 → 31 * j + 9 ≤ f → ∃ (v : Nat) (s' : EgV), Rn (oneF rooC) [⟨2, rooT, rooG⟩] [] 8 (mk f [] 6 [(a : Int), b, (c : Int), ((c + 2 ^ j : Nat) : Int)]) (0, s') ∧ s'.st.getLast? = some (v : Int) ∧ v * v ≤ a ∧ a < (v + 1) * (v + 1) ∧ v < 2097152
  | 0, c, b, f, h1, h2, h3, hf => by
    obtain ⟨f, rfl⟩ : ∃ g, f = g + 9 := ⟨f - 9, by omega⟩
    exact ⟨c, _, roo_end (by rw [show ((c + 2 ^ 0 : Nat) : Int) - (c : Int) = 1 from by omega]; kernel_rfl), rfl, h1, h2, by omega⟩
  | j + 1, c, b, f, h1, h2, h3, hf => by
    have hp : 0 < 2 ^ j := Nat.pow_pos (by decide)
    have hps : 2 ^ (j + 1) = 2 ^ j + 2 ^ j := by rw [Nat.pow_succ]; omega
    rw [hps] at h2 h3 ⊢
    generalize TJ : 2 ^ j = t at *
    have HE : wrap64 (((c + (t + t) : Nat) : Int) - (c : Int)) = ((t + t : Nat) : Int) := by rw [IntWalk.wrap64_in _ (by omega)]; omega
    have HS : wrap64 ((c : Int) + ((c + (t + t) : Nat) : Int)) = (((c + t) + (c + t) : Nat) : Int) := by rw [IntWalk.wrap64_in _ (by omega)]; omega
    have HD : doR 47 (((c + t) + (c + t) : Nat) : Int) 2 = (((c + t : Nat) : Int), 0) := by
      rw [doR_quo _ (by decide) (by decide), Int.tdiv_eq_ediv_of_nonneg (by omega), show (((c + t) + (c + t) : Nat) : Int) / 2 = ((c + t : Nat) : Int) from by omega, IntWalk.wrap64_in _ (by omega)]
    have hmm : (c + t) * (c + t) ≤ 2097152 * 2097152 := Nat.mul_le_mul (by omega) (by omega)
    have HP : wrap64 (((c + t : Nat) : Int) * ((c + t : Nat) : Int)) = (((c + t) * (c + t) : Nat) : Int) := by rw [← Int.natCast_mul]; exact IntWalk.wrap64_in _ (by omega)
    by_cases hc : (c + t) * (c + t) ≤ a
    · obtain ⟨f, rfl⟩ : ∃ g, f = g + 31 := ⟨f - 31, by omega⟩
      obtain ⟨v, s', hs, hl⟩ := roo_loop a j (c + t) ((c + t : Nat) : Int) f hc (by rw [TJ, Nat.add_assoc]; exact h2) (by rw [TJ]; omega) (by omega)
      refine ⟨v, s', roo_lo HE (by omega) HS HD HP rfl rfl ?_ (by rw [TJ, Nat.add_assoc] at hs; exact hs), hl⟩
      by_cases he : (c + t) * (c + t) = a
      · rw [if_neg (by omega), if_pos (by omega)]; decide
      · rw [if_pos (by omega), if_neg (by omega)]; decide
    · obtain ⟨f, rfl⟩ : ∃ g, f = g + 30 := ⟨f - 30, by omega⟩
      obtain ⟨v, s', hs, hl⟩ := roo_loop a j c ((c + t : Nat) : Int) f h1 (by rw [TJ]; omega) (by rw [TJ]; omega) (by omega)
      refine ⟨v, s', roo_hi HE (by omega) HS HD HP rfl rfl ?_ (by rw [TJ] at hs; exact hs), hl⟩
      rw [if_neg (by omega), if_neg (by omega)]; decide
theorem roo_run (a : Nat) (ha : a < 1099511627776) : ∃ v : Nat, EndsAs rooC (a : Int) 0 (v : Int) 0 ∧ v * v ≤ a ∧ a < (v + 1) * (v + 1) ∧ v < 2097152 := by
  obtain ⟨v, s', hs, hl, h⟩ := roo_loop a 21 0 0 99994 (by omega) (by omega) (by omega) (by omega)
  exact ⟨v, ends_of roo_tok roo_nest roo_ok (by decide) (s' := s') (roo_pre hs) hl, h⟩
end Go.Proofs.Ytnohfdojcdhfoaa
