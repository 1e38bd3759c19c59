/-
  Prime or not: the run.
-/
import Derived.Test.YtnohfdojcdhfoaaZTopRun1
import Derived.Test.YtnohfdojcdhfoaaZTopRun2
import Derived.Test.YtnohfdojcdhfoaaZTopRun3
import Derived.Test.YtnohfdojcdhfoaaZTopRun4
import Derived.Test.YtnohfdojcdhfoaaZTopRun5
import Derived.Test.YtnohfdojcdhfoaaZTopRun6
import Derived.Test.YtnohfdojcdhfoaaZTopRun7
import Derived.Test.YtnohfdojcdhfoaaZTopRun8
import Derived.Test.YtnohfdojcdhfoaaZTopRun9
import Derived.Test.YtnohfdojcdhfoaaFrameZ
import Derived.Test.YtnohfdojcdhfoaaTopRunZ
import Derived.Test.YtnohfdojcdhfoaaTopAwakeZ
import Derived.Test.YtnohfdojcdhfoaaTopMaskZ
import Derived.Test.YtnohfdojcdhfoaaTopMemZ
namespace Go.Proofs.Ytnohfdojcdhfoaa
open Go.RowKit
def priC : ByteArray := ⟨#[50, 66, 49, 67, 91, 98, 98, 42, 97, 60, 33, 63, 126, 59, 97, 98, 37, 33, 63, 48, 67, 59, 98, 32, 49, 43, 66, 93, 98, 98, 42, 97, 61, 63, 48, 58, 99, 59]⟩
def priT : List TkV := [⟨48, 2, 0⟩, ⟨66, 0, 0⟩, ⟨48, 1, 0⟩, ⟨67, 0, 0⟩, ⟨91, 0, 0⟩, ⟨98, 0, 0⟩, ⟨98, 0, 0⟩, ⟨42, 0, 0⟩, ⟨97, 0, 0⟩, ⟨60, 0, 0⟩, ⟨33, 0, 0⟩, ⟨63, 0, 0⟩, ⟨126, 0, 0⟩, ⟨59, 0, 0⟩, ⟨97, 0, 0⟩, ⟨98, 0, 0⟩, ⟨37, 0, 0⟩, ⟨33, 0, 0⟩, ⟨63, 0, 0⟩, ⟨48, 0, 0⟩, ⟨67, 0, 0⟩, ⟨59, 0, 0⟩, ⟨98, 0, 0⟩, ⟨48, 1, 0⟩, ⟨43, 0, 0⟩, ⟨66, 0, 0⟩, ⟨93, 0, 0⟩, ⟨98, 0, 0⟩, ⟨98, 0, 0⟩, ⟨42, 0, 0⟩, ⟨97, 0, 0⟩, ⟨61, 0, 0⟩, ⟨63, 0, 0⟩, ⟨48, 0, 0⟩, ⟨58, 0, 0⟩, ⟨99, 0, 0⟩, ⟨59, 0, 0⟩]
def priG : List Int := [(-1), (-1), (-1), (-1), (-1), (-1), (-1), (-1), (-1), (-1), (-1), 13, 27, (-1), (-1), (-1), (-1), (-1), 21, (-1), (-1), (-1), (-1), (-1), (-1), (-1), 4, (-1), (-1), (-1), (-1), (-1), 35, (-1), 36, (-1), (-1)]
theorem pri_tok : tokR priC = some priT := by kernel_rfl
theorem pri_nest : (rNest (signs priT)).map (·.1) = some priG := by decide +kernel
theorem pri_ok : (rFn (oneF priC) 0).1 = 0 := by decide +kernel
theorem pri_div {f : Nat} {r : Int × EgV} {a b c s d : Int} (HS : wrap64 (b * b) = s) (hlt : s < a) (HM : doR 37 a b = (0, 0)) (HD : wrap64 (b + 1) = d) (h : Rn (oneF priC) [⟨2, priT, priG⟩] [] 8 (mk f [] 4 [a, d, 0]) r) : Rn (oneF priC) [⟨2, priT, priG⟩] [] 8 (mk (f + 22) [] 4 [a, b, c]) r := by
  refine Rn.on (s' := mk (f + 21) [] 5 [a, b, c]) (by kernel_rfl) ?_
  refine Rn.on (s' := mk (f + 20) [b] 6 [a, b, c]) (by kernel_rfl) ?_
  refine Rn.on (s' := mk (f + 19) [b, b] 7 [a, b, c]) (by kernel_rfl) ?_
  refine Rn.on (s' := mk (f + 18) [wrap64 (b * b)] 8 [a, b, c]) (by kernel_rfl) ?_
  rw [show (wrap64 (b * b) : Int) = s from HS]
  refine Rn.on (s' := mk (f + 17) [s, a] 9 [a, b, c]) (by kernel_rfl) ?_
  refine Rn.on (s' := mk (f + 16) [if (s : Int) < a then 1 else 0] 10 [a, b, c]) (by kernel_rfl) ?_
  rw [show (if (s : Int) < a then 1 else 0 : Int) = 1 from if_pos hlt]
  refine Rn.on (s' := mk (f + 15) [if (1 : Int) = 0 then 1 else 0] 11 [a, b, c]) (by kernel_rfl) ?_
  rw [show (if (1 : Int) = 0 then 1 else 0 : Int) = 0 from rfl]
  refine Rn.on (s' := mk (f + 14) [] 13 [a, b, c]) (by kernel_rfl) ?_
  refine Rn.on (s' := mk (f + 13) [] 14 [a, b, c]) (by kernel_rfl) ?_
  refine Rn.on (s' := mk (f + 12) [a] 15 [a, b, c]) (by kernel_rfl) ?_
  refine Rn.on (s' := mk (f + 11) [a, b] 16 [a, b, c]) (by kernel_rfl) ?_
  refine Rn.on (s' := mk (f + 10) [0] 17 [a, b, c]) (step_rk (f + 10) [] a b 0 16 [a, b, c] (List.replicate 64 0) [false] [] (by kernel_rfl) (by kernel_rfl) (by decide) rfl rfl (by decide) (HM)) ?_
  refine Rn.on (s' := mk (f + 9) [if (0 : Int) = 0 then 1 else 0] 18 [a, b, c]) (by kernel_rfl) ?_
  rw [show (if (0 : Int) = 0 then 1 else 0 : Int) = 1 from rfl]
  refine Rn.on (s' := mk (f + 8) [] 19 [a, b, c]) (by kernel_rfl) ?_
  refine Rn.on (s' := mk (f + 7) [0] 20 [a, b, c]) (by kernel_rfl) ?_
  refine Rn.on (s' := mk (f + 6) [] 21 [a, b, 0]) (by kernel_rfl) ?_
  refine Rn.on (s' := mk (f + 5) [] 22 [a, b, 0]) (by kernel_rfl) ?_
  refine Rn.on (s' := mk (f + 4) [b] 23 [a, b, 0]) (by kernel_rfl) ?_
  refine Rn.on (s' := mk (f + 3) [b, 1] 24 [a, b, 0]) (by kernel_rfl) ?_
  refine Rn.on (s' := mk (f + 2) [wrap64 (b + 1)] 25 [a, b, 0]) (by kernel_rfl) ?_
  rw [show (wrap64 (b + 1) : Int) = d from HD]
  refine Rn.on (s' := mk (f + 1) [] 26 [a, d, 0]) (by kernel_rfl) ?_
  refine Rn.on (s' := mk f [] 4 [a, d, 0]) (by kernel_rfl) ?_
  exact h
theorem pri_not {f : Nat} {r : Int × EgV} {a b c s d m : Int} (HS : wrap64 (b * b) = s) (hlt : s < a) (HM : doR 37 a b = (m, 0)) (hm : m ≠ 0) (HD : wrap64 (b + 1) = d) (h : Rn (oneF priC) [⟨2, priT, priG⟩] [] 8 (mk f [] 4 [a, d, c]) r) : Rn (oneF priC) [⟨2, priT, priG⟩] [] 8 (mk (f + 20) [] 4 [a, b, c]) r := by
  refine Rn.on (s' := mk (f + 19) [] 5 [a, b, c]) (by kernel_rfl) ?_
  refine Rn.on (s' := mk (f + 18) [b] 6 [a, b, c]) (by kernel_rfl) ?_
  refine Rn.on (s' := mk (f + 17) [b, b] 7 [a, b, c]) (by kernel_rfl) ?_
  refine Rn.on (s' := mk (f + 16) [wrap64 (b * b)] 8 [a, b, c]) (by kernel_rfl) ?_
  rw [show (wrap64 (b * b) : Int) = s from HS]
  refine Rn.on (s' := mk (f + 15) [s, a] 9 [a, b, c]) (by kernel_rfl) ?_
  refine Rn.on (s' := mk (f + 14) [if (s : Int) < a then 1 else 0] 10 [a, b, c]) (by kernel_rfl) ?_
  rw [show (if (s : Int) < a then 1 else 0 : Int) = 1 from if_pos hlt]
  refine Rn.on (s' := mk (f + 13) [if (1 : Int) = 0 then 1 else 0] 11 [a, b, c]) (by kernel_rfl) ?_
  rw [show (if (1 : Int) = 0 then 1 else 0 : Int) = 0 from rfl]
  refine Rn.on (s' := mk (f + 12) [] 13 [a, b, c]) (by kernel_rfl) ?_
  refine Rn.on (s' := mk (f + 11) [] 14 [a, b, c]) (by kernel_rfl) ?_
  refine Rn.on (s' := mk (f + 10) [a] 15 [a, b, c]) (by kernel_rfl) ?_
  refine Rn.on (s' := mk (f + 9) [a, b] 16 [a, b, c]) (by kernel_rfl) ?_
  refine Rn.on (s' := mk (f + 8) [m] 17 [a, b, c]) (step_rk (f + 8) [] a b m 16 [a, b, c] (List.replicate 64 0) [false] [] (by kernel_rfl) (by kernel_rfl) (by decide) rfl rfl (by decide) (HM)) ?_
  refine Rn.on (s' := mk (f + 7) [if (m : Int) = 0 then 1 else 0] 18 [a, b, c]) (by kernel_rfl) ?_
  rw [show (if (m : Int) = 0 then 1 else 0 : Int) = 0 from if_neg hm]
  refine Rn.on (s' := mk (f + 6) [] 21 [a, b, c]) (by kernel_rfl) ?_
  refine Rn.on (s' := mk (f + 5) [] 22 [a, b, c]) (by kernel_rfl) ?_
  refine Rn.on (s' := mk (f + 4) [b] 23 [a, b, c]) (by kernel_rfl) ?_
  refine Rn.on (s' := mk (f + 3) [b, 1] 24 [a, b, c]) (by kernel_rfl) ?_
  refine Rn.on (s' := mk (f + 2) [wrap64 (b + 1)] 25 [a, b, c]) (by kernel_rfl) ?_
  rw [show (wrap64 (b + 1) : Int) = d from HD]
  refine Rn.on (s' := mk (f + 1) [] 26 [a, d, c]) (by kernel_rfl) ?_
  refine Rn.on (s' := mk f [] 4 [a, d, c]) (by kernel_rfl) ?_
  exact h
theorem pri_sqr_ {f : Nat} {a b c : Int} (HS : wrap64 (b * b) = a) : Rn (oneF priC) [⟨2, priT, priG⟩] [] 8 (mk (f + 18) [] 4 [a, b, c]) (0, ⟨f, [0], [], List.replicate 64 0, [false], []⟩) := by
  refine Rn.on (s' := mk (f + 17) [] 5 [a, b, c]) (by kernel_rfl) ?_
  refine Rn.on (s' := mk (f + 16) [b] 6 [a, b, c]) (by kernel_rfl) ?_
  refine Rn.on (s' := mk (f + 15) [b, b] 7 [a, b, c]) (by kernel_rfl) ?_
  refine Rn.on (s' := mk (f + 14) [wrap64 (b * b)] 8 [a, b, c]) (by kernel_rfl) ?_
  rw [show (wrap64 (b * b) : Int) = a from HS]
  refine Rn.on (s' := mk (f + 13) [a, a] 9 [a, b, c]) (by kernel_rfl) ?_
  refine Rn.on (s' := mk (f + 12) [if (a : Int) < a then 1 else 0] 10 [a, b, c]) (by kernel_rfl) ?_
  rw [show (if (a : Int) < a then 1 else 0 : Int) = 0 from if_neg (by omega)]
  refine Rn.on (s' := mk (f + 11) [if (0 : Int) = 0 then 1 else 0] 11 [a, b, c]) (by kernel_rfl) ?_
  rw [show (if (0 : Int) = 0 then 1 else 0 : Int) = 1 from rfl]
  refine Rn.on (s' := mk (f + 10) [] 12 [a, b, c]) (by kernel_rfl) ?_
  refine Rn.on (s' := mk (f + 9) [] 27 [a, b, c]) (by kernel_rfl) ?_
  refine Rn.on (s' := mk (f + 8) [b] 28 [a, b, c]) (by kernel_rfl) ?_
  refine Rn.on (s' := mk (f + 7) [b, b] 29 [a, b, c]) (by kernel_rfl) ?_
  refine Rn.on (s' := mk (f + 6) [wrap64 (b * b)] 30 [a, b, c]) (by kernel_rfl) ?_
  rw [show (wrap64 (b * b) : Int) = a from HS]
  refine Rn.on (s' := mk (f + 5) [a, a] 31 [a, b, c]) (by kernel_rfl) ?_
  refine Rn.on (s' := mk (f + 4) [if (a : Int) = a then 1 else 0] 32 [a, b, c]) (by kernel_rfl) ?_
  rw [show (if (a : Int) = a then 1 else 0 : Int) = 1 from if_pos rfl]
  refine Rn.on (s' := mk (f + 3) [] 33 [a, b, c]) (by kernel_rfl) ?_
  refine Rn.on (s' := mk (f + 2) [0] 34 [a, b, c]) (by kernel_rfl) ?_
  refine Rn.on (s' := mk (f + 1) [0] 36 [a, b, c]) (by kernel_rfl) ?_
  refine Rn.on (s' := mk f [0] 37 [a, b, c]) (by kernel_rfl) ?_
  refine Rn.on (s' := ⟨f, [0], [], List.replicate 64 0, [false], []⟩) (by kernel_rfl) ?_
  exact Rn.stop (by kernel_rfl)
theorem pri_big_ {f : Nat} {a b c s : Int} (HS : wrap64 (b * b) = s) (h : a < s) : Rn (oneF priC) [⟨2, priT, priG⟩] [] 8 (mk (f + 17) [] 4 [a, b, c]) (0, ⟨f, [c], [], List.replicate 64 0, [false], []⟩) := by
  refine Rn.on (s' := mk (f + 16) [] 5 [a, b, c]) (by kernel_rfl) ?_
  refine Rn.on (s' := mk (f + 15) [b] 6 [a, b, c]) (by kernel_rfl) ?_
  refine Rn.on (s' := mk (f + 14) [b, b] 7 [a, b, c]) (by kernel_rfl) ?_
  refine Rn.on (s' := mk (f + 13) [wrap64 (b * b)] 8 [a, b, c]) (by kernel_rfl) ?_
  rw [show (wrap64 (b * b) : Int) = s from HS]
  refine Rn.on (s' := mk (f + 12) [s, a] 9 [a, b, c]) (by kernel_rfl) ?_
  refine Rn.on (s' := mk (f + 11) [if (s : Int) < a then 1 else 0] 10 [a, b, c]) (by kernel_rfl) ?_
  rw [show (if (s : Int) < a then 1 else 0 : Int) = 0 from if_neg (by omega)]
  refine Rn.on (s' := mk (f + 10) [if (0 : Int) = 0 then 1 else 0] 11 [a, b, c]) (by kernel_rfl) ?_
  rw [show (if (0 : Int) = 0 then 1 else 0 : Int) = 1 from rfl]
  refine Rn.on (s' := mk (f + 9) [] 12 [a, b, c]) (by kernel_rfl) ?_
  refine Rn.on (s' := mk (f + 8) [] 27 [a, b, c]) (by kernel_rfl) ?_
  refine Rn.on (s' := mk (f + 7) [b] 28 [a, b, c]) (by kernel_rfl) ?_
  refine Rn.on (s' := mk (f + 6) [b, b] 29 [a, b, c]) (by kernel_rfl) ?_
  refine Rn.on (s' := mk (f + 5) [wrap64 (b * b)] 30 [a, b, c]) (by kernel_rfl) ?_
  rw [show (wrap64 (b * b) : Int) = s from HS]
  refine Rn.on (s' := mk (f + 4) [s, a] 31 [a, b, c]) (by kernel_rfl) ?_
  refine Rn.on (s' := mk (f + 3) [if (s : Int) = a then 1 else 0] 32 [a, b, c]) (by kernel_rfl) ?_
  rw [show (if (s : Int) = a then 1 else 0 : Int) = 0 from if_neg (by omega)]
  refine Rn.on (s' := mk (f + 2) [] 35 [a, b, c]) (by kernel_rfl) ?_
  refine Rn.on (s' := mk (f + 1) [c] 36 [a, b, c]) (by kernel_rfl) ?_
  refine Rn.on (s' := mk f [c] 37 [a, b, c]) (by kernel_rfl) ?_
  refine Rn.on (s' := ⟨f, [c], [], List.replicate 64 0, [false], []⟩) (by kernel_rfl) ?_
  exact Rn.stop (by kernel_rfl)
theorem pri_pre {f : Nat} {r : Int × EgV} {a b : Int} (h : Rn (oneF priC) [⟨2, priT, priG⟩] [] 8 (mk f [] 4 [a, 2, 1]) r) : Rn (oneF priC) [⟨2, priT, priG⟩] [] 8 (mk (f + 4) [] 0 [a, b, 0]) r := by
  refine Rn.on (s' := mk (f + 3) [2] 1 [a, b]) (by kernel_rfl) ?_
  refine Rn.on (s' := mk (f + 2) [] 2 [a, 2]) (by kernel_rfl) ?_
  refine Rn.on (s' := mk (f + 1) [1] 3 [a, 2]) (by kernel_rfl) ?_
  refine Rn.on (s' := mk f [] 4 [a, 2, 1]) (by kernel_rfl) ?_
  exact h
def priN (a : Nat) : Nat → Nat → Int → Int
  | 0, b, c => if b * b = a then 0 else c
  | n + 1, b, c => if b * b < a then priN a n (b + 1) (if a % b = 0 then 0 else c) else if b * b = a then 0 else c
theorem pri_big {a b : Nat} (h : a < b * b) (n : Nat) (c : Int) : priN a n b c = c := by
  cases n with
  | zero => rw [priN, if_neg (by omega)]
  | succ n => rw [priN, if_neg (by omega), if_neg (by omega)]
theorem pri_sqr {a b : Nat} (h : b * b = a) (n : Nat) (c : Int) : priN a n b c = 0 := by
  cases n with
  | zero => rw [priN, if_pos h]
  | succ n => rw [priN, if_neg (by omega), if_pos h]
/-- One round of the document's loop. -/
theorem pri_next {a n b : Nat} {c z : Int} (hb : 2 ≤ b) (hn : a ≤ b + n) (h : b * b ≤ a) (hz : priN a n b c = z) : ∃ n', a ≤ b + 1 + n' ∧ priN a n' (b + 1) (if a % b = 0 then 0 else c) = z := by
  by_cases he : b * b = a
  · rw [pri_sqr he] at hz
    refine ⟨a, by omega, ?_⟩
    rw [pri_big (by rw [← he]; exact Nat.mul_self_lt_mul_self (Nat.lt_succ_self b)), ← hz, if_pos (by rw [← he]; exact Nat.mul_mod_right b b)]
  · cases n with
    | zero => have : b * 1 ≤ b * b := Nat.mul_le_mul_left b (by omega); have : b * 2 ≤ b * b := Nat.mul_le_mul_left b hb; omega
    | succ n => rw [priN, if_pos (by omega)] at hz; exact ⟨n, by omega, hz⟩
theorem pri_loop (a : Nat) (ha : a ≤ 1000) : ∀ (n b : Nat) (c : Int) (f : Nat), 2 ≤ b → b ≤ 2000 → a ≤ b + n → 22 * n + 18 ≤ f → ∃ s', Rn (oneF priC) [⟨2, priT, priG⟩] [] 8 (mk f [] 4 [(a : Int), (b : Int), c]) (0, s') ∧ s'.st.getLast? = some (priN a n b c)
  | n, b, c, f, hb, hb2, hn, hf => by
    have hbb : b * b ≤ 2000 * 2000 := Nat.mul_le_mul hb2 hb2
    have hb22 : b * 2 ≤ b * b := Nat.mul_le_mul_left b hb
    have HS : wrap64 ((b : Int) * (b : Int)) = ((b * b : Nat) : Int) := by rw [Int.natCast_mul]; refine IntWalk.wrap64_in _ ?_; rw [← Int.natCast_mul]; omega
    have HD : wrap64 ((b : Int) + 1) = ((b + 1 : Nat) : Int) := by rw [IntWalk.wrap64_in _ (by omega)]; rfl
    by_cases h1 : b * b < a
    · cases n with
      | zero => omega
      | succ n =>
        have hm : doR 37 (a : Int) (b : Int) = (((a % b : Nat) : Int), 0) := by rw [doR_rem _ (by omega), Int.tmod_eq_emod_of_nonneg (by omega)]; rfl
        rw [priN, if_pos h1]
        by_cases h0 : a % b = 0
        · obtain ⟨f, rfl⟩ : ∃ g, f = g + 22 := ⟨f - 22, by omega⟩
          obtain ⟨s', hs, hl⟩ := pri_loop a ha n (b + 1) 0 f (by omega) (by omega) (by omega) (by omega)
          rw [h0] at hm
          exact ⟨s', pri_div HS (by omega) hm HD hs, by rw [hl, if_pos h0]⟩
        · obtain ⟨f, rfl⟩ : ∃ g, f = g + 20 := ⟨f - 20, by omega⟩
          obtain ⟨s', hs, hl⟩ := pri_loop a ha n (b + 1) c f (by omega) (by omega) (by omega) (by omega)
          exact ⟨s', pri_not HS (by omega) hm (by omega) HD hs, by rw [hl, if_neg h0]⟩
    · by_cases h2 : b * b = a
      · rw [pri_sqr h2]
        obtain ⟨f, rfl⟩ : ∃ g, f = g + 18 := ⟨f - 18, by omega⟩
        rw [h2] at HS
        exact ⟨_, pri_sqr_ HS, rfl⟩
      · rw [pri_big (by omega)]
        obtain ⟨f, rfl⟩ : ∃ g, f = g + 17 := ⟨f - 17, by omega⟩
        exact ⟨_, pri_big_ HS (by omega), rfl⟩
theorem pri_run (a : Nat) (ha : a ≤ 1000) : EndsAs priC (a : Int) 0 (priN a a 2 1) 0 := by
  obtain ⟨s', hs, hl⟩ := pri_loop a ha a 2 1 99996 (by omega) (by omega) (by omega) (by omega)
  exact ends_of pri_tok pri_nest pri_ok (by decide) (s' := s') (pri_pre hs) hl
end Go.Proofs.Ytnohfdojcdhfoaa
