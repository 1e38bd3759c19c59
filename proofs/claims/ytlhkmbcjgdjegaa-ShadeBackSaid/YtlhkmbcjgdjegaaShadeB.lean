/-
  ShadeBack: changes that are applied, as lists.
-/
import Derived.Test.YtlhkmbcjgdjegaaShadeA
import Derived.Test.YtlhkmbcjgdjegaaLawShadeN
namespace Go.Proofs.Ytlhkmbcjgdjegaa
open Go.RowKit
def applyP (P : List (List UInt8)) (cs : List (Nat × List UInt8)) : List (List UInt8) := cs.foldl (fun P c => if c.1 < P.length then P.set c.1 c.2 else P) P
theorem applyL_P : ∀ (ls : List ChV) (cs : List (Nat × List UInt8)) (P : List (List UInt8)), Chs2 ls cs → applyL P ls = applyP P cs
  | [], [], _, _ => rfl
  | [], c :: cs, _, h => by have := h.len; simp at this
  | a :: ls, [], _, h => by have := h.len; simp at this
  | a :: ls, c :: cs, P, h => by
    obtain ⟨h1, h2⟩ := h.at (k := 0) rfl rfl
    have h3 : Chs2 ls cs := by
      unfold Chs2 at h ⊢
      simp only [List.map_cons, List.cons.injEq] at h
      exact h.2
    show applyL (applyC P a) ls = applyP (if c.1 < P.length then P.set c.1 c.2 else P) cs
    have e : applyC P a = if c.1 < P.length then P.set c.1 c.2 else P := by
      unfold applyC
      rw [h1, h2]
      by_cases hp : c.1 < P.length
      · rw [if_pos (by omega), if_pos hp, Int.toNat_natCast]
      · rw [if_neg (by omega), if_neg hp]
    rw [e]
    exact applyL_P ls cs _ h3
theorem applyP_app (P : List (List UInt8)) (a b : List (Nat × List UInt8)) : applyP P (a ++ b) = applyP (applyP P a) b := by unfold applyP; rw [List.foldl_append]
/-- Pages, the first k of them of M. -/
def mix (b M : List UInt8) (n k : Nat) : List (List UInt8) := (List.range n).map fun i => if i < k then pg M i else pg b i
theorem mix_len (b M : List UInt8) (n k : Nat) : (mix b M n k).length = n := by simp [mix]
theorem mix_next (b M : List UInt8) (n k : Nat) : (mix b M n k).set k (pg M k) = mix b M n (k + 1) := by
  apply List.ext_getElem?
  intro i
  unfold mix
  rw [List.getElem?_set]
  simp only [List.getElem?_map, List.length_map, List.length_range]
  rcases Nat.lt_or_ge i n with hi | hi
  · rw [List.getElem?_range hi]
    simp only [Option.map_some]
    by_cases e : k = i
    · subst e; rw [if_pos rfl, if_pos hi, if_pos (show k < k + 1 by omega)]
    · rw [if_neg e]
      by_cases h2 : i < k
      · rw [if_pos h2, if_pos (show i < k + 1 by omega)]
      · rw [if_neg h2, if_neg (show ¬ i < k + 1 by omega)]
  · rw [List.getElem?_eq_none (by simpa using hi)]
    simp only [Option.map_none]
    split
    · rename_i e; rw [if_neg (by omega)]
    · rfl
theorem mix_same {b M : List UInt8} {n k : Nat} (h : pg b k = pg M k) : mix b M n (k + 1) = mix b M n k := by
  unfold mix
  apply List.map_congr_left
  intro i hi
  by_cases e : i = k
  · subst e; rw [if_pos (show i < i + 1 by omega), if_neg (show ¬ i < i by omega), h]
  · by_cases h2 : i < k
    · rw [if_pos h2, if_pos (show i < k + 1 by omega)]
    · rw [if_neg h2, if_neg (show ¬ i < k + 1 by omega)]
theorem apply_mix {L M b : List UInt8} {n : Nat} (hb : ∀ i, i < L.length / 64 → pg b i = pg L i) : ∀ k, k ≤ n → applyP (mix b M n 0) (chsS L M 0 k) = mix b M n k
  | 0, _ => rfl
  | k + 1, h => by
    rw [chsS, applyP_app, apply_mix hb k (by omega)]
    cases hs : sameP L M k with
    | true =>
      have := of_decide_eq_true hs
      rw [mix_same (by rw [hb k this.1, this.2])]
      rfl
    | false =>
      show (if 0 + k < (mix b M n k).length then (mix b M n k).set (0 + k) (pg M k) else mix b M n k) = _
      rw [Nat.zero_add, mix_len, if_pos (show k < n by omega), mix_next]
theorem flat_range {F : Nat → List UInt8} (hF : ∀ i, (F i).length = 64) : ∀ n, (((List.range n).map F).flatten).length = 64 * n
  | 0 => rfl
  | n + 1 => by rw [List.range_succ, List.map_append, List.flatten_append, List.length_append, flat_range hF n]; simp [hF]; omega
theorem take_range {F : Nat → List UInt8} (hF : ∀ i, (F i).length = 64) {k n : Nat} (h : k ≤ n) : (((List.range n).map F).flatten).take (64 * k) = ((List.range k).map F).flatten := by
  induction n with
  | zero => obtain rfl : k = 0 := by omega
            rfl
  | succ n ih =>
    rcases Nat.lt_or_ge n k with hk | hk
    · obtain rfl : k = n + 1 := by omega
      rw [List.take_of_length_le (by rw [flat_range hF]; exact Nat.le_refl _)]
    · rw [List.range_succ, List.map_append, List.flatten_append, List.take_append_of_le_length (by rw [flat_range hF]; omega), ih hk]
theorem flat_pg (L : List UInt8) : ∀ k, ((List.range k).map (pg L)).flatten = L.take (64 * k)
  | 0 => by simp
  | k + 1 => by
    rw [List.range_succ, List.map_append, List.flatten_append, flat_pg L k]
    simp only [List.map_cons, List.map_nil, List.flatten_cons, List.flatten_nil, List.append_nil]
    unfold pg
    rw [show 64 * (k + 1) = 64 * k + 64 by omega, List.take_add, Nat.mul_comm k 64]
/-- What ShadeBack puts together. -/
theorem mix_flat {b M : List UInt8} {v : Nat} (hM : M.length = 64 * v) (hb : b.length = 512) (hv : v ≤ 8) : (mix b M 8 v).flatten.length = 512 ∧ (mix b M 8 v).flatten.take M.length = M ∧ ∀ r ∈ mix b M 8 v, r.length = 64 := by
  have hF : ∀ i, (if i < v then pg M i else if i < 8 then pg b i else zeros 64).length = 64 := fun i => by
    split
    · exact pg_len (by omega)
    · split
      · exact pg_len (by omega)
      · exact zeros_len 64
  have e : mix b M 8 v = (List.range 8).map (fun i => if i < v then pg M i else if i < 8 then pg b i else zeros 64) := by
    unfold mix
    apply List.map_congr_left
    intro i hi
    have : i < 8 := by simpa using hi
    rw [if_pos this]
  rw [e]
  refine ⟨flat_range hF 8, ?_, fun r hr => ?_⟩
  · rw [hM, take_range hF hv]
    have e2 : (List.range v).map (fun i => if i < v then pg M i else if i < 8 then pg b i else zeros 64) = (List.range v).map (pg M) := by
      apply List.map_congr_left
      intro i hi
      rw [if_pos (by simpa using hi)]
    rw [e2, flat_pg, List.take_of_length_le (by omega)]
  · obtain ⟨i, _, rfl⟩ := List.mem_map.1 hr
    exact hF i
theorem strOf_app (a b : List UInt8) : strOf a ++ strOf b = strOf (a ++ b) := by
  unfold strOf
  apply ByteArray.ext
  simp
theorem strOf_take (a : List UInt8) (n : Nat) : (strOf a).extract 0 n = strOf (a.take n) := by
  unfold strOf
  apply ByteArray.ext
  simp
theorem strOf_size (a : List UInt8) : (strOf a).size = a.length := by simp [strOf, ByteArray.size]
end Go.Proofs.Ytlhkmbcjgdjegaa
