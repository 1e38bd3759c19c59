/-
  Layer 16: the log, as lists.
-/
import Derived.Test.YtlhkmbcjgdjegaaDskS
namespace Go.Proofs.Ytlhkmbcjgdjegaa
open Go.RowKit
theorem splice_get {α : Type} (L m : List α) (o i : Nat) (h : o + m.length ≤ L.length) : (splice L o m)[i]? = if o ≤ i ∧ i < o + m.length then m[i - o]? else L[i]? := by
  have ht : (L.take o).length = o := by rw [List.length_take]; omega
  unfold splice
  rcases Nat.lt_or_ge i o with h1 | h1
  · rw [if_neg (by omega), List.getElem?_append_left (by omega), List.getElem?_take, if_pos h1]
  · rcases Nat.lt_or_ge i (o + m.length) with h2 | h2
    · rw [if_pos ⟨h1, h2⟩, List.getElem?_append_right (by omega), ht, List.getElem?_append_left (by omega)]
    · rw [if_neg (by omega), List.getElem?_append_right (by omega), ht, List.getElem?_append_right (by omega), List.getElem?_drop]
      congr 1; omega
theorem splice_len {α : Type} (L m : List α) (o : Nat) (h : o + m.length ≤ L.length) : (splice L o m).length = L.length := by
  unfold splice
  simp only [List.length_append, List.length_take, List.length_drop]; omega
/-- Sectors that bytes at a place touch. -/
def tch (a n j : Nat) : Bool := decide (0 < n ∧ j * 64 < a + n ∧ a < (j + 1) * 64)
/-- Bytes written from a on. -/
def apS (s : St) (a : Nat) (b : List UInt8) : St := ⟨s.L, splice s.S a b, (List.range s.V.length).map fun j => s.V.getD j false || tch a b.length j⟩
theorem apS_nil (s : St) (a : Nat) (ha : a ≤ s.S.length) : apS s a [] = s := by
  obtain ⟨L, S, V⟩ := s
  unfold apS
  congr 1
  · apply List.ext_getElem?
    intro i
    rw [splice_get _ _ _ _ (by simpa using ha), if_neg (by simp)]
  · apply List.ext_getElem?
    intro j
    rw [List.getElem?_map]
    rcases Nat.lt_or_ge j V.length with h | h
    · rw [List.getElem?_range h, List.getElem?_eq_getElem h]
      simp [tch, List.getD, h]
    · rw [List.getElem?_eq_none (by simpa using h), List.getElem?_eq_none h]; rfl
theorem apS_V (s : St) (a : Nat) (b : List UInt8) : (apS s a b).V.length = s.V.length := by simp [apS]
/-- One sector more. -/
theorem apS_step {s : St} {a : Nat} {b : List UInt8} {k k' q : Nat} {x : List UInt8} (hl : s.S.length = 64 * s.V.length) (hb : a + b.length ≤ s.S.length) (hk : k < k') (hk' : k' ≤ b.length) (h1 : q * 64 ≤ a + k) (h2 : a + k' ≤ (q + 1) * 64) (h3 : a < (q + 1) * 64)
    (hx : x = ((splice s.S a (b.take k')).drop (q * 64)).take 64) : (apS s a (b.take k)).write q x = apS s a (b.take k') := by
  have lk : (b.take k).length = k := by rw [List.length_take]; omega
  have lk' : (b.take k').length = k' := by rw [List.length_take]; omega
  have hq : q < s.V.length := by omega
  have hsl : (splice s.S a (b.take k')).length = s.S.length := splice_len _ _ _ (by rw [lk']; omega)
  have hsk : (splice s.S a (b.take k)).length = s.S.length := splice_len _ _ _ (by rw [lk]; omega)
  have xl : x.length = 64 := by rw [hx, List.length_take, List.length_drop, hsl]; omega
  unfold St.write apS
  congr 1
  · show splice (splice s.S a (b.take k)) (q * 64) x = splice s.S a (b.take k')
    apply List.ext_getElem?
    intro i
    rw [splice_get _ _ _ _ (by rw [hsk, xl]; omega), xl]
    by_cases hi : q * 64 ≤ i ∧ i < q * 64 + 64
    · rw [if_pos hi, hx, List.getElem?_take, if_pos (by omega), List.getElem?_drop]
      congr 1; omega
    · rw [if_neg hi, splice_get _ _ _ _ (by rw [lk]; omega), splice_get _ _ _ _ (by rw [lk']; omega), lk, lk']
      by_cases h4 : a ≤ i ∧ i < a + k
      · rw [if_pos h4, if_pos (by omega), List.getElem?_take, List.getElem?_take, if_pos (by omega), if_pos (by omega)]
      · rw [if_neg h4]
        by_cases h5 : a ≤ i ∧ i < a + k'
        · omega
        · rw [if_neg h5]
  · apply List.ext_getElem?
    intro j
    rw [List.getElem?_set]
    simp only [List.getElem?_map, List.length_map, List.length_range]
    rcases Nat.lt_or_ge j s.V.length with hj | hj
    · rw [List.getElem?_range hj]
      simp only [Option.map_some]
      by_cases e : q = j
      · subst e
        rw [if_pos rfl, if_pos hj]
        have : tch a (b.take k').length q = true := decide_eq_true (by rw [lk']; omega)
        rw [this, Bool.or_true]
      · rw [if_neg e]
        have : tch a (b.take k).length j = tch a (b.take k').length j := by
          unfold tch
          rw [lk, lk']
          congr 1
          apply propext
          constructor
          · rintro ⟨_, _, _⟩; omega
          · rintro ⟨_, _, _⟩
            have : j ≠ q := fun h => e h.symm
            rcases Nat.lt_or_ge j q with h | h
            · omega
            · omega
        rw [this]
    · rw [List.getElem?_eq_none (by simpa using hj)]
      simp only [Option.map_none]
      by_cases e : q = j
      · omega
      · rw [if_neg e]
/-- What is copied into a sector that was read. -/
theorem sect_app {S b : List UInt8} {a k m q f : Nat} (hb : a + b.length ≤ S.length) (hk : k + m ≤ b.length) (hq : q * 64 + f = a + k) (hf : f + m ≤ 64) (hS : (q + 1) * 64 ≤ S.length) :
    splice (((splice S a (b.take k)).drop (q * 64)).take 64) f ((b.drop k).take m) = ((splice S a (b.take (k + m))).drop (q * 64)).take 64 := by
  have lk : (b.take k).length = k := by rw [List.length_take]; omega
  have lk' : (b.take (k + m)).length = k + m := by rw [List.length_take]; omega
  have lm : ((b.drop k).take m).length = m := by rw [List.length_take, List.length_drop]; omega
  have hsk : (splice S a (b.take k)).length = S.length := splice_len _ _ _ (by rw [lk]; omega)
  have ls : (((splice S a (b.take k)).drop (q * 64)).take 64).length = 64 := by rw [List.length_take, List.length_drop, hsk]; omega
  apply List.ext_getElem?
  intro i
  rw [splice_get _ _ _ _ (by rw [ls, lm]; exact hf), lm]
  rcases Nat.lt_or_ge i 64 with hi | hi
  · have e1 : ∀ Z : List UInt8, (Z.take 64)[i]? = Z[i]? := fun Z => by rw [List.getElem?_take, if_pos hi]
    rw [e1, e1, List.getElem?_drop, List.getElem?_drop, splice_get _ _ _ _ (by rw [lk]; omega), splice_get _ _ _ _ (by rw [lk']; omega), lk, lk']
    by_cases h1 : f ≤ i ∧ i < f + m
    · rw [if_pos h1, if_pos (show a ≤ q * 64 + i ∧ q * 64 + i < a + (k + m) by omega), List.getElem?_take, List.getElem?_take, if_pos (show i - f < m by omega), if_pos (show q * 64 + i - a < k + m by omega), List.getElem?_drop]
      congr 1; omega
    · rw [if_neg h1]
      by_cases h2 : a ≤ q * 64 + i ∧ q * 64 + i < a + k
      · rw [if_pos h2, if_pos (show a ≤ q * 64 + i ∧ q * 64 + i < a + (k + m) by omega), List.getElem?_take, List.getElem?_take, if_pos (by omega), if_pos (by omega)]
      · rw [if_neg h2, if_neg (show ¬ (a ≤ q * 64 + i ∧ q * 64 + i < a + (k + m)) by omega)]
  · have e1 : ∀ Z : List UInt8, (Z.take 64)[i]? = none := fun Z => by rw [List.getElem?_take, if_neg (by omega)]
    rw [if_neg (by omega), e1, e1]
/-- The log's bytes. -/
def logB (s : St) (L : Nat) : List UInt8 := (s.S.drop 128).take (L * 64)
theorem logB_next (s : St) (k : Nat) : logB s (k + 1) = logB s k ++ (s.S.drop ((2 + k) * 64)).take 64 := by
  unfold logB
  rw [show (k + 1) * 64 = k * 64 + 64 by omega, List.take_add, List.drop_drop]
  congr 3; omega
theorem logB_len {s : St} {L : Nat} (h : 128 + L * 64 ≤ s.S.length) : (logB s L).length = L * 64 := by
  unfold logB; rw [List.length_take, List.length_drop]; omega
end Go.Proofs.Ytlhkmbcjgdjegaa
