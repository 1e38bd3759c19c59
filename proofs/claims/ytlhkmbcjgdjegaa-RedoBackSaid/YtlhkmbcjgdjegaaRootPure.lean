/-
  Layer 5: roots as bytes; which bytes are one; which of two is the best.
-/
import Derived.Test.YtlhkmbcjgdjegaaNumPure
namespace Go.Proofs.Ytlhkmbcjgdjegaa
open Go.RowKit
def markL : List UInt8 := [69, 78, 71, 49]
def headR (a b c : Nat) : List UInt8 := markL ++ be4 a ++ be4 b ++ be4 c
def rootL (a b c : Nat) : List UInt8 := headR a b c ++ be4 (sumK (headR a b c)) ++ zeros 44
theorem headR_len (a b c : Nat) : (headR a b c).length = 16 := rfl
theorem rootL_len (a b c : Nat) : (rootL a b c).length = 64 := by
  unfold rootL
  rw [List.length_append, List.length_append, headR_len, be4_len, zeros_len]
section
variable (a b c : Nat)
theorem root_get (ha : a < 4294967296) (hb : b < 4294967296) (hc : c < 4294967296) :
    getI (rootL a b c) ((4 : Nat) : Int) = a ∧ getI (rootL a b c) ((8 : Nat) : Int) = b ∧ getI (rootL a b c) ((12 : Nat) : Int) = c ∧ getI (rootL a b c) ((16 : Nat) : Int) = sumK (headR a b c) ∧ (rootL a b c).take 16 = headR a b c := by
  refine ⟨?_, ?_, ?_, ?_, ?_⟩
  · have e : rootL a b c = markL ++ (be4 a ++ (be4 b ++ be4 c ++ be4 (sumK (headR a b c)) ++ zeros 44)) := by
      simp only [rootL, headR, List.append_assoc]
    rw [e]; exact getI_put _ _ a ha _ rfl
  · have e : rootL a b c = (markL ++ be4 a) ++ (be4 b ++ (be4 c ++ be4 (sumK (headR a b c)) ++ zeros 44)) := by
      simp only [rootL, headR, List.append_assoc]
    rw [e]; exact getI_put _ _ b hb _ rfl
  · have e : rootL a b c = (markL ++ be4 a ++ be4 b) ++ (be4 c ++ (be4 (sumK (headR a b c)) ++ zeros 44)) := by
      simp only [rootL, headR, List.append_assoc]
    rw [e]; exact getI_put _ _ c hc _ rfl
  · have e : rootL a b c = headR a b c ++ (be4 (sumK (headR a b c)) ++ zeros 44) := by
      simp only [rootL, List.append_assoc]
    rw [e]; exact getI_put _ _ _ (sumK_lt _) _ (by rw [headR_len])
  · have e : rootL a b c = headR a b c ++ (be4 (sumK (headR a b c)) ++ zeros 44) := by
      simp only [rootL, List.append_assoc]
    rw [e]; exact List.take_left' (headR_len _ _ _)
theorem root_mark : (rootL a b c).take 4 = markL := by
  have e : rootL a b c = markL ++ (be4 a ++ be4 b ++ be4 c ++ be4 (sumK (headR a b c)) ++ zeros 44) := by
    simp only [rootL, headR, List.append_assoc]
  rw [e]; exact List.take_left' rfl
end
/-- The bytes are a root: of these numbers. -/
def isRoot (l : List UInt8) : Prop := getI l 4 ≤ 2147483647 ∧ getI l 8 ≤ 2147483647 ∧ l = rootL (getI l 4) (getI l 8) (getI l 12)
instance (l : List UInt8) : Decidable (isRoot l) := by unfold isRoot; exact inferInstance
theorem root_is (a b c : Nat) (ha : a ≤ 2147483647) (hb : b ≤ 2147483647) (hc : c < 4294967296) : isRoot (rootL a b c) ∧ getI (rootL a b c) 4 = a ∧ getI (rootL a b c) 8 = b ∧ getI (rootL a b c) 12 = c := by
  obtain ⟨h4, h8, h12, _, _⟩ := root_get a b c (by omega) (by omega) hc
  have h4' : getI (rootL a b c) 4 = a := h4
  have h8' : getI (rootL a b c) 8 = b := h8
  have h12' : getI (rootL a b c) 12 = c := h12
  refine ⟨⟨by omega, by omega, by rw [h4', h8', h12']⟩, h4', h8', h12'⟩
theorem isRoot_len {l : List UInt8} (h : isRoot l) : l.length = 64 := by rw [h.2.2, rootL_len]
theorem isRoot_mark {l : List UInt8} (h : isRoot l) : l.take 4 = markL := by rw [h.2.2, root_mark]
theorem root_turned (a b c : Nat) (ha : a ≤ 2147483647) (hb : b ≤ 2147483647) (hc : c < 4294967296) (k : Nat) (hk : k < 20) (d : UInt8) (hd : some d ≠ (rootL a b c)[k]?) : ¬ isRoot ((rootL a b c).set k d) := by
  intro h
  obtain ⟨_, _, h3⟩ := h
  have hm := root_mark a b c
  obtain ⟨f4, f8, f12, f16, ft⟩ := root_get a b c (by omega) (by omega) hc
  have hl := rootL_len a b c
  generalize rootL a b c = f at *
  have q4 := getI_lt (f.set k d) 4
  have q8 := getI_lt (f.set k d) 8
  have q12 := getI_lt (f.set k d) 12
  have hm2 := root_mark (getI (f.set k d) 4) (getI (f.set k d) 8) (getI (f.set k d) 12)
  obtain ⟨_, _, _, g16, gt⟩ := root_get (getI (f.set k d) 4) (getI (f.set k d) 8) (getI (f.set k d) 12) q4 q8 q12
  rw [← h3] at hm2 g16 gt
  have hls : (f.set k d).length = f.length := List.length_set
  have hne : (f.set k d)[k]? ≠ f[k]? := by
    rw [List.getElem?_set_self (by omega)]
    exact hd
  rcases Nat.lt_or_ge k 4 with h4 | h4
  · apply hne
    have e := congrArg (fun x : List UInt8 => x[k]?) (hm2.trans hm.symm)
    simpa [List.getElem?_take, h4] using e
  rcases Nat.lt_or_ge k 16 with h5 | h5
  · have e1 : getI (f.set k d) ((16 : Nat) : Int) = getI f ((16 : Nat) : Int) := getI_set (by omega) (by omega)
    rw [e1, f16, ← gt, List.take_set, ← ft] at g16
    have hkl : k < (f.take 16).length := by rw [List.length_take]; omega
    refine sumK_turn (f.take 16) k hkl d ?_ g16.symm
    intro e
    apply hd
    rw [e, List.getElem_take, List.getElem?_eq_getElem (by omega)]
  · rw [List.take_set_of_le (by omega)] at gt
    rw [← gt, ft] at g16
    exact hne (getI_same (i := 16) (by omega) (by omega) (g16.trans f16.symm) k h5 (by omega))
/-- What Right asks. -/
def rightR (L P E s : Int) : Bool := decide (1 ≤ L ∧ L ≤ 64 ∧ 1 ≤ P ∧ P ≤ 64 ∧ 2 + L + P ≤ s ∧ 1 ≤ E)
theorem rightR_true {L P E s : Int} : rightR L P E s = true ↔ (1 ≤ L ∧ L ≤ 64 ∧ 1 ≤ P ∧ P ≤ 64 ∧ 2 + L + P ≤ s ∧ 1 ≤ E) := by unfold rightR; exact decide_eq_true_iff
theorem rightR_false {L P E s : Int} : rightR L P E s = false ↔ ¬ (1 ≤ L ∧ L ≤ 64 ∧ 1 ≤ P ∧ P ≤ 64 ∧ 2 + L + P ≤ s ∧ 1 ≤ E) := by unfold rightR; exact decide_eq_false_iff_not
/-- The numbers of a root. -/
structure RV where
  log : Nat
  pages : Nat
  epoch : Nat
def RV.zero : RV := ⟨0, 0, 0⟩
/-- The best so far and one more. -/
def bestStep (n : Int) (o : RV) (l : List UInt8) : RV :=
  if isRoot l ∧ rightR (getI l 4) (getI l 8) (getI l 12) n = true ∧ o.epoch < getI l 12 then ⟨getI l 4, getI l 8, getI l 12⟩ else o
def bestOf (n : Int) (a b : List UInt8) : RV := bestStep n (bestStep n RV.zero a) b
theorem bestStep_lt {n : Int} {o : RV} {l : List UInt8} (h : o.log < 4294967296 ∧ o.pages < 4294967296 ∧ o.epoch < 4294967296) : (bestStep n o l).log < 4294967296 ∧ (bestStep n o l).pages < 4294967296 ∧ (bestStep n o l).epoch < 4294967296 := by
  unfold bestStep
  split
  · exact ⟨getI_lt _ _, getI_lt _ _, getI_lt _ _⟩
  · exact h
/-- The i-th sector of S, or none. -/
def sectL (S : List UInt8) (n i : Nat) : List UInt8 := if i < n then (S.drop (i * 64)).take 64 else []
theorem nil_no : ¬ isRoot [] := fun h => by have := isRoot_len h; simp at this
end Go.Proofs.Ytlhkmbcjgdjegaa
