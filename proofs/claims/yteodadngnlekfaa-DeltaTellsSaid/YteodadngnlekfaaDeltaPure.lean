/-
  Layer 4: what is written is read as itself.
-/
import Derived.Test.YteodadngnlekfaaDeltaRead
namespace Go.Proofs.Yteodadngnlekfaa
open Go.RowKit
/-- A change that is a page. -/
def Page (a : ChV) : Prop := Small a ∧ a.B.length = 64
theorem be2_len (k : Nat) : (be2 k).length = 2 := rfl
theorem num2_be2 (k : Nat) (h : k < 65536) (x : List UInt8) : num2 (be2 k ++ x) = k := by
  show (UInt8.ofNat (k / 256)).toNat * 256 + (UInt8.ofNat k).toNat = k
  rw [UInt8.toNat_ofNat', UInt8.toNat_ofNat']
  omega
theorem chB_len {a : ChV} (h : Page a) : (chB a).length = 66 := by unfold chB; rw [List.length_append, be2_len, h.2]
theorem chsB_len : ∀ {l : List ChV}, (∀ a ∈ l, Page a) → (chsB l).length = l.length * 66
  | [], _ => rfl
  | a :: l, h => by
    rw [chsB, List.length_append, chB_len (h a (List.mem_cons_self ..)), chsB_len (fun b hb => h b (List.mem_cons_of_mem _ hb)), List.length_cons]
    omega
theorem chsB_drop : ∀ {l : List ChV}, (∀ a ∈ l, Page a) → ∀ k, k ≤ l.length → (chsB l).drop (k * 66) = chsB (l.drop k)
  | l, _, 0, _ => by simp
  | [], _, k + 1, h => by simp at h
  | a :: l, h, k + 1, hk => by
    rw [chsB, show (k + 1) * 66 = (chB a).length + k * 66 by rw [chB_len (h a (List.mem_cons_self ..))]; omega, ← List.drop_drop, List.drop_left, List.drop_succ_cons]
    exact chsB_drop (fun b hb => h b (List.mem_cons_of_mem _ hb)) k (by simpa using hk)
section
variable {l : List ChV}
theorem back_num (hn : l.length < 65536) : num2 (bytesD l) = l.length := num2_be2 _ hn _
theorem back_len (h : ∀ a ∈ l, Page a) : (bytesD l).length = 2 + l.length * 66 := by unfold bytesD; rw [List.length_append, be2_len, chsB_len h]
theorem back_at (h : ∀ a ∈ l, Page a) (k : Nat) (a : ChV) (ha : l[k]? = some a) : keyC (chOf (bytesD l) k) = keyC a := by
  obtain ⟨hk, rfl⟩ := List.getElem?_eq_some_iff.1 ha
  have hp := h _ (List.getElem_mem hk)
  have e0 : (bytesD l).drop (2 + k * 66) = chB l[k] ++ chsB (l.drop (k + 1)) := by
    unfold bytesD
    rw [← List.drop_drop, List.drop_left' (be2_len _), chsB_drop h k (by omega), List.drop_eq_getElem_cons hk]
    rfl
  have e1 : (bytesD l).drop (2 + k * 66 + 2) = l[k].B ++ chsB (l.drop (k + 1)) := by
    rw [← List.drop_drop, e0]
    unfold chB
    rw [List.append_assoc, List.drop_left' (be2_len _)]
  unfold keyC chOf
  rw [e0, e1]
  unfold chB
  rw [List.append_assoc, num2_be2 _ (by have := hp.1; have := this.2.1; have := hp.1.1; omega), List.take_left' hp.2]
  have := hp.1.1
  simp only [Prod.mk.injEq, and_true]
  omega
theorem back_as (h : ∀ a ∈ l, Page a) (hn : l.length < 65536) : asC (chsOf (bytesD l) (num2 (bytesD l))) l := by
  rw [back_num hn]
  refine ⟨?_, fun i a b ha hb => ?_⟩
  · apply List.ext_getElem?
    intro i
    simp only [List.getElem?_map, chsOf]
    rcases Nat.lt_or_ge i l.length with hi | hi
    · rw [List.getElem?_range hi, List.getElem?_eq_getElem hi]
      simp only [Option.map_some]
      rw [back_at h i _ (List.getElem?_eq_getElem hi)]
    · rw [List.getElem?_eq_none (by simpa using hi), List.getElem?_eq_none hi]
      rfl
  · have hi := (List.getElem?_eq_some_iff.1 hb).1
    simp [chsOf, List.getElem?_range hi] at ha
    subst ha
    have := back_at h i b hb
    exact ⟨by injection this, ((h b (List.mem_of_getElem? hb)).1.2.2).symm⟩
theorem asC_same {l m : List ChV} (h : asC l m) : sameC l m = true := by unfold sameC; rw [decide_eq_true_iff]; exact h.1
theorem asC_trans {l m q : List ChV} (h : asC l m) (k : asC m q) : asC l q := by
  have e1 : l.length = m.length := by have := congrArg List.length h.1; simpa using this
  refine ⟨h.1.trans k.1, fun i a b ha hb => ?_⟩
  have hi := (List.getElem?_eq_some_iff.1 ha).1
  have hm : m[i]? = some (m[i]'(by omega)) := List.getElem?_eq_getElem (by omega)
  obtain ⟨h1, h2⟩ := h.2 i a _ ha hm
  obtain ⟨k1, k2⟩ := k.2 i _ b hm hb
  exact ⟨h1.trans k1, h2.trans k2⟩
/-- What Read says of what Bytes wrote. -/
theorem read_back {w w' : World} {e : Ending} {P : Int} (h : ∀ a ∈ l, Page a) (hn : l.length < 65536) (hr : rightB P l = true) (hp : ReadPost (bytesD l) P w e w') :
    ∃ A c ls, e = .returned (.tuple #[.slice A l.length c, .bool true]) ∧ Chs w' A ls ∧ ls.length = l.length ∧ asC ls l ∧ Chg [] w w' := by
  have hb := back_as h hn
  rcases hp with ⟨_, _, _, A, c, ls, he, hch, hl, has, hc⟩ | ⟨hno, _⟩
  · rw [back_num hn] at he hl
    exact ⟨A, c, ls, he, hch, hl, asC_trans has hb, hc⟩
  · exact absurd ⟨by rw [back_len h]; omega, by rw [back_len h, back_num hn], by rw [asC_rightB hb P]; exact hr⟩ hno
end
end Go.Proofs.Yteodadngnlekfaa
