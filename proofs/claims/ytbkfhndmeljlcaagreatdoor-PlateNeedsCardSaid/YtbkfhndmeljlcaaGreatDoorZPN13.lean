/-
  PN: EndOk, MdRunes, GlPure, MdToks.
-/
import Derived.Test.YtbkfhndmeljlcaaGreatDoorZPN9
import Derived.Test.YtbkfhndmeljlcaaGreatDoorZPN11
import Derived.Test.YtbkfhndmeljlcaaGreatDoorZPN12
import Derived.Lib.DecodeN
import Derived.Lib.MapLaws
import Derived.Lib.FieldsU
namespace Go.Proofs.YtbkfhndmeljlcaaGreatDoor
open Go.RowKit
def okRev : List UInt8 → Bool
  | [] => false
  | b :: r => if b = 59 then okRev r else b != 58 && b != 93 && b != 126 && b != 161 && b != 32
def EndOk (s : ByteArray) : Prop := okRev s.data.toList.reverse = true
theorem okRev_add : ∀ (x y : List UInt8), okRev x = true → okRev (x ++ y) = true
  | [], _, h => by cases h
  | b :: r, y, h => by
    rw [List.cons_append, okRev]
    rw [okRev] at h
    by_cases hb : b = 59
    · rw [if_pos hb] at h ⊢; exact okRev_add r y h
    · rw [if_neg hb] at h ⊢; exact h
theorem data_app (a b : ByteArray) : (a ++ b).data.toList = a.data.toList ++ b.data.toList := by rw [ByteArray.data_append, Array.toList_append]
theorem EndOk.app (a : ByteArray) {b : ByteArray} (h : EndOk b) : EndOk (a ++ b) := by
  unfold EndOk at h ⊢
  rw [data_app, List.reverse_append]
  exact okRev_add _ _ h
end Go.Proofs.YtbkfhndmeljlcaaGreatDoor
namespace Go.Proofs.YtbkfhndmeljlcaaGreatDoor
open Go.RowKit
open Go.Lib
theorem get_out (s : ByteArray) (i : Nat) (h : s.size ≤ i) : s.get! i = 0 := by
  have h1 : s.data.size ≤ i := h
  show s.data[i]! = 0
  rw [getElem!_neg]
  · rfl
  · omega
theorem get_app_right (a t : ByteArray) (i : Nat) : (a ++ t).get! (a.size + i) = t.get! i := by
  by_cases h : i < t.size
  · have h1 : a.size + i < (a ++ t).size := by rw [ByteArray.size_append']; omega
    have e1 := get_at (a ++ t) (a.size + i) h1
    have e2 := get_at t i h
    rw [Nat.add_zero] at e1 e2
    rw [e1, e2, ByteArray.getElem_append_right (by omega)]
    congr 1
    omega
  · rw [get_out _ _ (by rw [ByteArray.size_append']; omega), get_out _ _ (by omega)]
theorem decode_shift (a t : ByteArray) (p : Nat) : Utf8.decode (a ++ t) (a.size + p) = Utf8.decode t p := by
  rw [decode_at, decode_at, ByteArray.size_append', show a.size + t.size - (a.size + p) = t.size - p from by omega,
    get_app_right, Nat.add_assoc a.size p 1, get_app_right, Nat.add_assoc a.size p 2, get_app_right, Nat.add_assoc a.size p 3, get_app_right]
theorem runesAt_shift (a t : ByteArray) : ∀ (f p : Nat), runesAt (a ++ t) f (a.size + p) = runesAt t f p
  | 0, _ => rfl
  | f + 1, p => by
    rw [runesAt, runesAt, decode_shift]
    by_cases h : p < t.size
    · rw [if_pos h, if_pos (by rw [ByteArray.size_append']; omega), Nat.add_assoc, runesAt_shift a t f _]
    · rw [if_neg h, if_neg (by rw [ByteArray.size_append']; omega)]
end Go.Proofs.YtbkfhndmeljlcaaGreatDoor
namespace Go.Proofs.YtbkfhndmeljlcaaGreatDoor
open Go.RowKit
inductive GPh where
  | idle
  | num (m : Nat)
  | wait (q : Nat)
def pend : GPh → List TkV
  | .idle => []
  | .num m => [⟨48, (m : Int), 0⟩]
  | .wait q => [⟨(q : Int), 0, 0⟩]
def counts : GPh → Bool
  | .num _ => true
  | _ => false
def waits : GPh → Bool
  | .wait _ => true
  | _ => false
def gCount (ys : List TkV) (m x : Nat) : Option (List TkV × GPh) := if (9223372036854775807 - x) / 10 < m then none else some (ys, .num (m * 10 + x))
def gOther (bs : List TkV) (r : Nat) : Option (List TkV × GPh) :=
  if r = 32 then some (bs, .idle) else if knownB (r : Int) = true then (if namedB (r : Int) = true then some (bs, .wait r) else some (bs ++ [⟨(r : Int), 0, 0⟩], .idle)) else none
def gTake (ys : List TkV) : GPh → Nat → Option (List TkV × GPh)
  | .wait q, r => if nameB (r : Int) = true then some (ys ++ [⟨(q : Int), 0, (r : Int)⟩], .idle) else none
  | .num m, r => if 48 ≤ r ∧ r ≤ 57 then gCount ys m (r - 48) else gOther (ys ++ [⟨48, (m : Int), 0⟩]) r
  | .idle, r => if 48 ≤ r ∧ r ≤ 57 then gCount ys 0 (r - 48) else gOther ys r
def gEnd (ys : List TkV) : GPh → Option (List TkV)
  | .idle => some ys
  | .num m => some (ys ++ [⟨48, (m : Int), 0⟩])
  | .wait _ => none
def gRun : List Nat → List TkV → GPh → Option (List TkV)
  | [], ys, ph => gEnd ys ph
  | r :: rs, ys, ph => match gTake ys ph r with
    | none => none
    | some (ys', ph') => gRun rs ys' ph'
theorem gTake_len {ys ys' : List TkV} {ph ph' : GPh} {r : Nat} (h : gTake ys ph r = some (ys', ph')) : ys'.length + (pend ph').length ≤ ys.length + (pend ph).length + 1 := by
  have ho : ∀ bs : List TkV, gOther bs r = some (ys', ph') → ys'.length + (pend ph').length ≤ bs.length + 1 := fun bs h => by
    unfold gOther at h
    split at h
    · injection h with h; injection h with h1 h2; subst h1; subst h2; simp [pend]
    · split at h
      · split at h
        · injection h with h; injection h with h1 h2; subst h1; subst h2; simp [pend]
        · injection h with h; injection h with h1 h2; subst h1; subst h2; simp [pend]
      · cases h
  have hc : ∀ m x, gCount ys m x = some (ys', ph') → ys'.length + (pend ph').length ≤ ys.length + 1 := fun m x h => by
    unfold gCount at h
    split at h
    · cases h
    · injection h with h; injection h with h1 h2; subst h1; subst h2; simp [pend]
  cases ph with
  | wait q =>
    rw [gTake] at h
    split at h
    · injection h with h; injection h with h1 h2; subst h1; subst h2; simp [pend]
    · cases h
  | num m =>
    have e1 : (pend (.num m)).length = 1 := rfl
    rw [gTake] at h
    split at h
    · have := hc _ _ h; omega
    · have := ho _ h; rw [List.length_append, List.length_singleton] at this; omega
  | idle =>
    have e1 : (pend .idle).length = 0 := rfl
    rw [gTake] at h
    split at h
    · have := hc _ _ h; omega
    · have := ho _ h; omega
theorem drop_cons {L rs : List Nat} {i r : Nat} (h : L.drop i = r :: rs) : L[i]? = some r ∧ L.drop (i + 1) = rs := by
  have h1 : L[i]? = (L.drop i)[0]? := by rw [List.getElem?_drop]; rfl
  refine ⟨by rw [h1, h]; rfl, ?_⟩
  have : L.drop (i + 1) = (L.drop i).drop 1 := by rw [List.drop_drop]
  rw [this, h]; rfl
theorem drop_nil {L : List Nat} {i : Nat} (h : L.drop i = []) : L[i]? = none := by
  have := List.drop_eq_nil_iff.1 h
  exact List.getElem?_eq_none this
theorem gRun_num {L : List Nat} : ∀ (rs : List Nat) (i f m : Nat) (ys : List TkV), L.drop i = rs → rs.length ≤ f →
    (numAt L f i m = none ∧ gRun rs ys (.num m) = none) ∨ ∃ m' j, numAt L f i m = some (m', j) ∧ i ≤ j ∧ gRun rs ys (.num m) = gRun (L.drop j) (ys ++ [⟨48, (m' : Int), 0⟩]) .idle
  | [], i, f, m, ys, h, hf => by
    refine .inr ⟨m, i, ?_, Nat.le_refl _, by rw [h]; rfl⟩
    cases f with
    | zero => rfl
    | succ f => rw [numAt, drop_nil h]
  | r :: rs, i, f, m, ys, h, hf => by
    obtain ⟨h1, h2⟩ := drop_cons h
    obtain ⟨f, rfl⟩ : ∃ f', f = f' + 1 := ⟨f - 1, by simp at hf; omega⟩
    rw [numAt, h1]
    simp only
    by_cases hd : 48 ≤ r ∧ r ≤ 57
    · rw [if_pos hd]
      have hg : gTake ys (.num m) r = gCount ys m (r - 48) := by rw [gTake, if_pos hd]
      by_cases hb : (9223372036854775807 - (r - 48)) / 10 < m
      · left
        rw [if_pos hb, gRun, hg]
        unfold gCount
        rw [if_pos hb]
        exact ⟨rfl, rfl⟩
      · rw [if_neg hb, gRun, hg]
        unfold gCount
        rw [if_neg hb]
        simp only
        rcases gRun_num rs (i + 1) f (m * 10 + (r - 48)) ys h2 (by simp at hf; omega) with h3 | ⟨m', j, h3, h4, h5⟩
        · exact .inl h3
        · exact .inr ⟨m', j, h3, by omega, h5⟩
    · rw [if_neg hd]
      refine .inr ⟨m, i, rfl, Nat.le_refl _, ?_⟩
      rw [h, gRun, gRun]
      have e : gTake ys (.num m) r = gTake (ys ++ [⟨48, (m : Int), 0⟩]) .idle r := by
        rw [gTake, gTake, if_neg hd, if_neg hd]
      rw [e]
theorem named_iff (r : Nat) : namedB (r : Int) = true ↔ r = 955 ∨ r = 960 := by unfold namedB; simp; omega
theorem gRun_tok {L : List Nat} : ∀ (k : Nat) (i f : Nat) (ys : List TkV), L.length - i ≤ k → L.length - i < f → gRun (L.drop i) ys .idle = tokAt L f i ys
  | k, i, f, ys, hk, hf => by
    obtain ⟨f, rfl⟩ : ∃ f', f = f' + 1 := ⟨f - 1, by omega⟩
    rw [tokAt]
    cases hr : L.drop i with
    | nil => rw [drop_nil hr]; rfl
    | cons r rs =>
      obtain ⟨h1, h2⟩ := drop_cons hr
      have hil : i < L.length := (List.getElem?_eq_some_iff.1 h1).1
      have hrl : rs.length = L.length - (i + 1) := by rw [← h2, List.length_drop]
      obtain ⟨k, rfl⟩ : ∃ k', k = k' + 1 := ⟨k - 1, by omega⟩
      rw [h1]
      simp only
      rw [gRun]
      by_cases h32 : r = 32
      · subst h32
        rw [if_pos rfl, show gTake ys .idle 32 = some (ys, .idle) from rfl]
        simp only
        rw [← h2]
        exact gRun_tok k (i + 1) f ys (by omega) (by omega)
      rw [if_neg h32]
      by_cases hd : 48 ≤ r ∧ r ≤ 57
      · rw [if_pos hd]
        have hg : gTake ys .idle r = some (ys, .num (r - 48)) := by
          rw [gTake, if_pos hd]
          unfold gCount
          rw [if_neg (by omega)]
          simp
        have hn : numAt L L.length i 0 = numAt L (L.length - 1) (i + 1) (r - 48) := by
          obtain ⟨n, hn⟩ : ∃ n, L.length = n + 1 := ⟨L.length - 1, by omega⟩
          rw [hn, numAt, h1]
          simp only
          rw [if_pos hd, if_neg (by omega)]
          simp
        rw [hg, hn]
        simp only
        rcases gRun_num rs (i + 1) (L.length - 1) (r - 48) ys h2 (by omega) with ⟨h3, h4⟩ | ⟨m', j, h3, h4, h5⟩
        · rw [h3, h4]
        · rw [h3, h5]
          exact gRun_tok k j f _ (by omega) (by omega)
      rw [if_neg hd]
      have hgo : gTake ys .idle r = gOther ys r := by rw [gTake, if_neg hd]
      rw [hgo]
      unfold gOther
      rw [if_neg h32]
      by_cases hnm : r = 955 ∨ r = 960
      · rw [if_pos hnm]
        have hk : knownB (r : Int) = true := by rcases hnm with rfl | rfl <;> decide
        rw [if_pos hk, if_pos ((named_iff r).2 hnm)]
        simp only
        cases hrs : rs with
        | nil =>
          rw [hrs] at h2
          rw [drop_nil h2]
          rfl
        | cons x xs =>
          rw [hrs] at h2
          obtain ⟨h3, h4⟩ := drop_cons h2
          rw [h3]
          simp only
          rw [gRun]
          by_cases hnx : nameB (x : Int) = true
          · rw [if_pos hnx, show gTake ys (.wait r) x = some (ys ++ [⟨(r : Int), 0, (x : Int)⟩], .idle) from by rw [gTake, if_pos hnx]]
            simp only
            rw [← h4]
            exact gRun_tok k (i + 2) f _ (by omega) (by omega)
          · rw [if_neg hnx, show gTake ys (.wait r) x = none from by rw [gTake, if_neg hnx]]
      · rw [if_neg hnm]
        by_cases hk : knownB (r : Int) = true
        · rw [if_pos hk, if_pos hk, if_neg (fun h => hnm ((named_iff r).1 h))]
          simp only
          rw [← h2]
          exact gRun_tok k (i + 1) f _ (by omega) (by omega)
        · rw [if_neg hk, if_neg hk]
theorem gRun_is (s : ByteArray) (h : ¬ 512 < s.size) : tokR s = gRun (runesL s) [] .idle := by
  unfold tokR
  rw [if_neg h]
  have := gRun_tok (L := runesL s) (runesL s).length 0 ((runesL s).length + 1) [] (by omega) (by omega)
  rw [List.drop_zero] at this
  exact this.symm
end Go.Proofs.YtbkfhndmeljlcaaGreatDoor
namespace Go.Proofs.YtbkfhndmeljlcaaGreatDoor
open Go.RowKit
/-- Rune by rune, without the end. -/
def gSt : List Nat → List TkV → GPh → Option (List TkV × GPh)
  | [], ys, ph => some (ys, ph)
  | r :: rs, ys, ph => match gTake ys ph r with
    | none => none
    | some (ys', ph') => gSt rs ys' ph'
theorem gSt_app : ∀ (a b : List Nat) (ys : List TkV) (ph : GPh), gSt (a ++ b) ys ph = (gSt a ys ph).bind fun q => gSt b q.1 q.2
  | [], b, ys, ph => rfl
  | r :: a, b, ys, ph => by
    rw [List.cons_append, gSt, gSt]
    cases gTake ys ph r with
    | none => rfl
    | some q => exact gSt_app a b q.1 q.2
theorem gRun_st : ∀ (a : List Nat) (ys : List TkV) (ph : GPh), gRun a ys ph = (gSt a ys ph).bind fun q => gEnd q.1 q.2
  | [], ys, ph => rfl
  | r :: a, ys, ph => by
    rw [gRun, gSt]
    cases gTake ys ph r with
    | none => rfl
    | some q => exact gRun_st a q.1 q.2
theorem gTake_mark {ys : List TkV} {ph : GPh} {ts : List TkV} (h : gEnd ys ph = some ts) (r : Nat) (hr : ¬ (48 ≤ r ∧ r ≤ 57)) : gTake ys ph r = gOther ts r := by
  cases ph with
  | wait q => cases h
  | num m =>
    rw [gEnd] at h
    injection h with h
    rw [gTake, if_neg hr, h]
  | idle =>
    rw [gEnd] at h
    injection h with h
    rw [gTake, if_neg hr, h]
end Go.Proofs.YtbkfhndmeljlcaaGreatDoor
