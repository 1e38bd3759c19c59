/-
  Tokens of texts put together.
-/
import Derived.Test.YtafgpmempgoikaaZNestWithin1
import Derived.Test.YtafgpmempgoikaaZNestWithin2
import Derived.Test.YtafgpmempgoikaaZNestWithin3
import Derived.Test.YtafgpmempgoikaaZNestWithin4
import Derived.Test.YtafgpmempgoikaaZNestWithin5
import Derived.Test.YtafgpmempgoikaaZNestWithin6
import Derived.Test.YtafgpmempgoikaaFrZ
import Derived.Test.YtafgpmempgoikaaCTakesZ
import Derived.Test.YtafgpmempgoikaaWkMemZ
import Derived.Test.YtafgpmempgoikaaWkHalveZ
import Derived.Test.YtafgpmempgoikaaWkEndZ
import Derived.Test.YtafgpmempgoikaaWkLeaveZ
import Derived.Test.YtafgpmempgoikaaWkTurnZ
import Derived.Test.YtafgpmempgoikaaWkStepZ
import Derived.Test.YtafgpmempgoikaaWkPureZ
import Derived.Test.YtafgpmempgoikaaGl1Z
import Derived.Test.YtafgpmempgoikaaGl2Z
import Derived.Test.YtafgpmempgoikaaGlPureZ
import Derived.Test.YtafgpmempgoikaaGlMemZ
import Derived.Test.YtafgpmempgoikaaGlTakeZ
import Derived.Test.YtafgpmempgoikaaGlTokZ
import Derived.Test.YtafgpmempgoikaaWkFuncZ
import Derived.Test.YtafgpmempgoikaaOddZ
import Derived.Test.YtafgpmempgoikaaOddsZ
import Derived.Test.YtafgpmempgoikaaChkSameZ
import Derived.Test.YtafgpmempgoikaaChkTakesZ
import Derived.Test.YtafgpmempgoikaaChkKnownZ
import Derived.Test.YtafgpmempgoikaaChkPureZ
import Derived.Test.YtafgpmempgoikaaEndOkZ
import Derived.Test.YtafgpmempgoikaaValueEZ
import Derived.Test.YtafgpmempgoikaaUnitEZ
import Derived.Test.YtafgpmempgoikaaMdRunesZ
namespace Go.Proofs.Ytafgpmempgoikaa
open Go.RowKit
/-- Rune by rune, without the end. -/
def gSt : List Nat → List TkV → GPh → Option (List TkV × GPh)
  | [], ys, ph => some (ys, ph)
  | r :: rs, ys, ph => match gTake ys ph r with
    | none => none
    | some (ys', ph') => gSt rs ys' ph'
theorem gSt_app : ∀ (a b : List Nat) (ys : List TkV) (ph : GPh), gSt (a ++ b) ys ph = (gSt a ys ph).bind fun q => gSt b q.1 q.2
  | [], b, ys, ph => rfl
  | r :: a, b, ys, ph => by
    rw [List.cons_append, gSt, gSt]
    cases gTake ys ph r with
    | none => rfl
    | some q => exact gSt_app a b q.1 q.2
theorem gRun_st : ∀ (a : List Nat) (ys : List TkV) (ph : GPh), gRun a ys ph = (gSt a ys ph).bind fun q => gEnd q.1 q.2
  | [], ys, ph => rfl
  | r :: a, ys, ph => by
    rw [gRun, gSt]
    cases gTake ys ph r with
    | none => rfl
    | some q => exact gRun_st a q.1 q.2
def preQ (P : List TkV) (q : List TkV × GPh) : List TkV × GPh := (P ++ q.1, q.2)
theorem gOther_pre (P bs : List TkV) (r : Nat) : gOther (P ++ bs) r = (gOther bs r).map (preQ P) := by
  unfold gOther
  repeat' split
  all_goals simp [preQ]
theorem gCount_pre (P bs : List TkV) (m x : Nat) : gCount (P ++ bs) m x = (gCount bs m x).map (preQ P) := by
  unfold gCount
  split
  all_goals simp [preQ]
theorem gTake_pre (P ys : List TkV) (ph : GPh) (r : Nat) : gTake (P ++ ys) ph r = (gTake ys ph r).map (preQ P) := by
  cases ph with
  | wait q =>
    rw [gTake, gTake]
    split
    all_goals simp [preQ]
  | num m =>
    rw [gTake, gTake]
    split
    · exact gCount_pre _ _ _ _
    · rw [List.append_assoc]; exact gOther_pre _ _ _
  | idle =>
    rw [gTake, gTake]
    split
    · exact gCount_pre _ _ _ _
    · exact gOther_pre _ _ _
theorem gSt_pre (P : List TkV) : ∀ (a : List Nat) (ys : List TkV) (ph : GPh), gSt a (P ++ ys) ph = (gSt a ys ph).map (preQ P)
  | [], ys, ph => rfl
  | r :: a, ys, ph => by
    rw [gSt, gSt, gTake_pre]
    cases gTake ys ph r with
    | none => rfl
    | some q => exact gSt_pre P a q.1 q.2
/-- What is read is behind a mark that ends what is open. -/
theorem gSt_of {a : List Nat} {ts : List TkV} (h : gRun a [] .idle = some ts) : ∃ ys ph, gSt a [] .idle = some (ys, ph) ∧ gEnd ys ph = some ts := by
  rw [gRun_st] at h
  cases hq : gSt a [] .idle with
  | none => rw [hq] at h; cases h
  | some q => rw [hq] at h; exact ⟨q.1, q.2, rfl, h⟩
theorem gTake_mark {ys : List TkV} {ph : GPh} {ts : List TkV} (h : gEnd ys ph = some ts) (r : Nat) (hr : ¬ (48 ≤ r ∧ r ≤ 57)) : gTake ys ph r = gOther ts r := by
  cases ph with
  | wait q => cases h
  | num m =>
    rw [gEnd] at h
    injection h with h
    rw [gTake, if_neg hr, h]
  | idle =>
    rw [gEnd] at h
    injection h with h
    rw [gTake, if_neg hr, h]
/-- Behind what is read, a mark and more. -/
theorem gRun_mark {a : List Nat} {ts : List TkV} (h : gRun a [] .idle = some ts) (r : Nat) (hr : ¬ (48 ≤ r ∧ r ≤ 57)) (b : List Nat) : gRun (a ++ r :: b) [] .idle = (gOther ts r).bind fun q => gRun b q.1 q.2 := by
  obtain ⟨ys, ph, h1, h2⟩ := gSt_of h
  rw [gRun_st, gSt_app, h1]
  show ((gSt (r :: b) ys ph).bind fun q => gEnd q.1 q.2) = _
  rw [gSt, gTake_mark h2 r hr]
  cases gOther ts r with
  | none => rfl
  | some q => exact (gRun_st b q.1 q.2).symm
theorem gRun_one {a : List Nat} {ts : List TkV} (h : gRun a [] .idle = some ts) : gRun (a ++ [32, 49]) [] .idle = some (ts ++ [⟨48, 1, 0⟩]) := by
  rw [gRun_mark h 32 (by omega)]
  rfl
theorem gRun_comma {a : List Nat} {ts : List TkV} (h : gRun a [] .idle = some ts) : gRun (a ++ [44]) [] .idle = some (ts ++ [⟨44, 0, 0⟩]) := by
  rw [gRun_mark h 44 (by omega)]
  rfl
theorem gRun_pre (P : List TkV) (a : List Nat) : gRun a P .idle = (gRun a [] .idle).map (P ++ ·) := by
  have h := gSt_pre P a [] .idle
  rw [List.append_nil] at h
  rw [gRun_st, gRun_st, h]
  cases gSt a [] .idle with
  | none => rfl
  | some q =>
    obtain ⟨ys, ph⟩ := q
    cases ph with
    | idle => rfl
    | num m => show some _ = some _; simp [preQ]
    | wait q => rfl
theorem gRun_plus {a : List Nat} {ts : List TkV} (h : gRun a [] .idle = some ts) : gRun (43 :: a) [] .idle = some (⟨43, 0, 0⟩ :: ts) := by
  rw [gRun, show gTake [] .idle 43 = some ([⟨43, 0, 0⟩], .idle) from rfl]
  show gRun a [⟨43, 0, 0⟩] .idle = _
  rw [gRun_pre, h]
  rfl
theorem gRun_if {a : List Nat} {ts : List TkV} (h : gRun a [] .idle = some ts) : gRun (97 :: 63 :: (a ++ [58, 32, 55, 59])) [] .idle = some (⟨97, 0, 0⟩ :: ⟨63, 0, 0⟩ :: (ts ++ [⟨58, 0, 0⟩, ⟨48, 7, 0⟩, ⟨59, 0, 0⟩])) := by
  rw [gRun, show gTake [] .idle 97 = some ([⟨97, 0, 0⟩], .idle) from rfl]
  show gRun (63 :: (a ++ [58, 32, 55, 59])) [⟨97, 0, 0⟩] .idle = _
  rw [gRun, show gTake [⟨97, 0, 0⟩] .idle 63 = some ([⟨97, 0, 0⟩, ⟨63, 0, 0⟩], .idle) from rfl]
  show gRun (a ++ [58, 32, 55, 59]) [⟨97, 0, 0⟩, ⟨63, 0, 0⟩] .idle = _
  rw [gRun_pre, gRun_mark h 58 (by omega), show gOther ts 58 = some (ts ++ [⟨58, 0, 0⟩], .idle) from rfl]
  show (gRun [32, 55, 59] (ts ++ [⟨58, 0, 0⟩]) .idle).map _ = _
  rw [gRun_pre, show gRun [32, 55, 59] [] .idle = some [⟨48, 7, 0⟩, ⟨59, 0, 0⟩] from rfl]
  simp
/-- The last tokens. -/
def OkS (s : Int) : Prop := s ≠ 58 ∧ s ≠ 93 ∧ s ≠ 126 ∧ s ≠ 161 ∧ s ≠ 59
def okRevZ (l : List Int) : Prop := ∃ k s r, l = List.replicate k 59 ++ s :: r ∧ OkS s
theorem okRevZ_semi {l : List Int} (h : okRevZ l) : okRevZ (59 :: l) := by
  obtain ⟨k, s, r, e, hs⟩ := h
  exact ⟨k + 1, s, r, by rw [e, List.replicate_succ]; rfl, hs⟩
theorem okRevZ_one (s : Int) (hs : OkS s) (l : List Int) : okRevZ (s :: l) := ⟨0, s, l, rfl, hs⟩
def sgs (ys : List TkV) : List Int := ys.map (·.sign)
/-- The signs read, with what is open. -/
def allS (ys : List TkV) (ph : GPh) : List Int := sgs (ys ++ pend ph)
def WaitOk (ph : GPh) : Prop := ∀ q, ph = .wait q → (q = 955 ∨ q = 960)
theorem gOther_ok {bs ys : List TkV} {ph : GPh} {r : Nat} (h : gOther bs r = some (ys, ph)) (hr : OkR r) : okRevZ (allS ys ph).reverse ∧ WaitOk ph := by
  unfold gOther at h
  rw [if_neg hr.2.2.2.2.1] at h
  split at h
  · split at h
    · rename_i hn
      injection h with h; injection h with h1 h2; subst h1; subst h2
      have hq := (named_iff r).1 hn
      refine ⟨?_, fun q e => by injection e with e; subst e; exact hq⟩
      unfold allS sgs
      simp only [pend, List.map_append, List.map_cons, List.map_nil, List.reverse_append, List.reverse_cons, List.reverse_nil, List.nil_append, List.singleton_append]
      exact okRevZ_one _ (by unfold OkS; omega) _
    · injection h with h; injection h with h1 h2; subst h1; subst h2
      refine ⟨?_, fun q e => by cases e⟩
      unfold allS sgs
      simp only [pend, List.map_append, List.map_cons, List.map_nil, List.reverse_append, List.reverse_cons, List.reverse_nil, List.nil_append, List.singleton_append]
      exact okRevZ_one _ (by unfold OkR at hr; unfold OkS; omega) _
  · cases h
theorem gCount_ok {bs ys : List TkV} {ph : GPh} {m x : Nat} (h : gCount bs m x = some (ys, ph)) : okRevZ (allS ys ph).reverse ∧ WaitOk ph := by
  unfold gCount at h
  split at h
  · cases h
  · injection h with h; injection h with h1 h2; subst h1; subst h2
    refine ⟨?_, fun q e => by cases e⟩
    unfold allS sgs
    simp only [pend, List.map_append, List.map_cons, List.map_nil, List.reverse_append, List.reverse_cons, List.reverse_nil, List.nil_append, List.singleton_append]
    exact okRevZ_one _ (by unfold OkS; omega) _
theorem gTake_ok {ys ys' : List TkV} {ph ph' : GPh} {r : Nat} (h : gTake ys ph r = some (ys', ph')) (hw : WaitOk ph) (hr : OkR r) : okRevZ (allS ys' ph').reverse ∧ WaitOk ph' := by
  cases ph with
  | wait q =>
    rw [gTake] at h
    split at h
    · injection h with h; injection h with h1 h2; subst h1; subst h2
      have hq := hw q rfl
      refine ⟨?_, fun q e => by cases e⟩
      unfold allS sgs
      simp only [pend, List.map_append, List.map_cons, List.map_nil, List.reverse_append, List.reverse_cons, List.reverse_nil, List.nil_append, List.singleton_append]
      exact okRevZ_one _ (by unfold OkS; omega) _
    · cases h
  | num m =>
    rw [gTake] at h
    split at h
    · exact gCount_ok h
    · exact gOther_ok h hr
  | idle =>
    rw [gTake] at h
    split at h
    · exact gCount_ok h
    · exact gOther_ok h hr
theorem gOther_semi (bs : List TkV) : gOther bs 59 = some (bs ++ [⟨59, 0, 0⟩], .idle) := rfl
theorem gTake_semi {ys ys' : List TkV} {ph ph' : GPh} (h : gTake ys ph 59 = some (ys', ph')) (ho : okRevZ (allS ys ph).reverse) : okRevZ (allS ys' ph').reverse ∧ WaitOk ph' := by
  cases ph with
  | wait q =>
    rw [gTake, if_neg (by decide)] at h
    cases h
  | num m =>
    rw [gTake, if_neg (by omega), gOther_semi] at h
    injection h with h; injection h with h1 h2; subst h1; subst h2
    refine ⟨?_, fun q e => by cases e⟩
    have := okRevZ_semi ho
    unfold allS sgs at this ⊢
    simpa [pend] using this
  | idle =>
    rw [gTake, if_neg (by omega), gOther_semi] at h
    injection h with h; injection h with h1 h2; subst h1; subst h2
    refine ⟨?_, fun q e => by cases e⟩
    have := okRevZ_semi ho
    unfold allS sgs at this ⊢
    simpa [pend] using this
theorem gTake_wait {ys ys' : List TkV} {ph ph' : GPh} {r : Nat} (h : gTake ys ph r = some (ys', ph')) : WaitOk ph' := by
  have ho : ∀ bs : List TkV, gOther bs r = some (ys', ph') → WaitOk ph' := fun bs h => by
    unfold gOther at h
    split at h
    · injection h with h; injection h with h1 h2; subst h2; intro q e; cases e
    · split at h
      · split at h
        · rename_i hn
          injection h with h; injection h with h1 h2; subst h2
          intro q e; injection e with e; subst e; exact (named_iff r).1 hn
        · injection h with h; injection h with h1 h2; subst h2; intro q e; cases e
      · cases h
  have hc : ∀ bs m x, gCount bs m x = some (ys', ph') → WaitOk ph' := fun bs m x h => by
    unfold gCount at h
    split at h
    · cases h
    · injection h with h; injection h with h1 h2; subst h2; intro q e; cases e
  cases ph with
  | wait q =>
    rw [gTake] at h
    split at h
    · injection h with h; injection h with h1 h2; subst h2; intro q e; cases e
    · cases h
  | num m =>
    rw [gTake] at h
    split at h
    · exact hc _ _ _ h
    · exact ho _ h
  | idle =>
    rw [gTake] at h
    split at h
    · exact hc _ _ _ h
    · exact ho _ h
theorem gSt_ok : ∀ (l : List Nat) (ys : List TkV) (ph : GPh), gSt l.reverse [] .idle = some (ys, ph) → WaitOk ph ∧ (okRevN l = true → okRevZ (allS ys ph).reverse)
  | [], ys, ph, h => by
    injection h with h; injection h with h1 h2; subst h2
    exact ⟨fun q e => by (cases e), fun h => by cases h⟩
  | r :: l, ys, ph, h => by
    rw [List.reverse_cons, gSt_app] at h
    cases hq : gSt l.reverse [] .idle with
    | none => rw [hq] at h; cases h
    | some q =>
      obtain ⟨ys0, ph0⟩ := q
      rw [hq] at h
      replace h : gSt [r] ys0 ph0 = some (ys, ph) := h
      rw [gSt] at h
      cases ht : gTake ys0 ph0 r with
      | none => rw [ht] at h; cases h
      | some q1 =>
        rw [ht] at h
        replace h : some q1 = some (ys, ph) := h
        injection h with h
        subst h
        obtain ⟨hw0, ho0⟩ := gSt_ok l ys0 ph0 hq
        refine ⟨gTake_wait ht, fun ho => ?_⟩
        rw [okRevN] at ho
        by_cases h59 : r = 59
        · rw [if_pos h59] at ho
          subst h59
          exact (gTake_semi ht (ho0 ho)).1
        · rw [if_neg h59] at ho
          simp only [Bool.and_eq_true, bne_iff_ne, ne_eq] at ho
          exact (gTake_ok ht hw0 ⟨ho.1.1.1.1, ho.1.1.1.2, ho.1.1.2, ho.1.2, ho.2, h59⟩).1
/-- The end of a code tells its last tokens. -/
theorem end_toks {s : ByteArray} (h : EndOk s) (hs : ¬ 512 < s.size) {ts : List TkV} (ht : tokR s = some ts) : okRevZ (sgs ts).reverse := by
  rw [gRun_is s hs] at ht
  obtain ⟨ys, ph, h1, h2⟩ := gSt_of ht
  have hr := end_runes h
  have := (gSt_ok (runesL s).reverse ys ph (by rw [List.reverse_reverse]; exact h1)).2 hr
  have e : allS ys ph = sgs ts := by
    unfold allS
    cases ph with
    | idle => rw [gEnd] at h2; injection h2 with h2; rw [← h2]; simp [pend]
    | num m => rw [gEnd] at h2; injection h2 with h2; rw [← h2]; rfl
    | wait q => cases h2
  rw [← e]
  exact this
end Go.Proofs.Ytafgpmempgoikaa
