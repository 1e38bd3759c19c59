/-
  What heights tell.
-/
import Derived.Test.YtafgpmempgoikaaZNestWithin1
import Derived.Test.YtafgpmempgoikaaZNestWithin2
import Derived.Test.YtafgpmempgoikaaZNestWithin3
import Derived.Test.YtafgpmempgoikaaZNestWithin4
import Derived.Test.YtafgpmempgoikaaZNestWithin5
import Derived.Test.YtafgpmempgoikaaZNestWithin6
import Derived.Test.YtafgpmempgoikaaFrZ
import Derived.Test.YtafgpmempgoikaaCTakesZ
import Derived.Test.YtafgpmempgoikaaWkMemZ
import Derived.Test.YtafgpmempgoikaaWkHalveZ
import Derived.Test.YtafgpmempgoikaaWkEndZ
import Derived.Test.YtafgpmempgoikaaWkLeaveZ
import Derived.Test.YtafgpmempgoikaaWkTurnZ
import Derived.Test.YtafgpmempgoikaaWkStepZ
import Derived.Test.YtafgpmempgoikaaWkPureZ
import Derived.Test.YtafgpmempgoikaaGl1Z
import Derived.Test.YtafgpmempgoikaaGl2Z
import Derived.Test.YtafgpmempgoikaaGlPureZ
import Derived.Test.YtafgpmempgoikaaGlMemZ
import Derived.Test.YtafgpmempgoikaaGlTakeZ
import Derived.Test.YtafgpmempgoikaaGlTokZ
import Derived.Test.YtafgpmempgoikaaWkFuncZ
import Derived.Test.YtafgpmempgoikaaOddZ
import Derived.Test.YtafgpmempgoikaaOddsZ
import Derived.Test.YtafgpmempgoikaaChkSameZ
import Derived.Test.YtafgpmempgoikaaChkTakesZ
import Derived.Test.YtafgpmempgoikaaChkKnownZ
namespace Go.Proofs.Ytafgpmempgoikaa
open Go.RowKit
theorem callA_add (l m : List FnV) (name : Int) (h : (callA l name).2.2 = true) : callA (l ++ m) name = callA l name := by
  unfold callA at h ⊢
  cases hk : findK name l 0 with
  | none => rw [hk] at h; simp at h
  | some k =>
    rw [findK_add l m 0 k hk]
    simp only
    obtain ⟨f, _, hf, _⟩ := findK_at hk
    rw [Nat.sub_zero] at hf
    rw [List.getElem?_append_left (List.getElem?_eq_some_iff.1 hf).1]
theorem rTakes_add (l m : List FnV) (s name : Int) (h : (rTakes l s name).2.2 = true) : rTakes (l ++ m) s name = rTakes l s name := by
  unfold rTakes at h ⊢
  by_cases h955 : s = 955
  · subst h955
    exact callA_add l m name h
  · repeat' split
    all_goals first | rfl | (rename_i hh; exact absurd hh h955)
theorem rTok_add (l m : List FnV) (h : Int) (bs : List BkV) (s name : Int) (he : (rTok l h bs s name).1 = 0) : rTok (l ++ m) h bs s name = rTok l h bs s name := by
  by_cases hs : isEnd s
  · unfold rTok; rw [if_pos hs, if_pos hs]
  · unfold rTok at he ⊢
    rw [if_neg hs] at he
    rw [if_neg hs, if_neg hs]
    by_cases h0 : h < 0
    · rw [if_pos h0, if_pos h0]
    · rw [if_neg h0] at he
      rw [if_neg h0, if_neg h0]
      cases ht : rTakes l s name with
      | mk p r =>
        obtain ⟨q, ok⟩ := r
        rw [ht] at he
        cases ok with
        | false => simp at he
        | true => rw [rTakes_add l m s name (by rw [ht]), ht]
theorem rWalk_add (l m : List FnV) : ∀ (ts : List TkV) (h : Int) (bs : List BkV) (out : List Int), (rWalk l ts h bs out).1 = 0 → rWalk (l ++ m) ts h bs out = rWalk l ts h bs out
  | [], h, bs, out, _ => by rw [rWalk, rWalk]
  | t :: ts, h, bs, out, he => by
    rw [rWalk_next] at he
    rw [rWalk_next, rWalk_next]
    by_cases h0 : (rTok l h bs t.sign t.name).1 = 0
    · rw [if_pos h0] at he
      rw [rTok_add l m h bs t.sign t.name h0, if_pos h0, if_pos h0]
      exact rWalk_add l m ts _ _ _ he
    · rw [if_neg h0] at he
      exact absurd he h0
theorem rFunc_add (l m : List FnV) (code : ByteArray) (he : (rFunc l code).1 = 0) : rFunc (l ++ m) code = rFunc l code := by
  unfold rFunc at he ⊢
  cases ht : tokR code with
  | none => rfl
  | some ts =>
    rw [ht] at he
    simp only at he ⊢
    cases hn : rNest (signs ts) with
    | none => rfl
    | some R => rw [hn] at he; exact rWalk_add l m ts 0 [] [] he
theorem GoodU.func {l : List FnV} (h : GoodU l) {k : Nat} {f : FnV} (hk : l[k]? = some f) : (rFunc l f.code).1 = 0 ∧ rFn l (k : Int) = rFunc l f.code := by
  obtain ⟨_, _, _, _, h0⟩ := h.fn k f hk
  have hlt := (List.getElem?_eq_some_iff.1 hk).1
  have e := rFunc_add (l.take (k + 1)) (l.drop (k + 1)) f.code h0
  rw [List.take_append_drop] at e
  refine ⟨by rw [e]; exact h0, ?_⟩
  unfold rFn
  rw [if_neg (by omega), show ((k : Int)).toNat = k from rfl, hk]
def Rb (bs : List BkV) : Prop := ∀ x ∈ bs, 0 ≤ x.base ∧ x.base ≤ 64 ∧ -1 ≤ x.other ∧ x.other ≤ 64
theorem rLeave_rb {h : Int} {bs : List BkV} (hb : Rb bs) (k : Nat) : Rb (rLeave h bs k).2.2 := fun x hx => by
  have hk := rLeave_map bkey (fun _ => rfl) h bs k
  have : bkey x ∈ bs.map bkey := by rw [← hk]; exact List.mem_map_of_mem hx
  obtain ⟨y, hy, e⟩ := List.mem_map.1 this
  simp only [bkey, Prod.mk.injEq] at e
  have := hb y hy
  omega
theorem cTurn_rng {h : Int} {bs : List BkV} {s : Int} (hh : -1 ≤ h ∧ h ≤ 64) (hb : Rb bs) (hpos : (s = 63 ∨ s = 91) → 0 ≤ h) (he : (cTurn h bs s).1 = 0) : (-1 ≤ (cTurn h bs s).2.1 ∧ (cTurn h bs s).2.1 ≤ 64) ∧ Rb (cTurn h bs s).2.2 := by
  by_cases hs : isEnd s
  · rcases List.eq_nil_or_concat bs with rfl | ⟨ys, x, rfl⟩
    · unfold cTurn at he
      rw [if_pos hs] at he
      simp at he
    · rw [List.concat_eq_append] at *
      rw [cTurn_end hs] at he ⊢
      obtain ⟨h1, h2⟩ := eEnd_ok he
      rw [h2]
      have hx := hb x (by simp)
      have hy : Rb ys := fun y hy => hb y (by simp [hy])
      by_cases h58 : s = 58
      · subst h58
        unfold rEnds
        rw [if_pos rfl]
        refine ⟨by simp only; omega, fun z hz => ?_⟩
        rcases List.mem_append.1 hz with hz | hz
        · exact hy z hz
        · simp at hz; subst hz; simp only; omega
      · refine ⟨?_, by rw [rEnds_ys h58]; exact hy⟩
        unfold rEnds
        rw [if_neg h58]
        split
        · split
          · simp only; omega
          · simp only; omega
        · split
          · simp only; omega
          · simp only
            split <;> omega
  · unfold cTurn at he ⊢
    rw [if_neg hs] at he ⊢
    by_cases h1 : s = 63 ∨ s = 91
    · rw [if_pos h1]
      have h0 := hpos h1
      refine ⟨hh, fun z hz => ?_⟩
      rcases List.mem_append.1 hz with hz | hz
      · exact hb z hz
      · simp at hz; subst hz; simp only; omega
    · rw [if_neg h1] at he ⊢
      by_cases h2 : s = 126
      · rw [if_pos h2] at he ⊢
        unfold lLeave at he ⊢
        have hk := rLeave_rb (h := h) hb bs.length
        have hl := rLeave_h h bs bs.length
        rcases hr : rLeave h bs bs.length with ⟨b, h', bs'⟩
        rw [hr] at hk he hl
        cases b with
        | true =>
          have e : h' = -1 := hl rfl
          exact ⟨by simp only; omega, hk⟩
        | false => simp at he
      · rw [if_neg h2]
        by_cases h3 : s = 161
        · rw [if_pos h3]; exact ⟨by simp, hb⟩
        · rw [if_neg h3]; exact ⟨hh, hb⟩
/-- A sign behind which one may go elsewhere. -/
def Odd1 (s : Int) : Prop := s = 58 ∨ s = 59 ∨ s = 93 ∨ s = 126 ∨ s = 161
theorem rTok_more {l : List FnV} {h : Int} {bs : List BkV} {s name : Int} (hb : Bas h bs) (hrb : Rb bs) (hr : -1 ≤ h ∧ h ≤ 64) (he : (rTok l h bs s name).1 = 0) :
    ((-1 ≤ (rTok l h bs s name).2.1 ∧ (rTok l h bs s name).2.1 ≤ 64) ∧ Rb (rTok l h bs s name).2.2) ∧ (0 ≤ h → ¬ Odd1 s → ∃ p q, rTakes l s name = (p, q, true) ∧ p ≤ h ∧ (rTok l h bs s name).2.1 = h - p + q) := by
  by_cases h0 : h < 0
  · rw [rTok_dead h0] at he ⊢
    by_cases hs : isEnd s
    · rw [if_pos hs] at he ⊢
      exact ⟨cTurn_rng hr hrb (fun h => by unfold isEnd at hs; omega) he, fun h => by omega⟩
    · rw [if_neg hs] at he; simp at he
  · obtain ⟨T, hT⟩ : ∃ T, T = rTakes l s name := ⟨_, rfl⟩
    obtain ⟨p, q, ok⟩ := T
    cases ok with
    | false => rw [rTok_none (by omega) hT.symm] at he; simp at he
    | true =>
      rw [rTok_alive (by omega) hr.2 (hb.base (by omega)) hT.symm] at he ⊢
      have hin := rTakes_in l s name
      rw [← hT] at hin
      simp only at hin
      have hbase : 0 ≤ baseOf bs := by
        unfold baseOf
        cases hl : bs.getLast? with
        | none => exact Int.le_refl 0
        | some x => exact (hrb x (List.mem_of_getLast? hl)).1
      by_cases hc : h - baseOf bs < p ∨ 64 < h - p + q
      · rw [if_pos hc] at he; simp at he
      · rw [if_neg hc] at he ⊢
        refine ⟨cTurn_rng (by omega) hrb (fun _ => by omega) he, fun _ ho => ⟨p, q, hT.symm, by omega, ?_⟩⟩
        unfold Odd1 at ho
        unfold cTurn
        rw [if_neg (by unfold isEnd; omega)]
        split
        · rfl
        · rw [if_neg (by omega), if_neg (by omega)]
theorem rWalk_facts (l : List FnV) : ∀ (ts : List TkV) (h : Int) (bs : List BkV) (out : List Int), (rWalk l ts h bs out).1 = 0 → Bas h bs → Rb bs → (-1 ≤ h ∧ h ≤ 64) →
    ∃ hs, (rWalk l ts h bs out).2 = out ++ hs ∧ hs.length = ts.length ∧ (0 < ts.length → hs[0]? = some h) ∧ ∀ i t x, ts[i]? = some t → hs[i]? = some x → (-1 ≤ x ∧ x ≤ 64) ∧ (0 ≤ x → ¬ Odd1 t.sign → ∃ p q, rTakes l t.sign t.name = (p, q, true) ∧ p ≤ x ∧ ∀ y, hs[i + 1]? = some y → y = x - p + q)
  | [], h, bs, out, he, hb, hrb, hr => ⟨[], by
      rw [rWalk] at he ⊢
      split
      · rename_i hc; rw [if_pos hc] at he; simp at he
      · simp, rfl, fun h => by simp at h, fun i t x ht => by simp at ht⟩
  | t :: ts, h, bs, out, he, hb, hrb, hr => by
    rw [rWalk_next] at he ⊢
    by_cases h0 : (rTok l h bs t.sign t.name).1 = 0
    · rw [if_pos h0] at he ⊢
      obtain ⟨hb2, _⟩ := rTok_ok hb (fun x hx => (hrb x hx).1) hr h0
      obtain ⟨⟨hr2, hrb2⟩, hst⟩ := rTok_more hb hrb hr h0
      obtain ⟨hs, h1, h2, h3, h4⟩ := rWalk_facts l ts _ _ _ he hb2 hrb2 hr2
      refine ⟨h :: hs, by rw [h1]; simp, by simp [h2], fun _ => rfl, fun i u x hu hx => ?_⟩
      cases i with
      | zero =>
        simp at hu hx
        subst hu; subst hx
        refine ⟨hr, fun hx0 ho => ?_⟩
        obtain ⟨p, q, e1, e2, e3⟩ := hst hx0 ho
        refine ⟨p, q, e1, e2, fun y hy => ?_⟩
        simp at hy
        have hl : 0 < ts.length := by
          rw [← h2]
          exact List.length_pos_iff.2 (fun e => by rw [e] at hy; simp at hy)
        have := h3 hl
        rw [this] at hy
        injection hy with hy
        rw [← hy, e3]
      | succ i =>
        simp at hu hx
        obtain ⟨h5, h6⟩ := h4 i u x hu hx
        refine ⟨h5, fun hx0 ho => ?_⟩
        obtain ⟨p, q, e1, e2, e3⟩ := h6 hx0 ho
        exact ⟨p, q, e1, e2, fun y hy => e3 y (by simpa using hy)⟩
    · rw [if_neg h0] at he
      exact absurd he h0
end Go.Proofs.Ytafgpmempgoikaa
