/-
  GL: WkPure, ChkPure.
-/
import Derived.Test.YtodbeeodhekpeaaDoorZGL1
import Derived.Test.YtodbeeodhekpeaaDoorZGL4
import Derived.Test.YtodbeeodhekpeaaDoorZGL5
import Derived.Test.YtodbeeodhekpeaaDoorZGL13
import Derived.Test.YtodbeeodhekpeaaDoorZGL16
import Derived.Test.YtodbeeodhekpeaaDoorZGL21
import Derived.Test.YtodbeeodhekpeaaDoorZGL26
import Derived.Test.YtodbeeodhekpeaaDoorZGL27
import Derived.Test.YtodbeeodhekpeaaDoorZGL28
import Derived.Test.YtodbeeodhekpeaaDoorZGL31
import Derived.Test.YtodbeeodhekpeaaDoorZGL35
import Derived.Deep.DeepCutAuto
import Derived.Deep.QuietTactic
import Derived.BigQuiet
namespace Go.Proofs.YtodbeeodhekpeaaDoor
open Go.RowKit
theorem rLeave_map {β : Type} (f : BkV → β) (hf : ∀ x : BkV, f ⟨x.sign, x.base, x.other, true⟩ = f x) (h : Int) (bs : List BkV) : ∀ k, (rLeave h bs k).2.2.map f = bs.map f
  | 0 => rfl
  | k + 1 => by
    rw [rLeave]
    split
    · rfl
    · rename_i x hx
      split
      · simp only [List.map_set]
        apply List.ext_getElem?
        intro j
        rw [List.getElem?_set]
        split
        · rename_i e
          subst e
          have hl := (List.getElem?_eq_some_iff.1 hx).1
          rw [if_pos (by simpa using hl)]
          simp [hx, hf]
        · rfl
      · exact rLeave_map f hf h bs k
theorem rLeave_h (h : Int) (bs : List BkV) : ∀ k, (rLeave h bs k).1 = true → (rLeave h bs k).2.1 = -1
  | 0, e => by cases e
  | k + 1, e => by
    rw [rLeave] at e ⊢
    split
    · rename_i hx
      rw [hx] at e
      cases e
    · rename_i x hx
      rw [hx] at e
      simp only at e
      split
      · rfl
      · rename_i hn
        rw [if_neg hn] at e
        exact rLeave_h h bs k e
theorem eEnd_ok {h : Int} {ys : List BkV} {x : BkV} {s : Int} (he : (eEnd h ys x s).1 = 0) : (rEnds h ys x s).1 = true ∧ (eEnd h ys x s).2 = (rEnds h ys x s).2 := by
  unfold eEnd at he ⊢
  rcases hr : rEnds h ys x s with ⟨b, h', bs'⟩
  rw [hr] at he
  cases b with
  | true => exact ⟨rfl, rfl⟩
  | false => simp at he
theorem rEnds_ys {h : Int} {ys : List BkV} {x : BkV} {s : Int} (hs : s ≠ 58) : (rEnds h ys x s).2.2 = ys := by
  unfold rEnds
  rw [if_neg hs]
  split
  · split <;> rfl
  · split <;> rfl
def bkey (x : BkV) : Int × Int × Int := (x.sign, x.base, x.other)
theorem Bas.of_key {h h' : Int} {bs bs' : List BkV} (hb : Bas h bs) (hk : bs'.map bkey = bs.map bkey) (ht : 0 ≤ h' → ∀ x ∈ bs, x.base ≤ h') : Bas h' bs' := by
  refine ⟨?_, fun x hx hs => ?_, fun h0 x hx => ?_⟩
  · have h1 : (bs.map bkey).Pairwise fun a b => a.2.1 ≤ b.2.1 := List.pairwise_map.2 hb.sorted
    rw [← hk] at h1
    exact (List.pairwise_map (f := bkey) (R := fun a b => a.2.1 ≤ b.2.1)).1 h1
  · have : bkey x ∈ bs.map bkey := by rw [← hk]; exact List.mem_map_of_mem hx
    obtain ⟨y, hy, e⟩ := List.mem_map.1 this
    simp only [bkey, Prod.mk.injEq] at e
    have := hb.oth y hy (by omega)
    omega
  · have : bkey x ∈ bs.map bkey := by rw [← hk]; exact List.mem_map_of_mem hx
    obtain ⟨y, hy, e⟩ := List.mem_map.1 this
    simp only [bkey, Prod.mk.injEq] at e
    have := ht h0 y hy
    omega
theorem Bas.turn {h : Int} {bs : List BkV} {s : Int} (hb : Bas h bs) (hh : -1 ≤ h) (hpos : (s = 63 ∨ s = 91) → 0 ≤ h) (he : (cTurn h bs s).1 = 0) : Bas (cTurn h bs s).2.1 (cTurn h bs s).2.2 := by
  by_cases hs : isEnd s
  · rcases List.eq_nil_or_concat bs with rfl | ⟨ys, x, rfl⟩
    · unfold cTurn at he
      rw [if_pos hs] at he
      simp at he
    · rw [List.concat_eq_append] at *
      rw [cTurn_end hs] at he ⊢
      obtain ⟨h1, h2⟩ := eEnd_ok he
      rw [h2]
      obtain ⟨hsy, _, hyx⟩ := List.pairwise_append.1 hb.sorted
      have hyx' : ∀ y ∈ ys, y.base ≤ x.base := fun y hy => hyx y hy x (by simp)
      have htx : 0 ≤ h → x.base ≤ h := fun h0 => hb.top h0 x (by simp)
      have hox := hb.oth x (by simp)
      by_cases h58 : s = 58
      · subst h58
        unfold rEnds
        rw [if_pos rfl]
        refine ⟨List.pairwise_append.2 ⟨hsy, by simp, fun y hy z hz => by simp at hz; subst hz; exact hyx' y hy⟩, fun z hz hz58 => ?_, fun _ z hz => ?_⟩
        · rcases List.mem_append.1 hz with hz | hz
          · exact hb.oth z (by simp [hz]) hz58
          · simp at hz; subst hz
            simp only
            rcases Int.lt_or_le h 0 with h3 | h3
            · left; omega
            · exact .inr (htx h3)
        · rcases List.mem_append.1 hz with hz | hz
          · exact hyx' z hz
          · simp at hz; subst hz; simp
      · have hq : (rEnds h ys x s).2.1 < 0 ∨ x.base ≤ (rEnds h ys x s).2.1 := by
          unfold rEnds at h1 ⊢
          rw [if_neg h58] at h1 ⊢
          split
          · rename_i hx58
            rw [if_pos hx58] at h1
            split
            · rename_i hc
              rw [if_pos hc] at h1
              cases h1
            · simp only
              have := hox hx58
              rcases Int.lt_or_le h 0 with h3 | h3
              · omega
              · have := htx h3; omega
          · rename_i hx58
            rw [if_neg hx58] at h1
            split
            · rename_i hc
              rw [if_pos hc] at h1
              cases h1
            · simp only
              split <;> omega
        rw [rEnds_ys h58]
        refine ⟨hsy, fun z hz => hb.oth z (by simp [hz]), fun h0 z hz => ?_⟩
        have := hyx' z hz
        omega
  · unfold cTurn at he ⊢
    rw [if_neg hs] at he ⊢
    by_cases h1 : s = 63 ∨ s = 91
    · rw [if_pos h1]
      have h0 := hpos h1
      refine ⟨List.pairwise_append.2 ⟨hb.sorted, by simp, fun y hy z hz => by simp at hz; subst hz; exact hb.top h0 y hy⟩, fun z hz hz58 => ?_, fun _ z hz => ?_⟩
      · rcases List.mem_append.1 hz with hz | hz
        · exact hb.oth z hz hz58
        · simp at hz; subst hz; simp only at hz58; omega
      · rcases List.mem_append.1 hz with hz | hz
        · exact hb.top h0 z hz
        · simp at hz; subst hz; simp
    · rw [if_neg h1] at he ⊢
      by_cases h2 : s = 126
      · rw [if_pos h2] at he ⊢
        unfold lLeave at he ⊢
        have hk := rLeave_map bkey (fun _ => rfl) h bs bs.length
        have hl := rLeave_h h bs bs.length
        rcases hr : rLeave h bs bs.length with ⟨b, h', bs'⟩
        rw [hr] at hk he hl
        cases b with
        | true =>
          have e : h' = -1 := hl rfl
          exact hb.of_key hk (fun h0 => by simp only at h0; omega)
        | false => simp at he
      · rw [if_neg h2]
        by_cases h3 : s = 161
        · rw [if_pos h3]
          exact ⟨hb.sorted, hb.oth, fun h0 => by simp only at h0; omega⟩
        · rw [if_neg h3]
          exact hb
end Go.Proofs.YtodbeeodhekpeaaDoor
namespace Go.Proofs.YtodbeeodhekpeaaDoor
open Go.RowKit
theorem callA_add (l m : List FnV) (name : Int) (h : (callA l name).2.2 = true) : callA (l ++ m) name = callA l name := by
  unfold callA at h ⊢
  cases hk : findK name l 0 with
  | none => rw [hk] at h; simp at h
  | some k =>
    rw [findK_add l m 0 k hk]
    simp only
    obtain ⟨f, _, hf, _⟩ := findK_at hk
    rw [Nat.sub_zero] at hf
    rw [List.getElem?_append_left (List.getElem?_eq_some_iff.1 hf).1]
theorem rTakes_add (l m : List FnV) (s name : Int) (h : (rTakes l s name).2.2 = true) : rTakes (l ++ m) s name = rTakes l s name := by
  unfold rTakes at h ⊢
  by_cases h955 : s = 955
  · subst h955
    exact callA_add l m name h
  · repeat' split
    all_goals first | rfl | (rename_i hh; exact absurd hh h955)
theorem rTok_add (l m : List FnV) (h : Int) (bs : List BkV) (s name : Int) (he : (rTok l h bs s name).1 = 0) : rTok (l ++ m) h bs s name = rTok l h bs s name := by
  by_cases hs : isEnd s
  · unfold rTok; rw [if_pos hs, if_pos hs]
  · unfold rTok at he ⊢
    rw [if_neg hs] at he
    rw [if_neg hs, if_neg hs]
    by_cases h0 : h < 0
    · rw [if_pos h0, if_pos h0]
    · rw [if_neg h0] at he
      rw [if_neg h0, if_neg h0]
      cases ht : rTakes l s name with
      | mk p r =>
        obtain ⟨q, ok⟩ := r
        rw [ht] at he
        cases ok with
        | false => simp at he
        | true => rw [rTakes_add l m s name (by rw [ht]), ht]
theorem rWalk_add (l m : List FnV) : ∀ (ts : List TkV) (h : Int) (bs : List BkV) (out : List Int), (rWalk l ts h bs out).1 = 0 → rWalk (l ++ m) ts h bs out = rWalk l ts h bs out
  | [], h, bs, out, _ => by rw [rWalk, rWalk]
  | t :: ts, h, bs, out, he => by
    rw [rWalk_next] at he
    rw [rWalk_next, rWalk_next]
    by_cases h0 : (rTok l h bs t.sign t.name).1 = 0
    · rw [if_pos h0] at he
      rw [rTok_add l m h bs t.sign t.name h0, if_pos h0, if_pos h0]
      exact rWalk_add l m ts _ _ _ he
    · rw [if_neg h0] at he
      exact absurd he h0
theorem rFunc_add (l m : List FnV) (code : ByteArray) (he : (rFunc l code).1 = 0) : rFunc (l ++ m) code = rFunc l code := by
  unfold rFunc at he ⊢
  cases ht : tokR code with
  | none => rfl
  | some ts =>
    rw [ht] at he
    simp only at he ⊢
    cases hn : rNest (signs ts) with
    | none => rfl
    | some R => rw [hn] at he; exact rWalk_add l m ts 0 [] [] he
theorem GoodU.func {l : List FnV} (h : GoodU l) {k : Nat} {f : FnV} (hk : l[k]? = some f) : (rFunc l f.code).1 = 0 ∧ rFn l (k : Int) = rFunc l f.code := by
  obtain ⟨_, _, _, _, h0⟩ := h.fn k f hk
  have hlt := (List.getElem?_eq_some_iff.1 hk).1
  have e := rFunc_add (l.take (k + 1)) (l.drop (k + 1)) f.code h0
  rw [List.take_append_drop] at e
  refine ⟨by rw [e]; exact h0, ?_⟩
  unfold rFn
  rw [if_neg (by omega), show ((k : Int)).toNat = k from rfl, hk]
end Go.Proofs.YtodbeeodhekpeaaDoor
