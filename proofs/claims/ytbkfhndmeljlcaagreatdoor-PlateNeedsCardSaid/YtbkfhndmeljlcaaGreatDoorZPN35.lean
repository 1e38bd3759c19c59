/-
  PN: WkPure.
-/
import Derived.Test.YtbkfhndmeljlcaaGreatDoorZPN8
import Derived.Test.YtbkfhndmeljlcaaGreatDoorZPN25
import Derived.Test.YtbkfhndmeljlcaaGreatDoorZPN34
namespace Go.Proofs.YtbkfhndmeljlcaaGreatDoor
open Go.RowKit
def sNext (s : Int) (st : List Int) : List Int := if s = 63 ∨ s = 91 then st ++ [s] else if s = 58 then st.dropLast ++ [58] else if s = 59 ∨ s = 93 then st.dropLast else st
def TopS (s : Int) (st : List Int) : Prop := (s = 58 → ∃ y, st = y ++ [63]) ∧ (s = 59 → ∃ y t, st = y ++ [t] ∧ t ≠ 91) ∧ (s = 93 → ∃ y, st = y ++ [91]) ∧ (s = 126 → 91 ∈ st) ∧ ((s = 63 ∨ s = 91) → st.length + 1 ≤ 16)
def SOk : List Int → List Int → Prop
  | [], _ => True
  | s :: r, st => TopS s st ∧ SOk r (sNext s st)
def sgn (p : NPart) : Int := if p.loop = true then 91 else if p.waits = p.at_ then 63 else 58
def stk (m : NSt) : List Int := (m.op.map sgn).reverse
theorem stk_cons (p : NPart) (r : List NPart) (t : List Int) (d : Nat) : stk ⟨t, d, p :: r⟩ = stk ⟨t, d, r⟩ ++ [sgn p] := by simp [stk]
theorem leaveP_sgn {i : Nat} : ∀ {l o : List NPart}, leaveP i l = some o → o.map sgn = l.map sgn ∧ (91 ∈ l.map sgn) ∧ ∀ q ∈ o, ∃ p ∈ l, q.at_ = p.at_ ∧ q.waits = p.waits
  | [], o, h => by cases h
  | p :: r, o, h => by
    unfold leaveP at h
    by_cases hl : p.loop = true
    · rw [if_pos hl] at h
      injection h with h
      subst h
      refine ⟨by simp [sgn], by simp [sgn, hl], fun q hq => ?_⟩
      rcases List.mem_cons.1 hq with rfl | hq
      · exact ⟨p, by simp, rfl, rfl⟩
      · exact ⟨q, by simp [hq], rfl, rfl⟩
    · rw [if_neg hl] at h
      cases hr : leaveP i r with
      | none => rw [hr] at h; cases h
      | some o' =>
        rw [hr] at h
        injection h with h
        subst h
        obtain ⟨h1, h2, h3⟩ := leaveP_sgn hr
        refine ⟨by simp [h1], by simp at h2 ⊢; exact .inr h2, fun q hq => ?_⟩
        rcases List.mem_cons.1 hq with rfl | hq
        · exact ⟨_, by simp, rfl, rfl⟩
        · obtain ⟨p', hp, e⟩ := h3 q hq
          exact ⟨p', by simp [hp], e⟩
theorem nTake_top {i : Nat} {s : Int} {m m' : NSt} (h : nTake i s m = some m') (hm : ∀ p ∈ m.op, p.at_ < i) : TopS s (stk m) ∧ stk m' = sNext s (stk m) ∧ ∀ p ∈ m'.op, p.at_ < i + 1 := by
  obtain ⟨t, d, op⟩ := m
  simp only at hm
  have hm1 : ∀ p ∈ op, p.at_ < i + 1 := fun p hp => by have := hm p hp; omega
  unfold nTake at h
  simp only at h
  split at h
  · rename_i hs
    split at h
    · rename_i h16
      injection h with h; subst h
      refine ⟨⟨fun e => by omega, fun e => by omega, fun e => by omega, fun e => by omega, fun _ => by simp [stk]; omega⟩, ?_, fun p hp => ?_⟩
      · rw [stk_cons, sNext, if_pos hs]
        congr 1
        rcases hs with rfl | rfl <;> simp [sgn]
      · rcases List.mem_cons.1 hp with rfl | hp
        · simp
        · exact hm1 p hp
    · cases h
  rename_i hs
  split at h
  · rename_i h58
    subst h58
    split at h
    · rename_i p r
      split at h
      · rename_i hc
        injection h with h; subst h
        have hpa := hm p (by simp)
        have e1 : sgn p = 63 := by unfold sgn; rw [if_neg (by rw [hc.1]; decide), if_pos hc.2]
        refine ⟨⟨fun _ => ⟨_, by rw [stk_cons, e1]⟩, fun e => by omega, fun e => by omega, fun e => by omega, fun e => by omega⟩, ?_, fun q hq => ?_⟩
        · rw [stk_cons, stk_cons, sNext, if_neg (by omega), if_pos rfl, List.dropLast_concat]
          have e2 : sgn ⟨p.loop, p.at_, i, p.left⟩ = 58 := by unfold sgn; simp only; rw [if_neg (by rw [hc.1]; decide), if_neg (by omega)]
          rw [e2]
          rfl
        · rcases List.mem_cons.1 hq with rfl | hq
          · simp only; omega
          · exact hm1 q (by simp [hq])
      · cases h
    · cases h
  rename_i h58
  split at h
  · rename_i h59
    subst h59
    split at h
    · rename_i p r
      split at h
      · rename_i hc
        injection h with h; subst h
        refine ⟨⟨fun e => by omega, fun _ => ⟨_, _, stk_cons _ _ _ _, by unfold sgn; rw [if_neg (by rw [hc]; decide)]; split <;> decide⟩, fun e => by omega, fun e => by omega, fun e => by omega⟩, ?_, fun q hq => hm1 q (by simp [hq])⟩
        rw [stk_cons, sNext, if_neg (by omega), if_neg (by omega), if_pos (.inl rfl), List.dropLast_concat]
        rfl
      · cases h
    · cases h
  rename_i h59
  split at h
  · rename_i h93
    subst h93
    split at h
    · rename_i p r
      split at h
      · rename_i hc
        injection h with h; subst h
        have e1 : sgn p = 91 := by unfold sgn; rw [if_pos hc]
        refine ⟨⟨fun e => by omega, fun e => by omega, fun _ => ⟨_, by rw [stk_cons, e1]⟩, fun e => by omega, fun e => by omega⟩, ?_, fun q hq => hm1 q (by simp [hq])⟩
        rw [stk_cons, sNext, if_neg (by omega), if_neg (by omega), if_pos (.inr rfl), List.dropLast_concat]
        rfl
      · cases h
    · cases h
  rename_i h93
  split at h
  · rename_i h126
    subst h126
    cases hl : leaveP i op with
    | none => rw [hl] at h; cases h
    | some o =>
      rw [hl] at h
      injection h with h; subst h
      obtain ⟨h1, h2, h3⟩ := leaveP_sgn hl
      refine ⟨⟨fun e => by omega, fun e => by omega, fun e => by omega, fun _ => by unfold stk; simpa using h2, fun e => by omega⟩, ?_, fun q hq => ?_⟩
      · rw [sNext, if_neg (by omega), if_neg (by omega), if_neg (by omega)]
        unfold stk
        simp only
        rw [h1]
      · obtain ⟨p, hp, e, _⟩ := h3 q hq
        have := hm p hp
        omega
  · rename_i h126
    injection h with h; subst h
    exact ⟨⟨fun e => absurd e h58, fun e => absurd e h59, fun e => absurd e h93, fun e => absurd e h126, fun e => absurd e hs⟩, by rw [sNext, if_neg hs, if_neg h58, if_neg (by omega)], hm1⟩
theorem sOk_run : ∀ (rest : List Int) (i : Nat) (m m' : NSt), (∀ p ∈ m.op, p.at_ < i) → nRun i rest m = some m' → SOk rest (stk m)
  | [], _, _, _, _, _ => trivial
  | s :: rest, i, m, m', hm, h => by
    unfold nRun at h
    cases ht : nTake i s ⟨m.tO.set i (-1), m.deep, m.op⟩ with
    | none => rw [ht] at h; cases h
    | some m2 =>
      rw [ht] at h
      obtain ⟨h1, h2, h3⟩ := nTake_top ht hm
      refine ⟨h1, ?_⟩
      have := sOk_run rest (i + 1) m2 m' h3 h
      rw [h2] at this
      exact this
theorem sOk_nest {ss : List Int} {R : List Int × Nat} (h : rNest ss = some R) : SOk ss [] := by
  rw [← nest_same] at h
  unfold nNest at h
  cases hr : nRun 0 ss ⟨List.replicate ss.length 0, 0, []⟩ with
  | none => rw [hr] at h; cases h
  | some m => exact sOk_run ss 0 _ m (fun p hp => by simp at hp) hr
theorem split_last {α β : Type} {f : α → β} {l : List α} {y : List β} {b : β} (h : l.map f = y ++ [b]) : ∃ ys x, l = ys ++ [x] ∧ f x = b := by
  rcases List.eq_nil_or_concat l with rfl | ⟨ys, x, rfl⟩
  · simp at h
  · rw [List.concat_eq_append] at h ⊢
    rw [List.map_append] at h
    have := List.append_inj' h (by simp)
    exact ⟨ys, x, rfl, by simpa using this.2⟩
theorem topS_top {s : Int} {bs : List BkV} (h : TopS s (bs.map (·.sign))) : Top s bs := by
  refine ⟨fun e => ?_, fun e => ?_, fun e => ?_, fun e => ?_⟩
  · obtain ⟨y, hy⟩ := h.1 e
    obtain ⟨ys, x, h1, h2⟩ := split_last hy
    exact ⟨ys, x, h1, h2⟩
  · obtain ⟨y, t, hy, ht⟩ := h.2.1 e
    obtain ⟨ys, x, h1, h2⟩ := split_last hy
    exact ⟨ys, x, h1, by rw [h2]; exact ht⟩
  · obtain ⟨y, hy⟩ := h.2.2.1 e
    obtain ⟨ys, x, h1, h2⟩ := split_last hy
    exact ⟨ys, x, h1, h2⟩
  · have := h.2.2.2.1 e
    obtain ⟨x, hx, hs⟩ := List.mem_map.1 this
    exact ⟨x, hx, hs⟩
theorem rLeave_map {β : Type} (f : BkV → β) (hf : ∀ x : BkV, f ⟨x.sign, x.base, x.other, true⟩ = f x) (h : Int) (bs : List BkV) : ∀ k, (rLeave h bs k).2.2.map f = bs.map f
  | 0 => rfl
  | k + 1 => by
    rw [rLeave]
    split
    · rfl
    · rename_i x hx
      split
      · simp only [List.map_set]
        apply List.ext_getElem?
        intro j
        rw [List.getElem?_set]
        split
        · rename_i e
          subst e
          have hl := (List.getElem?_eq_some_iff.1 hx).1
          rw [if_pos (by simpa using hl)]
          simp [hx, hf]
        · rfl
      · exact rLeave_map f hf h bs k
theorem rLeave_signs (h : Int) (bs : List BkV) (k : Nat) : (rLeave h bs k).2.2.map (·.sign) = bs.map (·.sign) := rLeave_map _ (fun _ => rfl) h bs k
theorem rLeave_h (h : Int) (bs : List BkV) : ∀ k, (rLeave h bs k).1 = true → (rLeave h bs k).2.1 = -1
  | 0, e => by cases e
  | k + 1, e => by
    rw [rLeave] at e ⊢
    split
    · rename_i hx
      rw [hx] at e
      cases e
    · rename_i x hx
      rw [hx] at e
      simp only at e
      split
      · rfl
      · rename_i hn
        rw [if_neg hn] at e
        exact rLeave_h h bs k e
theorem eEnd_ok {h : Int} {ys : List BkV} {x : BkV} {s : Int} (he : (eEnd h ys x s).1 = 0) : (rEnds h ys x s).1 = true ∧ (eEnd h ys x s).2 = (rEnds h ys x s).2 := by
  unfold eEnd at he ⊢
  rcases hr : rEnds h ys x s with ⟨b, h', bs'⟩
  rw [hr] at he
  cases b with
  | true => exact ⟨rfl, rfl⟩
  | false => simp at he
theorem rEnds_ys {h : Int} {ys : List BkV} {x : BkV} {s : Int} (hs : s ≠ 58) : (rEnds h ys x s).2.2 = ys := by
  unfold rEnds
  rw [if_neg hs]
  split
  · split <;> rfl
  · split <;> rfl
theorem cTurn_next {h : Int} {bs : List BkV} {s : Int} (he : (cTurn h bs s).1 = 0) : (cTurn h bs s).2.2.map (·.sign) = sNext s (bs.map (·.sign)) := by
  by_cases hs : isEnd s
  · rcases List.eq_nil_or_concat bs with rfl | ⟨ys, x, rfl⟩
    · unfold cTurn at he
      rw [if_pos hs] at he
      simp at he
    · rw [List.concat_eq_append] at he ⊢
      rw [cTurn_end hs] at he ⊢
      obtain ⟨h1, h2⟩ := eEnd_ok he
      rw [h2]
      unfold sNext
      rcases hs with rfl | rfl | rfl
      · unfold rEnds
        rw [if_pos rfl, if_neg (by omega), if_pos rfl]
        simp
      · rw [rEnds_ys (by decide), if_neg (by omega), if_neg (by omega), if_pos (.inl rfl)]
        simp
      · rw [rEnds_ys (by decide), if_neg (by omega), if_neg (by omega), if_pos (.inr rfl)]
        simp
  · unfold cTurn at he ⊢
    rw [if_neg hs] at he ⊢
    unfold isEnd at hs
    unfold sNext
    by_cases h1 : s = 63 ∨ s = 91
    · rw [if_pos h1, if_pos h1]; simp
    · rw [if_neg h1, if_neg h1, if_neg (show ¬ s = 58 by omega), if_neg (show ¬ (s = 59 ∨ s = 93) by omega)]
      rw [if_neg h1] at he
      by_cases h2 : s = 126
      · rw [if_pos h2] at he ⊢
        unfold lLeave at he ⊢
        have hk := rLeave_signs h bs bs.length
        rcases hr : rLeave h bs bs.length with ⟨b, h', bs'⟩
        rw [hr] at hk he
        cases b with
        | true => exact hk
        | false => simp at he
      · rw [if_neg h2]
        by_cases h3 : s = 161
        · rw [if_pos h3]
        · rw [if_neg h3]
def bkey (x : BkV) : Int × Int × Int := (x.sign, x.base, x.other)
theorem Bas.of_key {h h' : Int} {bs bs' : List BkV} (hb : Bas h bs) (hk : bs'.map bkey = bs.map bkey) (ht : 0 ≤ h' → ∀ x ∈ bs, x.base ≤ h') : Bas h' bs' := by
  refine ⟨?_, fun x hx hs => ?_, fun h0 x hx => ?_⟩
  · have h1 : (bs.map bkey).Pairwise fun a b => a.2.1 ≤ b.2.1 := List.pairwise_map.2 hb.sorted
    rw [← hk] at h1
    exact (List.pairwise_map (f := bkey) (R := fun a b => a.2.1 ≤ b.2.1)).1 h1
  · have : bkey x ∈ bs.map bkey := by rw [← hk]; exact List.mem_map_of_mem hx
    obtain ⟨y, hy, e⟩ := List.mem_map.1 this
    simp only [bkey, Prod.mk.injEq] at e
    have := hb.oth y hy (by omega)
    omega
  · have : bkey x ∈ bs.map bkey := by rw [← hk]; exact List.mem_map_of_mem hx
    obtain ⟨y, hy, e⟩ := List.mem_map.1 this
    simp only [bkey, Prod.mk.injEq] at e
    have := ht h0 y hy
    omega
theorem Bas.turn {h : Int} {bs : List BkV} {s : Int} (hb : Bas h bs) (hh : -1 ≤ h) (hpos : (s = 63 ∨ s = 91) → 0 ≤ h) (he : (cTurn h bs s).1 = 0) : Bas (cTurn h bs s).2.1 (cTurn h bs s).2.2 := by
  by_cases hs : isEnd s
  · rcases List.eq_nil_or_concat bs with rfl | ⟨ys, x, rfl⟩
    · unfold cTurn at he
      rw [if_pos hs] at he
      simp at he
    · rw [List.concat_eq_append] at *
      rw [cTurn_end hs] at he ⊢
      obtain ⟨h1, h2⟩ := eEnd_ok he
      rw [h2]
      obtain ⟨hsy, _, hyx⟩ := List.pairwise_append.1 hb.sorted
      have hyx' : ∀ y ∈ ys, y.base ≤ x.base := fun y hy => hyx y hy x (by simp)
      have htx : 0 ≤ h → x.base ≤ h := fun h0 => hb.top h0 x (by simp)
      have hox := hb.oth x (by simp)
      by_cases h58 : s = 58
      · subst h58
        unfold rEnds
        rw [if_pos rfl]
        refine ⟨List.pairwise_append.2 ⟨hsy, by simp, fun y hy z hz => by simp at hz; subst hz; exact hyx' y hy⟩, fun z hz hz58 => ?_, fun _ z hz => ?_⟩
        · rcases List.mem_append.1 hz with hz | hz
          · exact hb.oth z (by simp [hz]) hz58
          · simp at hz; subst hz
            simp only
            rcases Int.lt_or_le h 0 with h3 | h3
            · left; omega
            · exact .inr (htx h3)
        · rcases List.mem_append.1 hz with hz | hz
          · exact hyx' z hz
          · simp at hz; subst hz; simp
      · have hq : (rEnds h ys x s).2.1 < 0 ∨ x.base ≤ (rEnds h ys x s).2.1 := by
          unfold rEnds at h1 ⊢
          rw [if_neg h58] at h1 ⊢
          split
          · rename_i hx58
            rw [if_pos hx58] at h1
            split
            · rename_i hc
              rw [if_pos hc] at h1
              cases h1
            · simp only
              have := hox hx58
              rcases Int.lt_or_le h 0 with h3 | h3
              · omega
              · have := htx h3; omega
          · rename_i hx58
            rw [if_neg hx58] at h1
            split
            · rename_i hc
              rw [if_pos hc] at h1
              cases h1
            · simp only
              split <;> omega
        rw [rEnds_ys h58]
        refine ⟨hsy, fun z hz => hb.oth z (by simp [hz]), fun h0 z hz => ?_⟩
        have := hyx' z hz
        omega
  · unfold cTurn at he ⊢
    rw [if_neg hs] at he ⊢
    by_cases h1 : s = 63 ∨ s = 91
    · rw [if_pos h1]
      have h0 := hpos h1
      refine ⟨List.pairwise_append.2 ⟨hb.sorted, by simp, fun y hy z hz => by simp at hz; subst hz; exact hb.top h0 y hy⟩, fun z hz hz58 => ?_, fun _ z hz => ?_⟩
      · rcases List.mem_append.1 hz with hz | hz
        · exact hb.oth z hz hz58
        · simp at hz; subst hz; simp only at hz58; omega
      · rcases List.mem_append.1 hz with hz | hz
        · exact hb.top h0 z hz
        · simp at hz; subst hz; simp
    · rw [if_neg h1] at he ⊢
      by_cases h2 : s = 126
      · rw [if_pos h2] at he ⊢
        unfold lLeave at he ⊢
        have hk := rLeave_map bkey (fun _ => rfl) h bs bs.length
        have hl := rLeave_h h bs bs.length
        rcases hr : rLeave h bs bs.length with ⟨b, h', bs'⟩
        rw [hr] at hk he hl
        cases b with
        | true =>
          have e : h' = -1 := hl rfl
          exact hb.of_key hk (fun h0 => by simp only at h0; omega)
        | false => simp at he
      · rw [if_neg h2]
        by_cases h3 : s = 161
        · rw [if_pos h3]
          exact ⟨hb.sorted, hb.oth, fun h0 => by simp only at h0; omega⟩
        · rw [if_neg h3]
          exact hb
theorem rTok_ok {l : List FnV} {h : Int} {bs : List BkV} {s name : Int} (hb : Bas h bs) (hb0 : ∀ x ∈ bs, 0 ≤ x.base) (hr : -1 ≤ h ∧ h ≤ 64) (he : (rTok l h bs s name).1 = 0) :
    Bas (rTok l h bs s name).2.1 (rTok l h bs s name).2.2 ∧ (rTok l h bs s name).2.2.map (·.sign) = sNext s (bs.map (·.sign)) := by
  by_cases h0 : h < 0
  · rw [rTok_dead h0] at he ⊢
    by_cases hs : isEnd s
    · rw [if_pos hs] at he ⊢
      exact ⟨hb.turn hr.1 (fun h => by unfold isEnd at hs; omega) he, cTurn_next he⟩
    · rw [if_neg hs] at he; simp at he
  · obtain ⟨T, hT⟩ : ∃ T, T = rTakes l s name := ⟨_, rfl⟩
    obtain ⟨p, q, ok⟩ := T
    cases ok with
    | false => rw [rTok_none (by omega) hT.symm] at he; simp at he
    | true =>
      rw [rTok_alive (by omega) hr.2 (hb.base (by omega)) hT.symm] at he ⊢
      have hin := rTakes_in l s name
      rw [← hT] at hin
      simp only at hin
      by_cases hc : h - baseOf bs < p ∨ 64 < h - p + q
      · rw [if_pos hc] at he; simp at he
      · rw [if_neg hc] at he ⊢
        have hb2 : Bas (h - p + q) bs := by
          refine ⟨hb.sorted, hb.oth, fun _ x hx => ?_⟩
          have h1 : x.base ≤ baseOf bs := by
            rcases List.eq_nil_or_concat bs with rfl | ⟨ys, y, rfl⟩
            · simp at hx
            · rw [List.concat_eq_append] at *
              have e : baseOf (ys ++ [y]) = y.base := by simp [baseOf]
              rw [e]
              rcases List.mem_append.1 hx with hx | hx
              · exact (List.pairwise_append.1 hb.sorted).2.2 x hx y (by simp)
              · simp at hx; subst hx; exact Int.le_refl _
          omega
        have hb5 : 0 ≤ h - p + q := by
          have h1 : 0 ≤ baseOf bs := by
            unfold baseOf
            cases hl : bs.getLast? with
            | none => exact Int.le_refl 0
            | some x => exact hb0 x (List.mem_of_getLast? hl)
          omega
        exact ⟨hb2.turn (by omega) (fun _ => hb5) he, cTurn_next he⟩
end Go.Proofs.YtbkfhndmeljlcaaGreatDoor
