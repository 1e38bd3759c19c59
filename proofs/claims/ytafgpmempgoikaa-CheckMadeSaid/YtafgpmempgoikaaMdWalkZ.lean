/-
  Heights of codes put together.
-/
import Derived.Test.YtafgpmempgoikaaZNestWithin1
import Derived.Test.YtafgpmempgoikaaZNestWithin2
import Derived.Test.YtafgpmempgoikaaZNestWithin3
import Derived.Test.YtafgpmempgoikaaZNestWithin4
import Derived.Test.YtafgpmempgoikaaZNestWithin5
import Derived.Test.YtafgpmempgoikaaZNestWithin6
import Derived.Test.YtafgpmempgoikaaFrZ
import Derived.Test.YtafgpmempgoikaaCTakesZ
import Derived.Test.YtafgpmempgoikaaWkMemZ
import Derived.Test.YtafgpmempgoikaaWkHalveZ
import Derived.Test.YtafgpmempgoikaaWkEndZ
import Derived.Test.YtafgpmempgoikaaWkLeaveZ
import Derived.Test.YtafgpmempgoikaaWkTurnZ
import Derived.Test.YtafgpmempgoikaaWkStepZ
import Derived.Test.YtafgpmempgoikaaWkPureZ
import Derived.Test.YtafgpmempgoikaaGl1Z
import Derived.Test.YtafgpmempgoikaaGl2Z
import Derived.Test.YtafgpmempgoikaaGlPureZ
import Derived.Test.YtafgpmempgoikaaGlMemZ
import Derived.Test.YtafgpmempgoikaaGlTakeZ
import Derived.Test.YtafgpmempgoikaaGlTokZ
import Derived.Test.YtafgpmempgoikaaWkFuncZ
import Derived.Test.YtafgpmempgoikaaOddZ
import Derived.Test.YtafgpmempgoikaaOddsZ
import Derived.Test.YtafgpmempgoikaaChkSameZ
import Derived.Test.YtafgpmempgoikaaChkTakesZ
import Derived.Test.YtafgpmempgoikaaChkKnownZ
import Derived.Test.YtafgpmempgoikaaChkPureZ
import Derived.Test.YtafgpmempgoikaaEndOkZ
import Derived.Test.YtafgpmempgoikaaValueEZ
import Derived.Test.YtafgpmempgoikaaUnitEZ
import Derived.Test.YtafgpmempgoikaaMdRunesZ
import Derived.Test.YtafgpmempgoikaaMdToksZ
namespace Go.Proofs.Ytafgpmempgoikaa
open Go.RowKit
/-- Tokens from a height on, without the end. -/
def wSt (l : List FnV) : List TkV → Int → List BkV → Int × Int × List BkV
  | [], h, bs => (0, h, bs)
  | t :: ts, h, bs => if (rTok l h bs t.sign t.name).1 = 0 then wSt l ts (rTok l h bs t.sign t.name).2.1 (rTok l h bs t.sign t.name).2.2 else rTok l h bs t.sign t.name
def wEnd (q : Int × Int × List BkV) : Int := if q.1 = 0 then (if q.2.1 ≠ 1 ∧ 0 ≤ q.2.1 then 14 else 0) else q.1
theorem rWalk_st (l : List FnV) : ∀ (ts : List TkV) (h : Int) (bs : List BkV) (out : List Int), (rWalk l ts h bs out).1 = wEnd (wSt l ts h bs)
  | [], h, bs, out => by
    rw [rWalk, wSt]
    unfold wEnd
    rw [if_pos rfl]
    split <;> rfl
  | t :: ts, h, bs, out => by
    rw [rWalk_next, wSt]
    by_cases h0 : (rTok l h bs t.sign t.name).1 = 0
    · rw [if_pos h0, if_pos h0]; exact rWalk_st l ts _ _ _
    · rw [if_neg h0, if_neg h0]
      unfold wEnd
      rw [if_neg h0]
theorem wSt_app (l : List FnV) : ∀ (a b : List TkV) (h : Int) (bs : List BkV), (wSt l a h bs).1 = 0 → wSt l (a ++ b) h bs = wSt l b (wSt l a h bs).2.1 (wSt l a h bs).2.2
  | [], b, h, bs, _ => rfl
  | t :: a, b, h, bs, he => by
    rw [wSt] at he
    rw [List.cons_append, wSt, wSt]
    by_cases h0 : (rTok l h bs t.sign t.name).1 = 0
    · rw [if_pos h0] at he ⊢
      rw [if_pos h0]
      exact wSt_app l a b _ _ he
    · rw [if_neg h0] at he; exact absurd he h0
theorem wSt_fst (l : List FnV) : ∀ (a b : List TkV) (h : Int) (bs : List BkV), (wSt l (a ++ b) h bs).1 = 0 → (wSt l a h bs).1 = 0
  | [], b, h, bs, _ => rfl
  | t :: a, b, h, bs, he => by
    rw [List.cons_append, wSt] at he
    rw [wSt]
    by_cases h0 : (rTok l h bs t.sign t.name).1 = 0
    · rw [if_pos h0] at he ⊢; exact wSt_fst l a b _ _ he
    · rw [if_neg h0] at he; exact absurd he h0
structure WInv (h : Int) (bs : List BkV) : Prop where
  b : Bas h bs
  r : Rb bs
  m : -1 ≤ h ∧ h ≤ 64
theorem WInv.nil : WInv 0 [] := ⟨⟨by simp, fun x hx => by simp at hx, fun _ x hx => by simp at hx⟩, fun x hx => by simp at hx, by omega⟩
theorem WInv.tok {l : List FnV} {h : Int} {bs : List BkV} {s name : Int} (w : WInv h bs) (he : (rTok l h bs s name).1 = 0) : WInv (rTok l h bs s name).2.1 (rTok l h bs s name).2.2 ∧ (rTok l h bs s name).2.2.map (·.sign) = sNext s (bs.map (·.sign)) := by
  obtain ⟨h1, h2⟩ := rTok_ok w.b (fun x hx => (w.r x hx).1) w.m he
  obtain ⟨⟨h3, h4⟩, _⟩ := rTok_more w.b w.r w.m he
  exact ⟨⟨h1, h4, h3⟩, h2⟩
def sEnds (ss : List Int) (st : List Int) : List Int := ss.foldl (fun st s => sNext s st) st
theorem WInv.run {l : List FnV} : ∀ (ts : List TkV) {h : Int} {bs : List BkV}, WInv h bs → (wSt l ts h bs).1 = 0 → WInv (wSt l ts h bs).2.1 (wSt l ts h bs).2.2 ∧ (wSt l ts h bs).2.2.map (·.sign) = sEnds (sgs ts) (bs.map (·.sign))
  | [], h, bs, w, _ => ⟨w, rfl⟩
  | t :: ts, h, bs, w, he => by
    rw [wSt] at he ⊢
    by_cases h0 : (rTok l h bs t.sign t.name).1 = 0
    · rw [if_pos h0] at he ⊢
      obtain ⟨h1, h2⟩ := w.tok h0
      obtain ⟨h3, h4⟩ := WInv.run ts h1 he
      refine ⟨h3, ?_⟩
      rw [h4, h2]
      rfl
    · rw [if_neg h0] at he; exact absurd he h0
theorem sOk_app : ∀ (a b st : List Int), SOk (a ++ b) st → SOk a st ∧ SOk b (sEnds a st)
  | [], b, st, h => ⟨trivial, h⟩
  | s :: a, b, st, h => by
    obtain ⟨h1, h2⟩ := h
    obtain ⟨h3, h4⟩ := sOk_app a b _ h2
    exact ⟨⟨h1, h3⟩, h4⟩
theorem alive_semi {l : List FnV} {h : Int} {bs : List BkV} {name : Int} (w : WInv h bs) (h0 : 0 ≤ h) (hT : TopS 59 (bs.map (·.sign))) (he : (rTok l h bs 59 name).1 = 0) : 0 ≤ (rTok l h bs 59 name).2.1 := by
  obtain ⟨y, t, hy, ht⟩ := hT.2.1 rfl
  obtain ⟨ys, x, rfl, hx⟩ := split_last hy
  have hb := (w.r x (by simp)).1
  rw [rTok_end (.inr (.inl rfl))] at he ⊢
  unfold rEnds at he ⊢
  rw [if_neg (by omega)] at he ⊢
  split at he
  · rename_i h1
    simp only
    split at h1
    · split at h1
      · cases h1
      · injection h1 with _ h1; injection h1 with h1 _; omega
    · split at h1
      · cases h1
      · injection h1 with _ h1
        injection h1 with h1 _
        rw [← h1, if_neg (by rw [hx]; exact fun hh => ht hh.1)]
        exact hb
  · simp at he
theorem alive_semis {l : List FnV} : ∀ (ts : List TkV) {h : Int} {bs : List BkV}, (∀ t ∈ ts, t.sign = 59) → WInv h bs → 0 ≤ h → SOk (sgs ts) (bs.map (·.sign)) → (wSt l ts h bs).1 = 0 → 0 ≤ (wSt l ts h bs).2.1
  | [], h, bs, _, _, h0, _, _ => h0
  | t :: ts, h, bs, ha, w, h0, hS, he => by
    have e := ha t (by simp)
    rw [wSt] at he ⊢
    by_cases hz : (rTok l h bs t.sign t.name).1 = 0
    · rw [if_pos hz] at he ⊢
      obtain ⟨h1, h2⟩ := w.tok hz
      obtain ⟨s1, s2⟩ := hS
      refine alive_semis ts (fun u hu => ha u (by simp [hu])) h1 ?_ (by rw [h2]; exact s2) he
      have s3 : TopS t.sign (bs.map (·.sign)) := s1
      rw [e] at hz s3 ⊢
      exact alive_semi w h0 s3 hz
    · rw [if_neg hz] at he; exact absurd he hz
theorem alive_tok {l : List FnV} {h : Int} {bs : List BkV} {s name : Int} (w : WInv h bs) (hs : OkS s) (he : (rTok l h bs s name).1 = 0) : 0 ≤ (rTok l h bs s name).2.1 := by
  have h0 : 0 ≤ h := by
    rcases Int.lt_or_le h 0 with hl | hl
    · rw [rTok_dead hl, if_neg (by unfold OkS at hs; unfold isEnd; omega)] at he
      simp at he
    · exact hl
  obtain ⟨_, h2⟩ := rTok_more w.b w.r w.m he
  obtain ⟨p, q, e1, e2, e3⟩ := h2 h0 (by unfold OkS at hs; unfold Odd1; omega)
  have hin := rTakes_in l s name
  rw [e1] at hin
  simp only at hin
  omega
theorem alive_end {l : List FnV} {ts : List TkV} (hz : okRevZ (sgs ts).reverse) (hS : SOk (sgs ts) []) (he : (wSt l ts 0 []).1 = 0) : 0 ≤ (wSt l ts 0 []).2.1 := by
  obtain ⟨k, s, r, e, hs⟩ := hz
  have e2 : sgs ts = r.reverse ++ (s :: List.replicate k 59) := by
    rw [← List.reverse_reverse (sgs ts), e]
    simp
  obtain ⟨X, Y, e3, eX, eY⟩ := List.map_eq_append_iff.1 e2
  obtain ⟨t, Z, e4, et, eZ⟩ := List.map_eq_cons_iff.1 eY
  subst e3; subst e4
  have hX := wSt_fst l X _ _ _ he
  rw [wSt_app l X _ _ _ hX] at he ⊢
  obtain ⟨w1, w2⟩ := WInv.nil.run X hX
  have hS2 : SOk (sgs (t :: Z)) (sEnds (sgs X) []) := by
    have h := hS
    unfold sgs at h
    rw [List.map_append] at h
    exact (sOk_app _ _ _ h).2
  rw [wSt] at he ⊢
  by_cases h0 : (rTok l (wSt l X 0 []).2.1 (wSt l X 0 []).2.2 t.sign t.name).1 = 0
  · rw [if_pos h0] at he ⊢
    obtain ⟨w3, w4⟩ := w1.tok h0
    refine alive_semis Z (fun u hu => ?_) w3 (alive_tok w1 (by rw [et]; exact hs) h0) ?_ he
    · have : u.sign ∈ Z.map (·.sign) := List.mem_map_of_mem hu
      rw [eZ] at this
      exact List.eq_of_mem_replicate this
    · rw [w4, w2]
      exact hS2.2
  · rw [if_neg h0] at he; exact absurd he h0
theorem nRun_stk : ∀ (rest : List Int) (i : Nat) (m m' : NSt), (∀ p ∈ m.op, p.at_ < i) → nRun i rest m = some m' → stk m' = sEnds rest (stk m)
  | [], _, m, m', _, h => by
    injection h with h
    subst h
    rfl
  | s :: rest, i, m, m', hm, h => by
    unfold nRun at h
    cases ht : nTake i s ⟨m.to.set i (-1), m.deep, m.op⟩ with
    | none => rw [ht] at h; cases h
    | some m2 =>
      rw [ht] at h
      obtain ⟨h1, h2, h3⟩ := nTake_top ht hm
      have := nRun_stk rest (i + 1) m2 m' h3 h
      rw [this, h2]
      rfl
theorem nest_ends {ss : List Int} {R : List Int × Nat} (h : rNest ss = some R) : sEnds ss [] = [] := by
  rw [← nest_same] at h
  unfold nNest at h
  cases hr : nRun 0 ss ⟨List.replicate ss.length 0, 0, []⟩ with
  | none => rw [hr] at h; cases h
  | some m =>
    rw [hr] at h
    simp only [Option.bind_some] at h
    split at h
    · rename_i ho
      have := nRun_stk ss 0 _ m (fun p hp => by simp at hp) hr
      have e1 : stk m = [] := by unfold stk; rw [ho]; rfl
      rw [e1] at this
      exact this.symm
    · cases h
/-- Behind a right code whose end is alive lies one value. -/
theorem code_end {l : List FnV} {ts : List TkV} {R : List Int × Nat} (hn : rNest (sgs ts) = some R) (hz : okRevZ (sgs ts).reverse) (he : (rWalk l ts 0 [] []).1 = 0) : wSt l ts 0 [] = (0, 1, []) := by
  rw [rWalk_st] at he
  have h0 : (wSt l ts 0 []).1 = 0 := by
    unfold wEnd at he
    split at he
    · assumption
    · exact he
  have ha := alive_end hz (sOk_nest hn) h0
  obtain ⟨_, h2⟩ := WInv.nil.run ts h0
  have e1 : (wSt l ts 0 []).2.1 = 1 := by
    unfold wEnd at he
    rw [if_pos h0] at he
    split at he
    · cases he
    · omega
  have e2 : (wSt l ts 0 []).2.2 = [] := by
    rw [List.map_nil, nest_ends hn] at h2
    exact List.map_eq_nil_iff.1 h2
  exact Prod.ext h0 (Prod.ext e1 e2)
/-- One block more round a code. -/
theorem rLeave_pre (P : BkV) (hP : P.sign ≠ 91) (h : Int) (bs : List BkV) : ∀ k, rLeave h (P :: bs) (k + 1) = ((rLeave h bs k).1, (rLeave h bs k).2.1, P :: (rLeave h bs k).2.2)
  | 0 => by
    rw [rLeave, rLeave]
    simp only [List.getElem?_cons_zero]
    rw [if_neg hP, rLeave]
  | k + 1 => by
    rw [rLeave, List.getElem?_cons_succ]
    conv => rhs; rw [rLeave]
    cases bs[k]? with
    | none => rfl
    | some x =>
      simp only
      split
      · rfl
      · exact rLeave_pre P hP h bs k
theorem base_pre (P : BkV) (hP : P.base = 0) (bs : List BkV) : baseOf (P :: bs) = baseOf bs := by
  rcases List.eq_nil_or_concat bs with rfl | ⟨ys, x, rfl⟩
  · exact hP
  · rw [List.concat_eq_append, ← List.cons_append]
    unfold baseOf
    simp only [List.getLast?_append, List.getLast?_singleton, Option.some_or]
theorem rTok_pre (P : BkV) (hP : P.sign ≠ 91) (hb : P.base = 0) {l : List FnV} {h : Int} {bs : List BkV} {s name : Int} (he : (rTok l h bs s name).1 = 0) : rTok l h (P :: bs) s name = (0, (rTok l h bs s name).2.1, P :: (rTok l h bs s name).2.2) := by
  by_cases hs : isEnd s
  · rcases List.eq_nil_or_concat bs with rfl | ⟨ys, x, rfl⟩
    · unfold rTok at he
      rw [if_pos hs] at he
      simp at he
    · rw [List.concat_eq_append] at he ⊢
      rw [rTok_end hs] at he
      rw [← List.cons_append, rTok_end hs, rTok_end hs]
      unfold rEnds at he ⊢
      by_cases h58 : s = 58
      · rw [if_pos h58, if_pos h58]; rfl
      · rw [if_neg h58] at he
        rw [if_neg h58, if_neg h58]
        by_cases hx : x.sign = 58
        · rw [if_pos hx] at he
          rw [if_pos hx, if_pos hx]
          by_cases hc : 0 ≤ x.other ∧ 0 ≤ h ∧ x.other ≠ h
          · rw [if_pos hc] at he; simp at he
          · rw [if_neg hc, if_neg hc]
        · rw [if_neg hx] at he
          rw [if_neg hx, if_neg hx]
          by_cases hc : 0 ≤ h ∧ h ≠ x.base
          · rw [if_pos hc] at he; simp at he
          · rw [if_neg hc, if_neg hc]
  · unfold rTok at he ⊢
    rw [if_neg hs] at he
    rw [if_neg hs, if_neg hs]
    by_cases h0 : h < 0
    · rw [if_pos h0] at he; simp at he
    · rw [if_neg h0] at he
      rw [if_neg h0, if_neg h0]
      cases ht : rTakes l s name with
      | mk p r =>
        obtain ⟨q, ok⟩ := r
        rw [ht] at he
        cases ok with
        | false => simp at he
        | true =>
          simp only at he ⊢
          rw [base_pre P hb bs]
          by_cases hc : h - baseOf bs < p ∨ 64 < h - p + q
          · rw [if_pos hc] at he; simp at he
          · rw [if_neg hc] at he
            rw [if_neg hc, if_neg hc]
            by_cases h1 : s = 63 ∨ s = 91
            · rw [if_pos h1, if_pos h1]; rfl
            · rw [if_neg h1] at he
              rw [if_neg h1, if_neg h1]
              by_cases h2 : s = 126
              · rw [if_pos h2] at he
                rw [if_pos h2, if_pos h2, List.length_cons, rLeave_pre P hP]
                rcases hq : rLeave (h - p + q) bs bs.length with ⟨b, h', bs'⟩
                rw [hq] at he
                cases b with
                | true => rfl
                | false => simp at he
              · rw [if_neg h2, if_neg h2]
                by_cases h3 : s = 161
                · rw [if_pos h3, if_pos h3]
                · rw [if_neg h3, if_neg h3]
theorem wSt_pre (P : BkV) (hP : P.sign ≠ 91) (hb : P.base = 0) {l : List FnV} : ∀ (ts : List TkV) (h : Int) (bs : List BkV), (wSt l ts h bs).1 = 0 → wSt l ts h (P :: bs) = (0, (wSt l ts h bs).2.1, P :: (wSt l ts h bs).2.2)
  | [], h, bs, _ => rfl
  | t :: ts, h, bs, he => by
    rw [wSt] at he
    rw [wSt, wSt]
    by_cases h0 : (rTok l h bs t.sign t.name).1 = 0
    · rw [if_pos h0] at he
      rw [if_pos h0, rTok_pre P hP hb h0, if_pos rfl]
      exact wSt_pre P hP hb ts _ _ he
    · rw [if_neg h0] at he; exact absurd he h0
/-- A table of functions with the same names and args. -/
theorem findK_same {name : Int} : ∀ (l : List FnV) (k j : Nat) (f : FnV) (z : ByteArray), l[k]? = some f → findK name (l.set k ⟨f.name, f.args, z⟩) j = findK name l j
  | [], k, j, f, z, h => by simp at h
  | g :: l, 0, j, f, z, h => by
    simp at h; subst h
    rfl
  | g :: l, k + 1, j, f, z, h => by
    simp at h
    rw [List.set_cons_succ, findK, findK, findK_same l k _ f z h]
theorem callA_same (l : List FnV) (k : Nat) (f : FnV) (z : ByteArray) (h : l[k]? = some f) (name : Int) : callA (l.set k ⟨f.name, f.args, z⟩) name = callA l name := by
  unfold callA
  rw [findK_same l k 0 f z h]
  cases findK name l 0 with
  | none => rfl
  | some i =>
    show (match (l.set k ⟨f.name, f.args, z⟩)[i]? with | none => ((0 : Int), (0 : Int), false) | some f => if 0 ≤ f.args ∧ f.args ≤ 4 then (f.args, 1, true) else (0, 0, false)) = (match l[i]? with | none => ((0 : Int), (0 : Int), false) | some f => if 0 ≤ f.args ∧ f.args ≤ 4 then (f.args, 1, true) else (0, 0, false))
    rw [List.getElem?_set]
    by_cases e : k = i
    · subst e
      rw [if_pos rfl, if_pos (List.getElem?_eq_some_iff.1 h).1, h]
    · rw [if_neg e]
theorem rTakes_same (l : List FnV) (k : Nat) (f : FnV) (z : ByteArray) (h : l[k]? = some f) (s name : Int) : rTakes (l.set k ⟨f.name, f.args, z⟩) s name = rTakes l s name := by
  unfold rTakes
  rw [callA_same l k f z h]
theorem rTok_same {l l' : List FnV} (hT : ∀ s name, rTakes l' s name = rTakes l s name) (h : Int) (bs : List BkV) (s name : Int) : rTok l' h bs s name = rTok l h bs s name := by
  unfold rTok
  rw [hT]
theorem wSt_same {l l' : List FnV} (hT : ∀ s name, rTakes l' s name = rTakes l s name) : ∀ (ts : List TkV) (h : Int) (bs : List BkV), wSt l' ts h bs = wSt l ts h bs
  | [], h, bs => rfl
  | t :: ts, h, bs => by
    rw [wSt, wSt, rTok_same hT]
    split
    · exact wSt_same hT ts _ _
    · rfl
theorem rFn_set (l : List FnV) (k : Nat) (f g : FnV) (h : l[k]? = some f) : rFn (l.set k g) (k : Int) = rFunc (l.set k g) g.code := by
  have hl := (List.getElem?_eq_some_iff.1 h).1
  unfold rFn
  rw [if_neg (by rw [List.length_set]; omega), show ((k : Int)).toNat = k from rfl, List.getElem?_set, if_pos rfl, if_pos hl]
theorem rFunc_by {l : List FnV} {z : ByteArray} {ts : List TkV} (hz : z.size ≤ 512) (ht : gRun (runesL z) [] .idle = some ts) {R : List Int × Nat} (hn : rNest (sgs ts) = some R) : (rFunc l z).1 = wEnd (wSt l ts 0 []) := by
  have e := gRun_is z (by omega)
  rw [ht] at e
  unfold rFunc
  rw [e]
  simp only
  rw [show signs ts = sgs ts from rfl, hn]
  simp only
  rw [rWalk_st]
theorem nest_join {a b : List Int} {R S : List Int × Nat} (ha : rNest a = some R) (hb : rNest b = some S) : ∃ T, rNest (a ++ b) = some T := by
  rw [← nest_same] at ha hb
  obtain ⟨t, ht, _⟩ := nest_add ha hb
  exact ⟨_, by rw [← nest_same]; exact ht⟩
/-- What CheckMade asks of a code. -/
theorem made_facts {fl : List FnV} (hg : E.GoodE fl) {k : Nat} {f : FnV} (hk : fl[k]? = some f) :
    (rFn fl (k : Int)).1 = 0 ∧
    (∀ z : ByteArray, z = f.code ++ ⟨#[32, 49]⟩ ∨ z = f.code ++ ⟨#[44]⟩ ∨ z = ⟨#[43]⟩ ++ f.code → z.size ≤ 512 → (rFn (fl.set k ⟨f.name, f.args, z⟩) (k : Int)).1 = 14) ∧
    (∀ z : ByteArray, z = ⟨#[97, 63]⟩ ++ f.code ++ ⟨#[58]⟩ ++ ⟨#[32, 55, 59]⟩ → z.size ≤ 512 → (rFn (fl.set k ⟨f.name, f.args, z⟩) (k : Int)).1 = 0 ∨ (rFn (fl.set k ⟨f.name, f.args, z⟩) (k : Int)).1 = 13) := by
  obtain ⟨h0, hr⟩ := hg.u.func hk
  obtain ⟨ts, t, d, htk, hn, hw⟩ := rFunc_ok h0
  have hend := hg.e f (List.mem_of_getElem? hk)
  have hsz : ¬ 512 < f.code.size := by
    intro hh
    unfold tokR at htk
    rw [if_pos hh] at htk
    cases htk
  have hz := end_toks hend hsz htk
  have hT := fun z => rTakes_same fl k f z hk
  have hrun : gRun (runesL f.code) [] .idle = some ts := by rw [← gRun_is _ hsz]; exact htk
  rw [← hw] at h0
  have hcode := code_end (R := (t, d)) hn hz h0
  refine ⟨by rw [hr, ← hw]; exact h0, fun z e hz5 => ?_, fun z e hz5 => ?_⟩
  · rw [rFn_set fl k f _ hk]
    rcases e with e | e | e
    · have hR : runesL z = runesL f.code ++ [32, 49] := by rw [e, runesL_app _ _ (by decide) (by decide)]; congr 1
      obtain ⟨T, hTn⟩ := nest_join (b := [48]) hn (show rNest [48] = some ([-1], 0) from by decide +kernel)
      rw [rFunc_by hz5 (ts := ts ++ [⟨48, 1, 0⟩]) (by rw [hR]; exact gRun_one hrun) (R := T) (by unfold sgs; rw [List.map_append]; exact hTn)]
      rw [wSt_same (hT z), wSt_app _ _ _ _ _ (by rw [hcode]), hcode]
      rfl
    · have hR : runesL z = runesL f.code ++ [44] := by rw [e, runesL_app _ _ (by decide) (by decide)]; congr 1
      obtain ⟨T, hTn⟩ := nest_join (b := [44]) hn (show rNest [44] = some ([-1], 0) from by decide +kernel)
      rw [rFunc_by hz5 (ts := ts ++ [⟨44, 0, 0⟩]) (by rw [hR]; exact gRun_comma hrun) (R := T) (by unfold sgs; rw [List.map_append]; exact hTn)]
      rw [wSt_same (hT z), wSt_app _ _ _ _ _ (by rw [hcode]), hcode]
      rfl
    · have hR : runesL z = 43 :: runesL f.code := by rw [e]; exact runesL_one 43 (by decide) _
      obtain ⟨T, hTn⟩ := nest_join (a := [43]) (show rNest [43] = some ([-1], 0) from by decide +kernel) hn
      rw [rFunc_by hz5 (ts := ⟨43, 0, 0⟩ :: ts) (by rw [hR]; exact gRun_plus hrun) (R := T) hTn]
      rw [wSt_same (hT z), wSt, show rTok fl 0 [] (TkV.mk 43 0 0).sign (TkV.mk 43 0 0).name = (14, 0, []) from rfl, if_neg (by decide)]
      rfl
  · rw [rFn_set fl k f _ hk]
    have hR : runesL z = 97 :: 63 :: (runesL f.code ++ [58, 32, 55, 59]) := by
      have e2 : z = ⟨#[97]⟩ ++ (⟨#[63]⟩ ++ (f.code ++ ⟨#[58, 32, 55, 59]⟩)) := by
        rw [e]
        have e3 : (⟨#[97, 63]⟩ : ByteArray) = ⟨#[97]⟩ ++ ⟨#[63]⟩ := by decide +kernel
        have e4 : (⟨#[58, 32, 55, 59]⟩ : ByteArray) = ⟨#[58]⟩ ++ ⟨#[32, 55, 59]⟩ := by decide +kernel
        rw [e3, e4]
        simp only [ByteArray.append_assoc]
      rw [e2, runesL_one 97 (by decide), runesL_one 63 (by decide), runesL_app _ _ (by decide) (by decide)]
      rfl
    have htz := gRun_if hrun
    rw [← hR] at htz
    cases hnz : rNest (sgs (⟨97, 0, 0⟩ :: ⟨63, 0, 0⟩ :: (ts ++ [⟨58, 0, 0⟩, ⟨48, 7, 0⟩, ⟨59, 0, 0⟩]))) with
    | none =>
      refine .inr ?_
      have e := gRun_is z (by omega)
      rw [htz] at e
      unfold rFunc
      simp only
      rw [e]
      simp only
      rw [show signs (⟨97, 0, 0⟩ :: ⟨63, 0, 0⟩ :: (ts ++ [⟨58, 0, 0⟩, ⟨48, 7, 0⟩, ⟨59, 0, 0⟩])) = sgs (⟨97, 0, 0⟩ :: ⟨63, 0, 0⟩ :: (ts ++ [⟨58, 0, 0⟩, ⟨48, 7, 0⟩, ⟨59, 0, 0⟩])) from rfl, hnz]
    | some T =>
      refine .inl ?_
      rw [rFunc_by hz5 htz hnz]
      rw [wSt_same (hT z), wSt, show rTok fl 0 [] (TkV.mk 97 0 0).sign (TkV.mk 97 0 0).name = (0, 1, []) from rfl, if_pos rfl]
      rw [wSt, show rTok fl 1 [] (TkV.mk 63 0 0).sign (TkV.mk 63 0 0).name = (0, 0, [⟨63, 0, 0, false⟩]) from rfl, if_pos rfl]
      have hp := wSt_pre ⟨63, 0, 0, false⟩ (by decide) rfl (l := fl) ts 0 [] (by rw [hcode])
      rw [hcode] at hp
      rw [wSt_app _ _ _ _ _ (by rw [hp]), hp]
      rfl
end Go.Proofs.Ytafgpmempgoikaa
