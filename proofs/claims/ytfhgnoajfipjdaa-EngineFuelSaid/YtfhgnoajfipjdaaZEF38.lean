/-
  EF: EngEdges, EngSafe, EngStk.
-/
import Derived.Test.YtfhgnoajfipjdaaZEF25
import Derived.Test.YtfhgnoajfipjdaaZEF26
import Derived.Test.YtfhgnoajfipjdaaZEF34
namespace Go.Proofs.Ytfhgnoajfipjdaa
open Go.RowKit
theorem tok_plain {l : List FnV} {h : Int} {bs : List BkV} {s name : Int} (hs : ¬ isEnd s) (h1 : ¬ (s = 63 ∨ s = 91)) (h2 : s ≠ 126) : (rTok l h bs s name).2.2 = bs := by
  unfold rTok
  rw [if_neg hs]
  by_cases h0 : h < 0
  · rw [if_pos h0]
  · rw [if_neg h0]
    rcases rTakes l s name with ⟨p, q, ok⟩
    cases ok with
    | false => rfl
    | true =>
      simp only
      split
      · rfl
      · split <;> rfl
theorem tok_takes {l : List FnV} {h : Int} {bs : List BkV} {s name p q : Int} (w : WInv h bs) (hs : ¬ isEnd s) (he : (rTok l h bs s name).1 = 0) (ht : rTakes l s name = (p, q, true)) : 0 ≤ h ∧ baseOf bs ≤ h - p ∧ 0 ≤ baseOf bs ∧ rTok l h bs s name = cTurn (h - p + q) bs s := by
  have h0 : 0 ≤ h := by
    rcases Int.lt_or_le h 0 with hl | hl
    · rw [rTok_dead hl, if_neg hs] at he
      simp at he
    · exact hl
  have hb := w.b.base h0
  have hb0 : 0 ≤ baseOf bs := by
    unfold baseOf
    cases hl : bs.getLast? with
    | none => exact Int.le_refl 0
    | some x => exact (w.r x (List.mem_of_getLast? hl)).1
  rw [rTok_alive h0 w.m.2 hb ht] at he ⊢
  by_cases hc : h - baseOf bs < p ∨ 64 < h - p + q
  · rw [if_pos hc] at he; simp at he
  · rw [if_neg hc]
    exact ⟨h0, by omega, hb0, rfl⟩
theorem edge_step {l : List FnV} {ss H : List Int} {n : Nat} {m m' : NSt} {h s name : Int} {bs : List BkV} (J : JInv ss n m h bs H) (w : WInv h bs) (hs : ss[n]? = some s) (ht : nTake n s ⟨m.tO.set n (-1), m.deep, m.op⟩ = some m') (he : (rTok l h bs s name).1 = 0) :
    JInv ss (n + 1) m' (rTok l h bs s name).2.1 (rTok l h bs s name).2.2 (H ++ [(rTok l h bs s name).2.1]) := by
  obtain ⟨t0, d0, op⟩ := m
  have hnl := lt_of_some hs
  have tl : t0.length = ss.length := J.tl
  have Je : ∀ (j : Nat) (x : Int), j < n → ss[j]? = some x → (x = 63 ∨ x = 58 ∨ x = 93 ∨ x = 126) → Pend op j ∨ Edge ss H t0 j := J.e
  have Jr : PBs ss H n op bs := J.r
  simp only at ht
  obtain ⟨R, hR⟩ : ∃ R, R = rTok l h bs s name := ⟨_, rfl⟩
  have heR := he
  rw [← hR] at heR ⊢
  obtain ⟨e0, h', bs'⟩ := R
  simp only at heR ⊢
  subst heR
  have hl' : (H ++ [h']).length = n + 1 + 1 := by rw [List.length_append, J.hl]; rfl
  have hn' : (H ++ [h'])[n + 1]? = some h' := by rw [List.getElem?_append_right (by rw [J.hl]; omega), J.hl, Nat.sub_self]; rfl
  have hnn : (H ++ [h'])[n]? = some h := get_more J.hn
  have hold : ∀ j, j < n → (t0.set n (-1))[j]? = t0[j]? := fun j hj => List.getElem?_set_ne (by omega)
  have mk : ∀ m' : NSt, m'.tO.length = ss.length → PBs ss (H ++ [h']) (n + 1) m'.op bs' → (∀ (j : Nat) (x : Int), j < n → ss[j]? = some x → (x = 63 ∨ x = 58 ∨ x = 93 ∨ x = 126) → Pend m'.op j ∨ Edge ss (H ++ [h']) m'.tO j) →
      ((s = 63 ∨ s = 58 ∨ s = 93 ∨ s = 126) → Pend m'.op n ∨ Edge ss (H ++ [h']) m'.tO n) → JInv ss (n + 1) m' h' bs' (H ++ [h']) := fun m' a b c d => ⟨hl', hn', a, b, fun j x hj hx hk => by
    by_cases e : j = n
    · subst e
      rw [hs] at hx
      injection hx with hx
      subst hx
      exact d hk
    · exact c j x (by omega) hx hk⟩
  unfold nTake at ht
  simp only at ht
  by_cases h1 : s = 63 ∨ s = 91
  · rw [if_pos h1] at ht
    split at ht
    · injection ht with ht
      subst ht
      have hne : ¬ isEnd s := by unfold isEnd; omega
      have hb : ∃ b : Int, 0 ≤ b ∧ h' = b ∧ bs' = bs ++ [⟨s, b, 0, false⟩] ∧ (s = 63 → h = b + 1) ∧ (s = 91 → h = b) := by
        rcases h1 with e | e
        · subst e
          obtain ⟨a1, a2, a3, a4⟩ := tok_takes (p := 1) (q := 0) w hne he rfl
          rw [a4] at hR
          unfold cTurn at hR
          rw [if_neg hne, if_pos (.inl rfl)] at hR
          injection hR with _ hR
          injection hR with r1 r2
          exact ⟨h - 1 + 0, by omega, r1, r2, fun _ => by omega, fun e => by omega⟩
        · subst e
          obtain ⟨a1, a2, a3, a4⟩ := tok_takes (p := 0) (q := 0) w hne he rfl
          rw [a4] at hR
          unfold cTurn at hR
          rw [if_neg hne, if_pos (.inr rfl)] at hR
          injection hR with _ hR
          injection hR with r1 r2
          exact ⟨h - 0 + 0, by omega, r1, r2, fun e => by omega, fun _ => by omega⟩
      obtain ⟨b, b0, rfl, rfl, b1, b2⟩ := hb
      refine mk _ (by rw [List.length_set]; exact tl) (.cons ⟨by simp only; omega, b0, ?_, fun j hj => by simp at hj, fun hj => absurd rfl hj⟩ Jr.more) (fun j x hj hx hk => ?_) (fun hk => ?_)
      · rcases h1 with e | e
        · subst e
          exact .inr (.inl ⟨rfl, rfl, rfl, hs, by rw [hnn, b1 rfl]⟩)
        · subst e
          exact .inl ⟨rfl, rfl, by rw [hnn, b2 rfl]⟩
      · rcases Je j x hj hx hk with ⟨p, hp, hw⟩ | hE
        · exact .inl ⟨p, List.mem_cons_of_mem _ hp, hw⟩
        · exact .inr (hE.more (hold j hj))
      · rcases h1 with e | e
        · subst e
          exact .inl ⟨_, List.mem_cons_self, .inl ⟨rfl, rfl⟩⟩
        · subst e; omega
    · cases ht
  rw [if_neg h1] at ht
  by_cases h58 : s = 58
  · subst h58
    rw [if_pos rfl] at ht
    cases op with
    | nil => cases ht
    | cons p r =>
      simp only at ht
      split at ht
      · rename_i hpw
        injection ht with ht
        subst ht
        obtain ⟨ys, x, rfl, hx, hr⟩ := Jr.head
        rw [rTok_end (.inl rfl)] at hR
        unfold rEnds at hR
        rw [if_pos rfl] at hR
        injection hR with _ hR
        injection hR with r1 r2
        subst r1; subst r2
        have hk2 : x.sign = 63 ∧ ss[p.at_]? = some 63 ∧ H[p.at_]? = some (x.base + 1) := by
          rcases hx.kind with k | k | k
          · rw [hpw.1] at k; cases k.1
          · exact ⟨k.2.1, k.2.2.2⟩
          · have := k.2.2.1; omega
        have hpn := hx.w
        have hEp : Edge ss (H ++ [x.base]) ((t0.set n (-1)).set p.at_ ((n : Int) + 1)) p.at_ := by
          refine ⟨63, x.base + 1, (n : Int) + 1, hk2.2.1, get_more hk2.2.2, List.getElem?_set_self (by rw [List.length_set]; omega), fun _ => ⟨fun _ => ⟨n + 1, rfl, by omega, by have := hx.base; omega, .inl (by rw [hn']; congr 1; omega)⟩, fun e => by omega⟩⟩
        refine mk _ (by rw [List.length_set, List.length_set]; exact tl) (.cons ⟨by simp only; omega, hx.base, .inr (.inr ⟨hpw.1, rfl, by simp only; omega, hs, hnn⟩), fun j hj => ?_, fun hj => ?_⟩ hr.more) (fun j y hj hy hk => ?_) (fun _ => .inl ⟨_, List.mem_cons_self, .inl ⟨hpw.1, rfl⟩⟩)
        · have := hx.left j hj
          exact ⟨by omega, this.2.1, get_more this.2.2⟩
        · have := (hx.lf hj).1
          rw [hpw.1] at this
          cases this
        · by_cases ej : j = p.at_
          · subst ej; exact .inr hEp
          · rcases Je j y hj hy hk with ⟨q, hq, hw⟩ | hE
            · rcases List.mem_cons.1 hq with rfl | hq
              · rcases hw with hw | hw
                · omega
                · exact .inl ⟨_, List.mem_cons_self, .inr hw⟩
              · exact .inl ⟨q, List.mem_cons_of_mem _ hq, hw⟩
            · exact .inr (hE.more (by rw [List.getElem?_set_ne (by omega)]; exact hold j hj))
      · cases ht
  rw [if_neg h58] at ht
  by_cases h59 : s = 59
  · subst h59
    rw [if_pos rfl] at ht
    cases op with
    | nil => cases ht
    | cons p r =>
      simp only at ht
      split at ht
      · rename_i hpl
        injection ht with ht
        subst ht
        obtain ⟨ys, x, rfl, hx, hr⟩ := Jr.head
        rw [rTok_end (.inr (.inl rfl))] at hR
        have hpn := hx.w
        have hbs : bs' = ys ∧ (x.sign = 63 → h' = x.base) ∧ (x.sign = 58 → 0 ≤ x.other → h' = x.other) := by
          unfold rEnds at hR
          rw [if_neg (by omega)] at hR
          by_cases hx58 : x.sign = 58
          · rw [if_pos hx58] at hR
            by_cases hc : 0 ≤ x.other ∧ 0 ≤ h ∧ x.other ≠ h
            · rw [if_pos hc] at hR; simp at hR
            · rw [if_neg hc] at hR
              simp only [Prod.mk.injEq, true_and] at hR
              exact ⟨hR.2, fun e => by omega, fun _ e => by omega⟩
          · rw [if_neg hx58] at hR
            by_cases hc : 0 ≤ h ∧ h ≠ x.base
            · rw [if_pos hc] at hR; simp at hR
            · rw [if_neg hc] at hR
              simp only [Prod.mk.injEq, true_and] at hR
              refine ⟨hR.2, fun e => ?_, fun e => absurd e hx58⟩
              rw [hR.1, if_neg (by omega)]
        obtain ⟨rfl, g1, g2⟩ := hbs
        have hEp : Edge ss (H ++ [h']) ((t0.set n (-1)).set p.waits (n : Int)) p.waits := by
          rcases hx.kind with k | k | k
          · rw [hpl] at k; cases k.1
          · rw [k.2.2.1]
            refine ⟨63, x.base + 1, (n : Int), k.2.2.2.1, get_more k.2.2.2.2, List.getElem?_set_self (by rw [List.length_set]; omega), fun _ => ⟨fun _ => ⟨n, rfl, by omega, by have := hx.base; omega, .inr ⟨hs, by rw [hn', g1 k.2.1]; congr 1; omega⟩⟩, fun e => by omega⟩⟩
          · refine ⟨58, x.other, (n : Int), k.2.2.2.1, get_more k.2.2.2.2, List.getElem?_set_self (by rw [List.length_set]; omega), fun h0 => ⟨fun e => by omega, fun _ => ⟨n, rfl, by omega, h0, .inr ⟨hs, by rw [hn', g2 k.2.1 h0]⟩⟩⟩⟩
        refine mk _ (by rw [List.length_set, List.length_set]; exact tl) hr.more (fun j y hj hy hk => ?_) (fun e => by omega)
        by_cases ej : j = p.waits
        · subst ej; exact .inr hEp
        · rcases Je j y hj hy hk with ⟨q, hq, hw⟩ | hE
          · rcases List.mem_cons.1 hq with rfl | hq
            · rcases hw with hw | hw
              · omega
              · have := (hx.lf (List.ne_nil_of_mem hw)).1
                rw [hpl] at this
                cases this
            · exact .inl ⟨q, hq, hw⟩
          · exact .inr (hE.more (by rw [List.getElem?_set_ne (by omega)]; exact hold j hj))
      · cases ht
  rw [if_neg h59] at ht
  by_cases h93 : s = 93
  · subst h93
    rw [if_pos rfl] at ht
    cases op with
    | nil => cases ht
    | cons p r =>
      simp only at ht
      split at ht
      · rename_i hpl
        injection ht with ht
        subst ht
        obtain ⟨ys, x, rfl, hx, hr⟩ := Jr.head
        rw [rTok_end (.inr (.inr rfl))] at hR
        have hpn := hx.w
        have hk1 : x.sign = 91 ∧ H[p.at_]? = some x.base := by
          rcases hx.kind with k | k | k
          · exact k.2
          · rw [hpl] at k; cases k.1
          · rw [hpl] at k; cases k.1
        have hbs : bs' = ys ∧ (0 ≤ h → h = x.base) ∧ (x.left = true → h' = x.base) := by
          unfold rEnds at hR
          rw [if_neg (by omega), if_neg (by rw [hk1.1]; decide)] at hR
          by_cases hc : 0 ≤ h ∧ h ≠ x.base
          · rw [if_pos hc] at hR; simp at hR
          · rw [if_neg hc] at hR
            simp only [Prod.mk.injEq, true_and] at hR
            refine ⟨hR.2, fun e => by omega, fun e => ?_⟩
            rw [hR.1, if_neg (by rw [e]; simp)]
        obtain ⟨rfl, g1, g2⟩ := hbs
        have hnl2 : n ∉ p.left := fun hh => by have := (hx.left n hh).1; omega
        refine mk _ (by rw [setAll_len, List.length_set, List.length_set]; exact tl) hr.more (fun j y hj hy hk => ?_) (fun _ => .inr ?_)
        · by_cases ej : j ∈ p.left
          · have hlj := hx.left j ej
            have hle := (hx.lf (List.ne_nil_of_mem ej)).2
            refine .inr ⟨126, x.base, (n : Int) + 1, hlj.2.1, get_more hlj.2.2, (setAll_get _ _ _ j).2 ej (by rw [List.length_set, List.length_set]; omega), fun _ => ⟨fun e => by omega, fun _ => ⟨n + 1, rfl, by omega, hx.base, .inl (by rw [hn', g2 hle])⟩⟩⟩
          · rcases Je j y hj hy hk with ⟨q, hq, hw⟩ | hE
            · rcases List.mem_cons.1 hq with rfl | hq
              · rcases hw with hw | hw
                · rw [hpl] at hw; cases hw.1
                · exact absurd hw ej
              · exact .inl ⟨q, hq, hw⟩
            · exact .inr (hE.more (by rw [(setAll_get _ _ _ j).1 ej, List.getElem?_set_ne (by omega)]; exact hold j hj))
        · refine ⟨93, h, (p.at_ : Int), hs, hnn, ?_, fun h0 => ⟨fun e => by omega, fun _ => ⟨p.at_, rfl, by omega, h0, .inl (by rw [g1 h0]; exact get_more hk1.2)⟩⟩⟩
          rw [(setAll_get _ _ _ n).1 hnl2]
          exact List.getElem?_set_self (by rw [List.length_set]; omega)
      · cases ht
  rw [if_neg h93] at ht
  have hne : ¬ isEnd s := by unfold isEnd; omega
  by_cases h126 : s = 126
  · subst h126
    rw [if_pos rfl] at ht
    cases ho : leaveP n op with
    | none => rw [ho] at ht; cases ht
    | some o =>
      rw [ho] at ht
      injection ht with ht
      subst ht
      obtain ⟨a1, a2, a3, a4⟩ := tok_takes (p := 0) (q := 0) w hne he rfl
      rw [a4] at hR
      unfold cTurn at hR
      rw [if_neg hne, if_neg h1, if_pos rfl, show h - 0 + 0 = h from by omega] at hR
      unfold lLeave at hR
      have hL := leave_both (ss := ss) (H := H) (y := h') hs J.hn Jr ho
      rcases hq : rLeave h bs bs.length with ⟨b, h2, bs2⟩
      rw [hq] at hR hL
      cases b with
      | false => simp at hR
      | true =>
        simp only [Prod.mk.injEq, true_and] at hR
        obtain ⟨r1, r2⟩ := hR
        subst r2
        obtain ⟨L1, L2, L3⟩ := hL rfl
        refine mk _ (by rw [List.length_set]; exact tl) L1 (fun j y hj hy hk => ?_) (fun _ => .inl L2)
        rcases Je j y hj hy hk with hP | hE
        · exact .inl (L3 j hP)
        · exact .inr (hE.more (hold j hj))
  rw [if_neg h126] at ht
  injection ht with ht
  subst ht
  have hbs : bs' = bs := by
    have := tok_plain (l := l) (h := h) (bs := bs) (name := name) hne h1 h126
    rw [← hR] at this
    exact this
  subst hbs
  refine mk _ (by rw [List.length_set]; exact tl) Jr.more (fun j y hj hy hk => ?_) (fun e => by omega)
  rcases Je j y hj hy hk with hP | hE
  · exact .inl hP
  · exact .inr (hE.more (hold j hj))
end Go.Proofs.Ytfhgnoajfipjdaa
namespace Go.Proofs.Ytfhgnoajfipjdaa
open Go.RowKit
/-- From a height to the next. -/
structure StepF (l : List FnV) (t : TkV) (a b : Int) : Prop where
  plain : ¬ Odd1 t.sign → 0 ≤ a ∧ ∃ p q, rTakes l t.sign t.name = (p, q, true) ∧ p ≤ a ∧ b = a - p + q
  semi : t.sign = 59 → 0 ≤ a → b = a
  dead : t.sign = 126 ∨ t.sign = 161 → 0 ≤ a
  rng : a ≤ 64
theorem step_fact {l : List FnV} {ss H : List Int} {n : Nat} {m m' : NSt} {h : Int} {t : TkV} {bs : List BkV} (J : JInv ss n m h bs H) (w : WInv h bs) (ht : nTake n t.sign ⟨m.tO.set n (-1), m.deep, m.op⟩ = some m') (he : (rTok l h bs t.sign t.name).1 = 0) :
    StepF l t h (rTok l h bs t.sign t.name).2.1 := by
  have hal : ¬ isEnd t.sign → 0 ≤ h := fun hne => by
    rcases Int.lt_or_le h 0 with hl | hl
    · rw [rTok_dead hl, if_neg hne] at he
      simp at he
    · exact hl
  refine ⟨fun ho => ?_, fun e h0 => ?_, fun e => hal (by unfold isEnd; omega), w.m.2⟩
  · have h0 := hal (by unfold Odd1 at ho; unfold isEnd; omega)
    exact ⟨h0, (rTok_more w.b w.r w.m he).2 h0 ho⟩
  · rw [e] at he ht ⊢
    have Jr := J.r
    obtain ⟨t0, d0, op⟩ := m
    unfold nTake at ht
    rw [if_neg (by omega), if_neg (by omega), if_pos rfl] at ht
    simp only at ht Jr
    cases op with
    | nil => cases ht
    | cons p r =>
      simp only at ht
      split at ht
      · rename_i hpl
        obtain ⟨ys, x, rfl, hx, hr⟩ := Jr.head
        have hx91 : x.sign ≠ 91 := by
          rcases hx.kind with k | k | k
          · rw [hpl] at k; cases k.1
          · rw [k.2.1]; decide
          · rw [k.2.1]; decide
        obtain ⟨R, hR⟩ : ∃ R, R = rTok l h (ys ++ [x]) 59 t.name := ⟨_, rfl⟩
        rw [← hR] at he ⊢
        rw [rTok_end (.inr (.inl rfl))] at hR
        obtain ⟨e0, h', bs'⟩ := R
        simp only at he ⊢
        subst he
        unfold rEnds at hR
        rw [if_neg (by omega)] at hR
        by_cases hx58 : x.sign = 58
        · rw [if_pos hx58] at hR
          by_cases hc : 0 ≤ x.other ∧ 0 ≤ h ∧ x.other ≠ h
          · rw [if_pos hc] at hR; simp at hR
          · rw [if_neg hc] at hR
            simp only [Prod.mk.injEq, true_and] at hR
            omega
        · rw [if_neg hx58] at hR
          by_cases hc : 0 ≤ h ∧ h ≠ x.base
          · rw [if_pos hc] at hR; simp at hR
          · rw [if_neg hc] at hR
            simp only [Prod.mk.injEq, true_and] at hR
            rw [hR.1, if_neg (fun hh => hx91 hh.1)]
            omega
      · cases ht
def AllF (l : List FnV) (ts : List TkV) (n : Nat) (H : List Int) : Prop := ∀ (i : Nat) (t : TkV) (a b : Int), i < n → ts[i]? = some t → H[i]? = some a → H[i + 1]? = some b → StepF l t a b
theorem edges_run {l : List FnV} {ts : List TkV} : ∀ (rest : List TkV) (n : Nat) (m m' : NSt) (h : Int) (bs : List BkV) (H : List Int), n + rest.length = ts.length → (∀ i : Nat, rest[i]? = ts[n + i]?) → JInv (sgs ts) n m h bs H → WInv h bs → AllF l ts n H → H[0]? = some 0 →
    nRun n (sgs rest) m = some m' → (wSt l rest h bs).1 = 0 → ∃ H', JInv (sgs ts) ts.length m' (wSt l rest h bs).2.1 (wSt l rest h bs).2.2 H' ∧ AllF l ts ts.length H' ∧ H'[0]? = some 0
  | [], n, m, m', h, bs, H, hl, _, J, w, hA, h0, e, _ => by
    have : n = ts.length := by simpa using hl
    subst this
    injection e with e
    subst e
    exact ⟨H, J, hA, h0⟩
  | t :: rest, n, m, m', h, bs, H, hl, hr, J, w, hA, h0, e, he => by
    have htn : ts[n]? = some t := by have := hr 0; simpa using this.symm
    have hs : (sgs ts)[n]? = some t.sign := by unfold sgs; rw [List.getElem?_map, htn]; rfl
    have e' : nRun n (t.sign :: sgs rest) m = some m' := e
    unfold nRun at e'
    cases ht : nTake n t.sign ⟨m.tO.set n (-1), m.deep, m.op⟩ with
    | none => rw [ht] at e'; cases e'
    | some m1 =>
      rw [ht] at e'
      replace e' : nRun (n + 1) (sgs rest) m1 = some m' := e'
      rw [wSt] at he ⊢
      by_cases hz : (rTok l h bs t.sign t.name).1 = 0
      · rw [if_pos hz] at he ⊢
        have hstep := step_fact J w ht hz
        have J2 := edge_step J w hs ht hz
        refine edges_run rest (n + 1) m1 m' _ _ _ (by simp at hl; omega) (fun i => by have := hr (i + 1); rw [show n + 1 + i = n + (i + 1) from by omega]; simpa using this) J2 (w.tok hz).1 ?_ (get_more h0) e' he
        intro i u a b hi hu ha hb
        by_cases ei : i = n
        · subst ei
          rw [htn] at hu
          injection hu with hu
          subst hu
          rw [get_more J.hn] at ha
          injection ha with ha
          rw [J2.hn] at hb
          injection hb with hb
          subst ha; subst hb
          exact hstep
        · have hia : i + 1 < H.length := by rw [J.hl]; omega
          rw [List.getElem?_append_left (by omega)] at ha
          rw [List.getElem?_append_left hia] at hb
          exact hA i u a b (by omega) hu ha hb
      · rw [if_neg hz] at he; exact absurd he hz
/-- A code that is right: its heights, and where one goes. -/
structure Sound (l : List FnV) (ts : List TkV) (go : List Int) (H : List Int) : Prop where
  hl : H.length = ts.length + 1
  h0 : H[0]? = some 0
  gl : go.length = ts.length
  st : AllF l ts ts.length H
  ed : ∀ (j : Nat) (s : Int), (sgs ts)[j]? = some s → (s = 63 ∨ s = 58 ∨ s = 93 ∨ s = 126) → Edge (sgs ts) H go j
  fin : ∀ h, H[ts.length]? = some h → 0 ≤ h → h = 1
theorem code_sound {l : List FnV} {ts : List TkV} {R : List Int × Nat} (hn : rNest (sgs ts) = some R) (he : (rWalk l ts 0 [] []).1 = 0) : ∃ H, Sound l ts R.1 H := by
  rw [rWalk_st] at he
  have hz : (wSt l ts 0 []).1 = 0 := by
    unfold wEnd at he
    split at he
    · assumption
    · exact he
  rw [← nest_same] at hn
  obtain ⟨t, d⟩ := R
  obtain ⟨hr, _, htl⟩ := nNest_some hn
  have hsl : (sgs ts).length = ts.length := by unfold sgs; rw [List.length_map]
  obtain ⟨H, J, hA, h0⟩ := edges_run (l := l) (ts := ts) ts 0 _ _ 0 [] [0] (by omega) (fun i => by rw [Nat.zero_add]) ⟨rfl, rfl, by simp, .nil, fun j s hj => by omega⟩ WInv.nil (fun i u a b hi => by omega) rfl hr hz
  refine ⟨H, J.hl, h0, by rw [htl, hsl], hA, fun j s hs hk => ?_, fun h hh hp => ?_⟩
  · rcases J.e j s (by have := lt_of_some hs; omega) hs hk with ⟨p, hp, _⟩ | hE
    · simp at hp
    · exact hE
  · have e := J.hn
    rw [hh] at e
    injection e with e
    unfold wEnd at he
    rw [if_pos hz] at he
    split at he
    · cases he
    · omega
end Go.Proofs.Ytfhgnoajfipjdaa
namespace Go.Proofs.Ytfhgnoajfipjdaa
open Go.RowKit
/-- A call that goes on at its next token with such a height of its own. -/
structure Seg (us : List FnV) (c : CallV) (h : Nat) : Prop where
  code : ∃ f ts go H, us[c.fn]? = some f ∧ codeOf f = ⟨f.args.toNat, ts, go⟩ ∧ Sound us ts go H ∧ Fine (sgs ts) H (c.next : Int) (h : Int)
  loc : c.loc.length = 26
/-- Calls that wait for a value, and how much they hold. -/
inductive Sus (us : List FnV) : List CallV → Nat → Prop
  | nil : Sus us [] 0
  | cons {cs : List CallV} {b h : Nat} {c : CallV} : Sus us cs b → Seg us c (h + 1) → Sus us (cs ++ [c]) (b + h)
def Stk (us : List FnV) (cs : List CallV) (n : Nat) : Prop := (cs = [] ∧ n = 1) ∨ ∃ cs' c b h, cs = cs' ++ [c] ∧ Sus us cs' b ∧ Seg us c h ∧ n = b + h
theorem Sus.back {us : List FnV} {cs : List CallV} {b : Nat} (h : Sus us cs b) : Stk us cs (b + 1) := by
  cases h with
  | nil => exact .inl ⟨rfl, rfl⟩
  | cons a c => exact .inr ⟨_, _, _, _, rfl, a, c, by omega⟩
theorem sgs_get {ts : List TkV} {i : Nat} {t : TkV} (h : ts[i]? = some t) : (sgs ts)[i]? = some t.sign := by unfold sgs; rw [List.getElem?_map, h]; rfl
theorem sgs_len (ts : List TkV) : (sgs ts).length = ts.length := by unfold sgs; rw [List.length_map]
section
variable {us l : List FnV} {ts : List TkV} {go H : List Int} {i : Nat} {h : Int} {t : TkV}
theorem Fine.end_ (S : Sound l ts go H) (f : Fine (sgs ts) H (ts.length : Int) h) : h = 1 := by
  obtain ⟨j, hj, _, h0, hh⟩ := f
  have e : j = ts.length := by omega
  subst e
  rcases hh with hh | ⟨hh, _⟩
  · exact S.fin h hh h0
  · have := lt_of_some hh
    rw [sgs_len] at this
    omega
theorem Sound.next (S : Sound l ts go H) (hi : i < ts.length) : ∃ b, H[i + 1]? = some b := ⟨H[i + 1]'(by rw [S.hl]; omega), by simp⟩
theorem Fine.of_at {j : Nat} {x : Int} (S : Sound l ts go H) (hj : H[j]? = some x) (hx : 0 ≤ x) : Fine (sgs ts) H (j : Int) x := ⟨j, rfl, by have := lt_of_some hj; rw [S.hl] at this; rw [sgs_len]; omega, hx, .inl hj⟩
theorem Fine.here (f : Fine (sgs ts) H (i : Int) h) (ht : ts[i]? = some t) (hn : t.sign ≠ 59) : 0 ≤ h ∧ H[i]? = some h := by
  obtain ⟨j, hj, _, h0, hh⟩ := f
  have e : j = i := by omega
  subst e
  rcases hh with hh | ⟨hh, _⟩
  · exact ⟨h0, hh⟩
  · rw [sgs_get ht] at hh
    injection hh with hh
    exact absurd hh hn
/-- A token that goes on to the next. -/
theorem Fine.plain (S : Sound l ts go H) (f : Fine (sgs ts) H (i : Int) h) (ht : ts[i]? = some t) (ho : ¬ Odd1 t.sign) {p q : Int} (hp : rTakes l t.sign t.name = (p, q, true)) : p ≤ h ∧ 0 ≤ h ∧ Fine (sgs ts) H ((i + 1 : Nat) : Int) (h - p + q) := by
  obtain ⟨h0, hh⟩ := f.here ht (by unfold Odd1 at ho; omega)
  obtain ⟨b, hb⟩ := S.next (lt_of_some ht)
  obtain ⟨_, p', q', e1, e2, e3⟩ := (S.st i t h b (lt_of_some ht) ht hh hb).plain ho
  rw [hp] at e1
  simp only [Prod.mk.injEq, and_true] at e1
  obtain ⟨rfl, rfl⟩ := e1
  have hin := rTakes_in l t.sign t.name
  rw [hp] at hin
  simp only at hin
  exact ⟨e2, h0, by rw [← e3]; exact .of_at S hb (by omega)⟩
theorem Fine.takes (S : Sound l ts go H) (f : Fine (sgs ts) H (i : Int) h) (ht : ts[i]? = some t) (ho : ¬ Odd1 t.sign) : ∃ p q, rTakes l t.sign t.name = (p, q, true) := by
  obtain ⟨h0, hh⟩ := f.here ht (by unfold Odd1 at ho; omega)
  obtain ⟨b, hb⟩ := S.next (lt_of_some ht)
  obtain ⟨_, p', q', e1, _⟩ := (S.st i t h b (lt_of_some ht) ht hh hb).plain ho
  exact ⟨p', q', e1⟩
/-- ; goes on to the next. -/
theorem Fine.semi (S : Sound l ts go H) (f : Fine (sgs ts) H (i : Int) h) (ht : ts[i]? = some t) (he : t.sign = 59) : Fine (sgs ts) H ((i + 1 : Nat) : Int) h := by
  obtain ⟨j, hj, _, h0, hh⟩ := f
  have e : j = i := by omega
  subst e
  obtain ⟨b, hb⟩ := S.next (lt_of_some ht)
  rcases hh with hh | ⟨_, hh⟩
  · have := (S.st j t h b (lt_of_some ht) ht hh hb).semi he h0
    rw [← this]
    exact .of_at S hb (by omega)
  · exact .of_at S hh h0
/-- : ] ~ go where they belong. -/
theorem Fine.jump (S : Sound l ts go H) (f : Fine (sgs ts) H (i : Int) h) (ht : ts[i]? = some t) (he : t.sign = 58 ∨ t.sign = 93 ∨ t.sign = 126) : ∃ v, go[i]? = some v ∧ Fine (sgs ts) H v h := by
  obtain ⟨h0, hh⟩ := f.here ht (by omega)
  obtain ⟨s, hj, v, e1, e2, e3, e4⟩ := S.ed i t.sign (sgs_get ht) (by omega)
  rw [sgs_get ht] at e1
  injection e1 with e1
  rw [hh] at e2
  injection e2 with e2
  subst e1; subst e2
  exact ⟨v, e3, (e4 h0).2 he⟩
/-- ? goes there for 0. -/
theorem Fine.ask (S : Sound l ts go H) (f : Fine (sgs ts) H (i : Int) h) (ht : ts[i]? = some t) (he : t.sign = 63) : ∃ v, go[i]? = some v ∧ Fine (sgs ts) H v (h - 1) := by
  obtain ⟨h0, hh⟩ := f.here ht (by omega)
  obtain ⟨s, hj, v, e1, e2, e3, e4⟩ := S.ed i t.sign (sgs_get ht) (by omega)
  rw [sgs_get ht] at e1
  injection e1 with e1
  rw [hh] at e2
  injection e2 with e2
  subst e1; subst e2
  exact ⟨v, e3, (e4 h0).1 he⟩
end
/-- Programs whose codes are right. -/
structure SafeU (us : List FnV) : Prop where
  func : ∀ {k : Nat} {f : FnV}, us[k]? = some f → (rFunc us f.code).1 = 0
  args : ∀ f ∈ us, 0 ≤ f.args ∧ f.args ≤ 4
theorem GoodU.safe {us : List FnV} (h : GoodU us) : SafeU us := ⟨fun hk => (h.func hk).1, fun f hf => by have := h.args f hf; omega⟩
/-- The codes of a right program. -/
theorem good_code {us : List FnV} (hg : SafeU us) {k : Nat} {f : FnV} (hk : us[k]? = some f) : ∃ ts go H, codeOf f = ⟨f.args.toNat, ts, go⟩ ∧ Sound us ts go H := by
  have h0 := hg.func hk
  have h1 := rFunc_add us [] f.code h0
  obtain ⟨ts, t, d, htk, hn, hw⟩ := rFunc_ok h0
  rw [← hw] at h0
  obtain ⟨H, hS⟩ := code_sound (R := (t, d)) hn h0
  refine ⟨ts, t, H, ?_, hS⟩
  unfold codeOf
  rw [htk]
  simp only
  rw [hn]
/-- A call begins. -/
theorem good_call {us : List FnV} (hg : SafeU us) {k : Nat} {f : FnV} (hk : us[k]? = some f) {s : EgV} (ha : f.args.toNat ≤ s.st.length) {b : Nat} (hs : Sus us s.cs b) (hb : b = s.st.length - f.args.toNat) : ∃ s', eCall (us.map codeOf) k s = some s' ∧ Stk us s'.cs s'.st.length ∧ s'.fuel = s.fuel ∧ s'.cs.length = s.cs.length + 1 ∧ s'.L = s.L ∧ s'.V = s.V ∧ s'.qs = s.qs := by
  obtain ⟨ts, go, H, hc, hS⟩ := good_code hg hk
  have ha2 := hg.args f (List.mem_of_getElem? hk)
  unfold eCall
  rw [List.getElem?_map, hk]
  simp only [Option.map_some, hc]
  rw [if_neg (by omega)]
  refine ⟨_, rfl, .inr ⟨_, _, b, 0, rfl, hs, ⟨⟨f, ts, go, H, hk, hc, hS, 0, rfl, Nat.zero_le _, by omega, .inl hS.h0⟩, ?_⟩, ?_⟩, rfl, by simp, rfl, rfl, rfl⟩
  · simp only [List.length_append, List.length_drop, List.length_replicate]
    omega
  · simp only [List.length_take]
    omega
end Go.Proofs.Ytfhgnoajfipjdaa
