/-
  EC: EngGo, EgRun, EngQs, EngEdge.
-/
import Derived.Test.YtfhgnoajfipjdaaZEC26
import Derived.Test.YtfhgnoajfipjdaaZEC28
import Derived.Test.YtfhgnoajfipjdaaZEC31
namespace Go.Proofs.Ytfhgnoajfipjdaa
open Go.RowKit
theorem pop_fu {s s1 : EgV} {x : Int} (h : s.pop = some (x, s1)) : s1.fuel = s.fuel := by
  unfold EgV.pop at h
  split at h
  · cases h
  · injection h with h; injection h with _ h; subst h; rfl
theorem jump_fu {s s1 : EgV} {v : Int} (h : s.jump v = some s1) : s1.fuel = s.fuel := by
  unfold EgV.jump at h
  split at h
  · cases h
  · split at h
    · cases h
    · injection h with h
      subst h
      rfl
theorem call_fu {cd : List CodeV} {k : Nat} {s s1 : EgV} (h : eCall cd k s = some s1) : s1.fuel = s.fuel := by
  unfold eCall at h
  split at h
  · cases h
  · split at h
    · cases h
    · injection h with h
      subst h
      rfl
theorem mem_fu {most : Nat} {sg tr : Int} {s s1 : EgV} (h : eMem most sg s = some (tr, s1)) : s1.fuel = s.fuel := by
  unfold eMem at h
  split at h
  · injection h with h; injection h with _ h; subst h; rfl
  · split at h
    · cases h
    · rename_i x s2 hp
      have e := pop_fu hp
      split at h
      · split at h <;> (injection h with h; injection h with _ h; subst h; exact e)
      · split at h
        · split at h <;> (injection h with h; injection h with _ h; subst h; exact e)
        · split at h
          · cases h
          · rename_i k s3 hp3
            have e3 := pop_fu hp3
            by_cases hc : 0 ≤ k ∧ k + (if sg = 36 then 8 else 1) ≤ (s3.L.length : Int)
            · rw [if_pos hc] at h
              injection h with h; injection h with _ h; subst h; exact e3.trans e
            · rw [if_neg hc] at h
              injection h with h; injection h with _ h; subst h; exact e3.trans e
theorem reckon_fu {sg tr : Int} {s s1 : EgV} (h : eReckon sg s = some (tr, s1)) : s1.fuel = s.fuel := by
  unfold eReckon at h
  split at h
  · split at h
    · cases h
    · split at h
      · cases h
      · injection h with h; injection h with _ h; subst h; rfl
  · split at h
    · split at h
      · cases h
      · rename_i x s2 hp
        have e := pop_fu hp
        split at h
        · cases h
        · injection h with h; injection h with _ h; subst h
          exact e
    · have hb : ∀ b s2, (if sg = 33 then some ((0 : Int), s) else s.pop) = some (b, s2) → s2.fuel = s.fuel := fun b s2 hh => by
        by_cases h33 : sg = 33
        · rw [if_pos h33] at hh; injection hh with hh; injection hh with _ hh; subst hh; rfl
        · rw [if_neg h33] at hh; exact pop_fu hh
      generalize (if sg = 33 then some ((0 : Int), s) else s.pop) = q at h hb
      cases q with
      | none => cases h
      | some q =>
        obtain ⟨b, s2⟩ := q
        have e := hb b s2 rfl
        simp only at h
        split at h
        · cases h
        · rename_i a s3 hp
          have e3 := pop_fu hp
          injection h with h; injection h with _ h; subst h
          split
          · exact e3.trans e
          · exact e3.trans e
theorem step_fu {us : List FnV} {cd : List CodeV} {rs : List (Option Int)} {most : Nat} {t : TkV} {v tr : Int} {s s1 : EgV} (h : eStep us cd rs most t v s = some (tr, s1)) : s1.fuel = s.fuel := by
  have fin : ∀ {q : Option EgV}, (∀ z, q = some z → z.fuel = s.fuel) → q.map (fun z => ((0 : Int), z)) = some (tr, s1) → s1.fuel = s.fuel := fun {q} hq hh => by
    cases q with
    | none => cases hh
    | some z => simp only [Option.map_some] at hh; injection hh with hh; injection hh with _ hh; subst hh; exact hq z rfl
  unfold eStep at h
  by_cases c1 : t.sign = 48
  · rw [if_pos c1] at h
    injection h with h; injection h with _ h; subst h; rfl
  rw [if_neg c1] at h
  by_cases c2 : t.sign = 46
  · rw [if_pos c2] at h
    split at h
    · cases h
    · injection h with h; injection h with _ h; subst h; rfl
  rw [if_neg c2] at h
  by_cases c3 : t.sign = 44
  · rw [if_pos c3] at h
    cases hp : s.pop with
    | none => rw [hp] at h; cases h
    | some q =>
      obtain ⟨x, s2⟩ := q
      rw [hp] at h
      simp only [Option.map_some] at h
      injection h with h; injection h with _ h; subst h
      exact pop_fu hp
  rw [if_neg c3] at h
  by_cases c4 : t.sign = 63
  · rw [if_pos c4] at h
    split at h
    · cases h
    · rename_i x s2 hp
      have e := pop_fu hp
      split at h
      · exact fin (fun z hz => (jump_fu hz).trans e) h
      · injection h with h; injection h with _ h; subst h; exact e
  rw [if_neg c4] at h
  by_cases c5 : t.sign = 58 ∨ t.sign = 93 ∨ t.sign = 126
  · rw [if_pos c5] at h
    exact fin (fun z hz => jump_fu hz) h
  rw [if_neg c5] at h
  by_cases c6 : t.sign = 59 ∨ t.sign = 91
  · rw [if_pos c6] at h
    injection h with h; injection h with _ h; subst h; rfl
  rw [if_neg c6] at h
  by_cases c7 : t.sign = 35 ∨ t.sign = 164 ∨ t.sign = 64 ∨ t.sign = 169 ∨ t.sign = 36 ∨ t.sign = 174
  · rw [if_pos c7] at h
    exact mem_fu h
  rw [if_neg c7] at h
  by_cases c8 : t.sign = 955
  · rw [if_pos c8] at h
    split at h
    · injection h with h; injection h with _ h; subst h; rfl
    · split at h
      · cases h
      · exact fin (fun z hz => call_fu hz) h
  rw [if_neg c8] at h
  by_cases c9 : t.sign = 960
  · rw [if_pos c9] at h
    split at h
    · cases h
    · rename_i x s2 hp
      have e := pop_fu hp
      split at h
      · injection h with h; injection h with _ h; subst h; exact e
      · injection h with h; injection h with _ h; subst h; exact e
  rw [if_neg c9] at h
  by_cases c10 : t.sign = 161
  · rw [if_pos c10] at h
    injection h with h; injection h with _ h; subst h; rfl
  · rw [if_neg c10] at h
    exact reckon_fu h
/-- One turn of the loop: stuck, at its end, or on. -/
inductive OneR where
  | stuck
  | stop (r : Int × EgV)
  | on (s : EgV)
def eOne (us : List FnV) (cd : List CodeV) (rs : List (Option Int)) (most : Nat) (s : EgV) : OneR := match s.cs.getLast? with
  | none => .stop (0, s)
  | some c => match cd[c.fn]? with
    | none => .stuck
    | some f => if c.next = f.ts.length then .on (s.calls s.cs.dropLast)
      else if s.fuel = 0 then .stop (1, s)
      else match f.ts[c.next]?, f.go[c.next]? with
        | some t, some go => (match eStep us cd rs most t go ⟨s.fuel - 1, s.st, s.cs.dropLast ++ [c.at_ (c.next + 1)], s.L, s.V, s.qs⟩ with
          | none => .stuck
          | some (trap, s') => if trap = 0 then .on s' else .stop (trap, s'))
        | _, _ => .stuck
theorem eRun_one {us : List FnV} {cd : List CodeV} {rs : List (Option Int)} {most n : Nat} {s : EgV} : eRun us cd rs most (n + 1) s = match eOne us cd rs most s with
    | .stuck => none
    | .stop r => some r
    | .on s' => eRun us cd rs most n s' := by
  rw [eRun, eOne]
  cases hc : s.cs.getLast? with
  | none => rfl
  | some c =>
    simp only
    cases hf : cd[c.fn]? with
    | none => rfl
    | some f =>
      simp only
      by_cases h1 : c.next = f.ts.length
      · rw [if_pos h1, if_pos h1]
      rw [if_neg h1, if_neg h1]
      by_cases h2 : s.fuel = 0
      · rw [if_pos h2, if_pos h2]
      rw [if_neg h2, if_neg h2]
      cases ht : f.ts[c.next]? with
      | none => rfl
      | some t =>
        cases hg : f.go[c.next]? with
        | none => rfl
        | some go =>
          simp only
          cases hs : eStep us cd rs most t go ⟨s.fuel - 1, s.st, s.cs.dropLast ++ [c.at_ (c.next + 1)], s.L, s.V, s.qs⟩ with
          | none => rfl
          | some q =>
            obtain ⟨tr, s'⟩ := q
            simp only
            by_cases h3 : tr = 0
            · rw [if_pos h3, if_pos h3]
            · rw [if_neg h3, if_neg h3]
theorem eOne_less {us : List FnV} {cd : List CodeV} {rs : List (Option Int)} {most : Nat} {s s' : EgV} (h : eOne us cd rs most s = .on s') : 2 * s'.fuel + s'.cs.length < 2 * s.fuel + s.cs.length := by
  unfold eOne at h
  split at h
  · cases h
  · rename_i c hc
    have hcl : 0 < s.cs.length := List.length_pos_iff.2 (fun e => by rw [e] at hc; simp at hc)
    split at h
    · cases h
    · split at h
      · injection h with h
        subst h
        simp [EgV.calls]
        omega
      · split at h
        · cases h
        · rename_i hf0
          split at h
          · split at h
            · cases h
            · rename_i tr s2 hs
              split at h
              · injection h with h
                subst h
                have e1 := step_fu hs
                have e2 := step_cs hs
                simp only [List.length_append, List.length_dropLast, List.length_singleton] at e1 e2
                omega
              · cases h
          · cases h
/-- From s one comes to the end r. -/
inductive Rn (us : List FnV) (cd : List CodeV) (rs : List (Option Int)) (most : Nat) : EgV → Int × EgV → Prop
  | stop {s : EgV} {r : Int × EgV} : eOne us cd rs most s = .stop r → Rn us cd rs most s r
  | on {s s' : EgV} {r : Int × EgV} : eOne us cd rs most s = .on s' → Rn us cd rs most s' r → Rn us cd rs most s r
theorem Rn.run {us : List FnV} {cd : List CodeV} {rs : List (Option Int)} {most : Nat} {s : EgV} {r : Int × EgV} (h : Rn us cd rs most s r) : ∀ n, 2 * s.fuel + s.cs.length < n → eRun us cd rs most n s = some r := by
  induction h with
  | stop h =>
    intro n hn
    obtain ⟨m, rfl⟩ : ∃ m, n = m + 1 := ⟨n - 1, by omega⟩
    rw [eRun_one, h]
  | on h _ ih =>
    intro n hn
    obtain ⟨m, rfl⟩ : ∃ m, n = m + 1 := ⟨n - 1, by omega⟩
    rw [eRun_one, h]
    exact ih m (by have := eOne_less h; omega)
theorem Rn.of_run {us : List FnV} {cd : List CodeV} {rs : List (Option Int)} {most : Nat} : ∀ (n : Nat) {s : EgV} {r : Int × EgV}, eRun us cd rs most n s = some r → Rn us cd rs most s r
  | 0, s, r, h => by rw [eRun] at h; cases h
  | n + 1, s, r, h => by
    rw [eRun_one] at h
    cases h1 : eOne us cd rs most s with
    | stuck => rw [h1] at h; cases h
    | stop q => rw [h1] at h; injection h with h; subst h; exact .stop h1
    | on s' => rw [h1] at h; exact .on h1 (Rn.of_run n h)
end Go.Proofs.Ytfhgnoajfipjdaa
namespace Go.Proofs.Ytfhgnoajfipjdaa
open Go.RowKit
theorem one_cases {P : EP} {s : EgV} {r : Int × EgV} (h : Rn P.us P.cd P.rs P.most s r) : (s.cs = [] ∧ r = (0, s)) ∨ ∃ ys c x, s.cs = ys ++ [c] ∧ P.xs[c.fn]? = some x ∧
    ((c.next = x.c.ts.length ∧ Rn P.us P.cd P.rs P.most (s.calls ys) r) ∨ (c.next ≠ x.c.ts.length ∧ s.fuel = 0 ∧ r = (1, s)) ∨
      (c.next ≠ x.c.ts.length ∧ s.fuel ≠ 0 ∧ ∃ t go tr s3, x.c.ts[c.next]? = some t ∧ x.c.go[c.next]? = some go ∧ eStep P.us P.cd P.rs P.most t go ⟨s.fuel - 1, s.st, ys ++ [c.at_ (c.next + 1)], s.L, s.V, s.qs⟩ = some (tr, s3) ∧
        ((tr = 0 ∧ Rn P.us P.cd P.rs P.most s3 r) ∨ (tr ≠ 0 ∧ r = (tr, s3))))) := by
  have key : ∀ R, eOne P.us P.cd P.rs P.most s = R → (R = .stop r ∨ ∃ s', R = .on s' ∧ Rn P.us P.cd P.rs P.most s' r) → (s.cs = [] ∧ r = (0, s)) ∨ ∃ ys c x, s.cs = ys ++ [c] ∧ P.xs[c.fn]? = some x ∧
    ((c.next = x.c.ts.length ∧ Rn P.us P.cd P.rs P.most (s.calls ys) r) ∨ (c.next ≠ x.c.ts.length ∧ s.fuel = 0 ∧ r = (1, s)) ∨
      (c.next ≠ x.c.ts.length ∧ s.fuel ≠ 0 ∧ ∃ t go tr s3, x.c.ts[c.next]? = some t ∧ x.c.go[c.next]? = some go ∧ eStep P.us P.cd P.rs P.most t go ⟨s.fuel - 1, s.st, ys ++ [c.at_ (c.next + 1)], s.L, s.V, s.qs⟩ = some (tr, s3) ∧
        ((tr = 0 ∧ Rn P.us P.cd P.rs P.most s3 r) ∨ (tr ≠ 0 ∧ r = (tr, s3))))) := by
    intro R hR hq
    unfold eOne at hR
    cases hl : s.cs.getLast? with
    | none =>
      rw [hl] at hR
      simp only at hR
      subst hR
      refine .inl ⟨by simpa using hl, ?_⟩
      rcases hq with hq | ⟨s', hq, _⟩
      · injection hq with hq; exact hq.symm
      · cases hq
    | some c =>
      obtain ⟨ys, hcs, hdl⟩ := last_some hl
      rw [hl, hdl] at hR
      simp only at hR
      unfold EP.cd at hR
      rw [List.getElem?_map] at hR
      cases hx : P.xs[c.fn]? with
      | none =>
        rw [hx] at hR
        simp only [Option.map_none] at hR
        subst hR
        rcases hq with hq | ⟨s', hq, _⟩ <;> cases hq
      | some x =>
        rw [hx] at hR
        simp only [Option.map_some] at hR
        refine .inr ⟨ys, c, x, hcs, hx, ?_⟩
        by_cases h1 : c.next = x.c.ts.length
        · rw [if_pos h1] at hR
          subst hR
          rcases hq with hq | ⟨s', hq, hs'⟩
          · cases hq
          · injection hq with hq; subst hq; exact .inl ⟨h1, hs'⟩
        rw [if_neg h1] at hR
        by_cases h2 : s.fuel = 0
        · rw [if_pos h2] at hR
          subst hR
          rcases hq with hq | ⟨s', hq, hs'⟩
          · injection hq with hq; exact .inr (.inl ⟨h1, h2, hq.symm⟩)
          · cases hq
        rw [if_neg h2] at hR
        cases ht : x.c.ts[c.next]? with
        | none =>
          rw [ht] at hR
          simp only at hR
          subst hR
          rcases hq with hq | ⟨s', hq, _⟩ <;> cases hq
        | some t =>
          cases hg : x.c.go[c.next]? with
          | none =>
            rw [ht, hg] at hR
            simp only at hR
            subst hR
            rcases hq with hq | ⟨s', hq, _⟩ <;> cases hq
          | some go =>
            rw [ht, hg] at hR
            simp only at hR
            have hcd : List.map (fun x => x.c) P.xs = P.cd := rfl
            rw [hcd] at hR
            cases hs : eStep P.us P.cd P.rs P.most t go ⟨s.fuel - 1, s.st, ys ++ [c.at_ (c.next + 1)], s.L, s.V, s.qs⟩ with
            | none =>
              rw [hs] at hR
              simp only at hR
              subst hR
              rcases hq with hq | ⟨s', hq, _⟩ <;> cases hq
            | some q =>
              obtain ⟨tr, s3⟩ := q
              rw [hs] at hR
              simp only at hR
              refine .inr (.inr ⟨h1, h2, t, go, tr, s3, rfl, rfl, hs, ?_⟩)
              by_cases h3 : tr = 0
              · rw [if_pos h3] at hR
                subst hR
                rcases hq with hq | ⟨s', hq, hs'⟩
                · cases hq
                · injection hq with hq; subst hq; exact .inl ⟨h3, hs'⟩
              · rw [if_neg h3] at hR
                subst hR
                rcases hq with hq | ⟨s', hq, hs'⟩
                · injection hq with hq; exact .inr ⟨h3, hq.symm⟩
                · cases hq
  cases h with
  | stop h => exact key _ h (.inl rfl)
  | on h h2 => exact key _ h (.inr ⟨_, rfl, h2⟩)
/-- What the loop's measure reads. -/
def runM (g : Nat) (w : World) : Nat := (match w.cell? ⟨g, 6, none⟩ with | some (.int _ f) => 2 * f.toNat | _ => 0) + (match w.cell? ⟨g, 8, none⟩ with | some (.slice _ n _) => n | _ => 0)
section
variable {P : EP} {W W' : World} {vs vc : Value} {s : EgV}
theorem Eg.runM (h : Eg P W vs vc s) : runM P.g W = 2 * s.fuel + s.cs.length := by
  obtain ⟨A, n, c, rfl, hn, _⟩ := h.cslice
  have k6 : W.cell? ⟨P.g, 6, none⟩ = some (.int .i64 (s.fuel : Int)) := h.rec_.cell 6
  have k8 : W.cell? ⟨P.g, 8, none⟩ = some (.slice A n c) := h.rec_.cell 8
  unfold Go.Proofs.Ytfhgnoajfipjdaa.runM
  rw [k6, k8]
  simp only [Int.toNat_natCast]
  omega
/-- The last call is taken away. -/
theorem Eg.back (h : Eg P W vs vc s) {ys : List CallV} {c : CallV} (hcs : s.cs = ys ++ [c]) {g cap : Nat} (hv : vc = .slice (some ⟨g, 0, none⟩) (ys.length + 1) cap) {W2 : World} (hc : Chg [] W W2) :
    Eg P (W2.setCell ⟨P.g, 8, none⟩ (.slice (some ⟨g, 0, none⟩) ys.length cap)) vs (.slice (some ⟨g, 0, none⟩) ys.length cap) (s.calls ys) ∧ Fe P.K egT W (W2.setCell ⟨P.g, 8, none⟩ (.slice (some ⟨g, 0, none⟩) ys.length cap)) := by
  subst hv
  have h2 := h.keep hc
  have hloc := h.loc
  rw [hcs] at hloc
  have ho := h2.cal
  rw [hcs, show (ys ++ [c]).length = ys.length + 1 from by simp] at ho
  have ht := rown_take (q' := ys.length) ho (by omega) (by simp)
  rw [clCs_app, List.take_left' (by rw [clCs_len (Loc26.app.1 hloc).1])] at ht
  have hf : Fe P.K eg3 W (W2.setCell ⟨P.g, 8, none⟩ (.slice (some ⟨g, 0, none⟩) ys.length cap)) := (Fe.of_chg hc).setw h2.rec_ h.kg (by simp [eg3]) _
  exact ⟨h.upd hf eg3_is (h2.rec_.set_ 8 _) (rown_lay h2.stk h2.rec_ (by decide)) (rown_lay ht h2.rec_ (by decide)) (Loc26.app.1 hloc).1 (Nat.le_refl _) h.stkb (by have := h.calb; rw [hcs] at this; simp at this; omega), hf.sub eg3_sub⟩
/-- The fuel. -/
theorem Eg.burn (h : Eg P W vs vc s) (hf0 : s.fuel ≠ 0) : Eg P (W.setCell ⟨P.g, 6, none⟩ (.int .i64 ((s.fuel : Int) - 1))) vs vc ⟨s.fuel - 1, s.st, s.cs, s.L, s.V, s.qs⟩ ∧ Fe P.K egT W (W.setCell ⟨P.g, 6, none⟩ (.int .i64 ((s.fuel : Int) - 1))) := by
  have hf : Fe P.K eg3 W (W.setCell ⟨P.g, 6, none⟩ (.int .i64 ((s.fuel : Int) - 1))) := (Fe.refl _ _ _).setw h.rec_ h.kg (by simp [eg3]) _
  refine ⟨h.upd hf eg3_is ?_ (rown_lay h.stk h.rec_ (by decide)) (rown_lay h.cal h.rec_ (by decide)) h.loc (by omega) (by have := h.stkb; omega) h.calb, hf.sub eg3_sub⟩
  have := h.rec_.set_ 6 (.int .i64 ((s.fuel : Int) - 1))
  rw [show (s.fuel : Int) - 1 = ((s.fuel - 1 : Nat) : Int) from by omega] at this ⊢
  exact this
end
end Go.Proofs.Ytfhgnoajfipjdaa
namespace Go.Proofs.Ytfhgnoajfipjdaa
open Go.RowKit
def QR (a b : EgV) : Prop := ∃ z, a.qs = b.qs ++ z
theorem QR.same {a b : EgV} (h : a.qs = b.qs) : QR a b := ⟨[], by simp [h]⟩
theorem QR.trans {a b c : EgV} (h : QR a b) (k : QR b c) : QR a c := by
  obtain ⟨z, hz⟩ := h
  obtain ⟨y, hy⟩ := k
  exact ⟨y ++ z, by rw [hz, hy, List.append_assoc]⟩
theorem pop_qs {s s1 : EgV} {x : Int} (h : s.pop = some (x, s1)) : QR s1 s := by
  unfold EgV.pop at h
  split at h
  · cases h
  · injection h with h; injection h with _ h; subst h; exact QR.same rfl
theorem jump_qs {s s1 : EgV} {v : Int} (h : s.jump v = some s1) : QR s1 s := by
  unfold EgV.jump at h
  split at h
  · cases h
  · split at h
    · cases h
    · injection h with h
      subst h
      exact QR.same rfl
theorem call_qs {cd : List CodeV} {k : Nat} {s s1 : EgV} (h : eCall cd k s = some s1) : QR s1 s := by
  unfold eCall at h
  split at h
  · cases h
  · split at h
    · cases h
    · injection h with h
      subst h
      exact QR.same rfl
theorem mem_qs {most : Nat} {sg tr : Int} {s s1 : EgV} (h : eMem most sg s = some (tr, s1)) : QR s1 s := by
  unfold eMem at h
  split at h
  · injection h with h; injection h with _ h; subst h; exact QR.same rfl
  · split at h
    · cases h
    · rename_i x s2 hp
      have e := pop_qs hp
      split at h
      · split at h <;> (injection h with h; injection h with _ h; subst h; exact (QR.same rfl).trans e)
      · split at h
        · split at h <;> (injection h with h; injection h with _ h; subst h; exact (QR.same rfl).trans e)
        · split at h
          · cases h
          · rename_i k s3 hp3
            have e3 := pop_qs hp3
            by_cases hc : 0 ≤ k ∧ k + (if sg = 36 then 8 else 1) ≤ (s3.L.length : Int)
            · rw [if_pos hc] at h
              injection h with h; injection h with _ h; subst h; exact (QR.same rfl).trans (e3.trans e)
            · rw [if_neg hc] at h
              injection h with h; injection h with _ h; subst h; exact (QR.same rfl).trans (e3.trans e)
theorem reckon_qs {sg tr : Int} {s s1 : EgV} (h : eReckon sg s = some (tr, s1)) : QR s1 s := by
  unfold eReckon at h
  split at h
  · split at h
    · cases h
    · split at h
      · cases h
      · injection h with h; injection h with _ h; subst h; exact QR.same rfl
  · split at h
    · split at h
      · cases h
      · rename_i x s2 hp
        have e := pop_qs hp
        split at h
        · cases h
        · injection h with h; injection h with _ h; subst h
          exact (QR.same rfl).trans e
    · have hb : ∀ b s2, (if sg = 33 then some ((0 : Int), s) else s.pop) = some (b, s2) → QR s2 s := fun b s2 hh => by
        by_cases h33 : sg = 33
        · rw [if_pos h33] at hh; injection hh with hh; injection hh with _ hh; subst hh; exact QR.same rfl
        · rw [if_neg h33] at hh; exact pop_qs hh
      generalize (if sg = 33 then some ((0 : Int), s) else s.pop) = q at h hb
      cases q with
      | none => cases h
      | some q =>
        obtain ⟨b, s2⟩ := q
        have e := hb b s2 rfl
        simp only at h
        split at h
        · cases h
        · rename_i a s3 hp
          have e3 := pop_qs hp
          injection h with h; injection h with _ h; subst h
          split
          · exact (QR.same rfl).trans (e3.trans e)
          · exact e3.trans e
theorem step_qs {us : List FnV} {cd : List CodeV} {rs : List (Option Int)} {most : Nat} {t : TkV} {v tr : Int} {s s1 : EgV} (h : eStep us cd rs most t v s = some (tr, s1)) : QR s1 s := by
  have fin : ∀ {q : Option EgV}, (∀ z, q = some z → QR z s) → q.map (fun z => ((0 : Int), z)) = some (tr, s1) → QR s1 s := fun {q} hq hh => by
    cases q with
    | none => cases hh
    | some z => simp only [Option.map_some] at hh; injection hh with hh; injection hh with _ hh; subst hh; exact hq z rfl
  unfold eStep at h
  by_cases c1 : t.sign = 48
  · rw [if_pos c1] at h
    injection h with h; injection h with _ h; subst h; exact QR.same rfl
  rw [if_neg c1] at h
  by_cases c2 : t.sign = 46
  · rw [if_pos c2] at h
    split at h
    · cases h
    · injection h with h; injection h with _ h; subst h; exact QR.same rfl
  rw [if_neg c2] at h
  by_cases c3 : t.sign = 44
  · rw [if_pos c3] at h
    cases hp : s.pop with
    | none => rw [hp] at h; cases h
    | some q =>
      obtain ⟨x, s2⟩ := q
      rw [hp] at h
      simp only [Option.map_some] at h
      injection h with h; injection h with _ h; subst h
      exact pop_qs hp
  rw [if_neg c3] at h
  by_cases c4 : t.sign = 63
  · rw [if_pos c4] at h
    split at h
    · cases h
    · rename_i x s2 hp
      have e := pop_qs hp
      split at h
      · exact fin (fun z hz => (jump_qs hz).trans e) h
      · injection h with h; injection h with _ h; subst h; exact e
  rw [if_neg c4] at h
  by_cases c5 : t.sign = 58 ∨ t.sign = 93 ∨ t.sign = 126
  · rw [if_pos c5] at h
    exact fin (fun z hz => jump_qs hz) h
  rw [if_neg c5] at h
  by_cases c6 : t.sign = 59 ∨ t.sign = 91
  · rw [if_pos c6] at h
    injection h with h; injection h with _ h; subst h; exact QR.same rfl
  rw [if_neg c6] at h
  by_cases c7 : t.sign = 35 ∨ t.sign = 164 ∨ t.sign = 64 ∨ t.sign = 169 ∨ t.sign = 36 ∨ t.sign = 174
  · rw [if_pos c7] at h
    exact mem_qs h
  rw [if_neg c7] at h
  by_cases c8 : t.sign = 955
  · rw [if_pos c8] at h
    split at h
    · injection h with h; injection h with _ h; subst h; exact QR.same rfl
    · split at h
      · cases h
      · exact fin (fun z hz => call_qs hz) h
  rw [if_neg c8] at h
  by_cases c9 : t.sign = 960
  · rw [if_pos c9] at h
    split at h
    · cases h
    · rename_i x s2 hp
      have e := pop_qs hp
      split at h
      · injection h with h; injection h with _ h; subst h; exact QR.trans (b := s2) ⟨_, rfl⟩ e
      · injection h with h; injection h with _ h; subst h; exact QR.trans (b := s2) ⟨_, rfl⟩ e
  rw [if_neg c9] at h
  by_cases c10 : t.sign = 161
  · rw [if_pos c10] at h
    injection h with h; injection h with _ h; subst h; exact QR.same rfl
  · rw [if_neg c10] at h
    exact reckon_qs h
theorem one_qs {us : List FnV} {cd : List CodeV} {rs : List (Option Int)} {most : Nat} {s : EgV} : (∀ s', eOne us cd rs most s = .on s' → QR s' s) ∧ (∀ r, eOne us cd rs most s = .stop r → QR r.2 s) := by
  have key : ∀ R, eOne us cd rs most s = R → (∀ s', R = .on s' → QR s' s) ∧ (∀ r, R = .stop r → QR r.2 s) := by
    intro R h
    unfold eOne at h
    split at h
    · subst h
      exact ⟨fun s' e => (by cases e), fun r e => by injection e with e; subst e; exact QR.same rfl⟩
    · split at h
      · subst h
        exact ⟨fun s' e => (by cases e), fun r e => (by cases e)⟩
      · split at h
        · subst h
          exact ⟨fun s' e => by injection e with e; subst e; exact QR.same rfl, fun r e => (by cases e)⟩
        · split at h
          · subst h
            exact ⟨fun s' e => (by cases e), fun r e => by injection e with e; subst e; exact QR.same rfl⟩
          · split at h
            · split at h
              · subst h
                exact ⟨fun s' e => (by cases e), fun r e => (by cases e)⟩
              · rename_i hs
                have e1 := step_qs hs
                split at h
                · subst h
                  exact ⟨fun s' e => by injection e with e; subst e; exact e1.trans (QR.same rfl), fun r e => (by cases e)⟩
                · subst h
                  exact ⟨fun s' e => (by cases e), fun r e => by injection e with e; subst e; exact e1.trans (QR.same rfl)⟩
            · subst h
              exact ⟨fun s' e => (by cases e), fun r e => (by cases e)⟩
  exact key _ rfl
theorem Rn.qs {us : List FnV} {cd : List CodeV} {rs : List (Option Int)} {most : Nat} {s : EgV} {r : Int × EgV} (h : Rn us cd rs most s r) : QR r.2 s := by
  induction h with
  | stop h => exact one_qs.2 _ h
  | on h _ ih => exact ih.trans (one_qs.1 _ h)
end Go.Proofs.Ytfhgnoajfipjdaa
namespace Go.Proofs.Ytfhgnoajfipjdaa
open Go.RowKit
/-- One may come to a place with such a height. -/
def Fine (ss H : List Int) (v h : Int) : Prop := ∃ j : Nat, v = (j : Int) ∧ j ≤ ss.length ∧ 0 ≤ h ∧ (H[j]? = some h ∨ (ss[j]? = some 59 ∧ H[j + 1]? = some h))
def Edge (ss H t : List Int) (j : Nat) : Prop := ∃ s hj v, ss[j]? = some s ∧ H[j]? = some hj ∧ t[j]? = some v ∧ (0 ≤ hj → (s = 63 → Fine ss H v (hj - 1)) ∧ (s = 58 ∨ s = 93 ∨ s = 126 → Fine ss H v hj))
def Pend (op : List NPart) (j : Nat) : Prop := ∃ p ∈ op, (p.loop = false ∧ p.waits = j) ∨ j ∈ p.left
structure PB (ss H : List Int) (n : Nat) (p : NPart) (b : BkV) : Prop where
  w : p.at_ ≤ p.waits ∧ p.waits < n
  base : 0 ≤ b.base
  kind : (p.loop = true ∧ b.sign = 91 ∧ H[p.at_]? = some b.base) ∨ (p.loop = false ∧ b.sign = 63 ∧ p.waits = p.at_ ∧ ss[p.at_]? = some 63 ∧ H[p.at_]? = some (b.base + 1)) ∨ (p.loop = false ∧ b.sign = 58 ∧ p.at_ < p.waits ∧ ss[p.waits]? = some 58 ∧ H[p.waits]? = some b.other)
  left : ∀ j ∈ p.left, j < n ∧ ss[j]? = some 126 ∧ H[j]? = some b.base
  lf : p.left ≠ [] → p.loop = true ∧ b.left = true
theorem get_more {H : List Int} {j : Nat} {x y : Int} (h : H[j]? = some x) : (H ++ [y])[j]? = some x := by
  rw [List.getElem?_append_left (List.getElem?_eq_some_iff.1 h).1]; exact h
theorem Fine.more {ss H : List Int} {v h y : Int} (f : Fine ss H v h) : Fine ss (H ++ [y]) v h := by
  obtain ⟨j, h1, h2, h3, h4⟩ := f
  exact ⟨j, h1, h2, h3, h4.imp get_more fun ⟨a, b⟩ => ⟨a, get_more b⟩⟩
theorem Edge.more {ss H t t' : List Int} {j : Nat} {y : Int} (e : Edge ss H t j) (ht : t'[j]? = t[j]?) : Edge ss (H ++ [y]) t' j := by
  obtain ⟨s, hj, v, h1, h2, h3, h4⟩ := e
  exact ⟨s, hj, v, h1, get_more h2, ht.trans h3, fun h0 => ⟨fun e => ((h4 h0).1 e).more, fun e => ((h4 h0).2 e).more⟩⟩
theorem PB.more {ss H : List Int} {n : Nat} {p : NPart} {b : BkV} {y : Int} (h : PB ss H n p b) : PB ss (H ++ [y]) (n + 1) p b :=
  ⟨by have := h.w; omega, h.base, h.kind.imp (fun ⟨a, b, c⟩ => ⟨a, b, get_more c⟩) (fun k => k.imp (fun ⟨a, b, c, d, e⟩ => ⟨a, b, c, d, get_more e⟩) (fun ⟨a, b, c, d, e⟩ => ⟨a, b, c, d, get_more e⟩)),
    fun j hj => by have := h.left j hj; exact ⟨by omega, this.2.1, get_more this.2.2⟩, h.lf⟩
inductive PBs (ss H : List Int) (n : Nat) : List NPart → List BkV → Prop
  | nil : PBs ss H n [] []
  | cons {p : NPart} {b : BkV} {op : List NPart} {bs : List BkV} : PB ss H n p b → PBs ss H n op bs → PBs ss H n (p :: op) (bs ++ [b])
theorem PBs.more {ss H : List Int} {n : Nat} {y : Int} : ∀ {op : List NPart} {bs : List BkV}, PBs ss H n op bs → PBs ss (H ++ [y]) (n + 1) op bs
  | _, _, .nil => .nil
  | _, _, .cons h r => .cons h.more r.more
theorem PBs.head {ss H : List Int} {n : Nat} {p : NPart} {op : List NPart} {bs : List BkV} (h : PBs ss H n (p :: op) bs) : ∃ ys x, bs = ys ++ [x] ∧ PB ss H n p x ∧ PBs ss H n op ys := by
  cases h with
  | cons a b => exact ⟨_, _, rfl, a, b⟩
structure JInv (ss : List Int) (n : Nat) (m : NSt) (h : Int) (bs : List BkV) (H : List Int) : Prop where
  hl : H.length = n + 1
  hn : H[n]? = some h
  tl : m.tO.length = ss.length
  r : PBs ss H n m.op bs
  e : ∀ (j : Nat) (s : Int), j < n → ss[j]? = some s → (s = 63 ∨ s = 58 ∨ s = 93 ∨ s = 126) → Pend m.op j ∨ Edge ss H m.tO j
theorem setAll_get (v : Int) : ∀ (l : List Nat) (t : List Int) (j : Nat), (j ∉ l → (setAll v l t)[j]? = t[j]?) ∧ (j ∈ l → j < t.length → (setAll v l t)[j]? = some v)
  | [], t, j => ⟨fun _ => rfl, fun h => by cases h⟩
  | k :: l, t, j => by
    rw [setAll]
    obtain ⟨h1, h2⟩ := setAll_get v l (t.set k v) j
    refine ⟨fun hn => ?_, fun hm hl => ?_⟩
    · rw [h1 (fun h => hn (List.mem_cons_of_mem _ h)), List.getElem?_set_ne (fun e => hn (by simp [e]))]
    · by_cases hj : j ∈ l
      · exact h2 hj (by rw [List.length_set]; exact hl)
      · rcases List.mem_cons.1 hm with e | e
        · subst e
          rw [h1 hj]
          exact List.getElem?_set_self hl
        · exact absurd e hj
theorem rLeave_app (h : Int) (ys : List BkV) (x : BkV) : ∀ k, k ≤ ys.length → rLeave h (ys ++ [x]) k = ((rLeave h ys k).1, (rLeave h ys k).2.1, (rLeave h ys k).2.2 ++ [x])
  | 0, _ => rfl
  | k + 1, hk => by
    rw [rLeave, List.getElem?_append_left (by omega)]
    conv => rhs; rw [rLeave]
    have hlt : k < ys.length := by omega
    rw [List.getElem?_eq_getElem hlt]
    simp only
    split
    · rw [List.set_append_left _ _ hlt]
    · exact rLeave_app h ys x k (by omega)
theorem rLeave_last (h : Int) (ys : List BkV) (x : BkV) : rLeave h (ys ++ [x]) (ys ++ [x]).length = if x.sign = 91 then (h == x.base, -1, ys ++ [⟨x.sign, x.base, x.other, true⟩]) else ((rLeave h ys ys.length).1, (rLeave h ys ys.length).2.1, (rLeave h ys ys.length).2.2 ++ [x]) := by
  rw [List.length_append, List.length_singleton, rLeave, List.getElem?_append_right (Nat.le_refl _), Nat.sub_self, List.getElem?_cons_zero]
  simp only
  split
  · rw [List.set_append_right _ _ (Nat.le_refl _), Nat.sub_self]; rfl
  · exact rLeave_app h ys x _ (Nat.le_refl _)
/-- ~ : the innermost loop. -/
theorem leave_both {ss H : List Int} {n : Nat} {h : Int} (hs : ss[n]? = some 126) (hH : H[n]? = some h) {y : Int} : ∀ {op o : List NPart} {bs : List BkV}, PBs ss H n op bs → leaveP n op = some o → (rLeave h bs bs.length).1 = true →
    PBs ss (H ++ [y]) (n + 1) o (rLeave h bs bs.length).2.2 ∧ Pend o n ∧ ∀ j, Pend op j → Pend o j
  | _, o, _, .nil, hl, _ => by cases hl
  | _, o, _, .cons (p := p) (b := b) (op := op) (bs := bs) hp hr, hl, ht => by
    rw [rLeave_last] at ht ⊢
    unfold leaveP at hl
    by_cases hlp : p.loop = true
    · rw [if_pos hlp] at hl
      injection hl with hl
      subst hl
      have hb : b.sign = 91 := by
        rcases hp.kind with k | k | k
        · exact k.2.1
        · rw [hlp] at k; cases k.1
        · rw [hlp] at k; cases k.1
      rw [if_pos hb] at ht ⊢
      have hbase : h = b.base := by simpa using ht
      refine ⟨.cons ⟨by have := hp.w; simp only; omega, hp.base, ?_, fun j hj => ?_, fun _ => ⟨hlp, rfl⟩⟩ hr.more, ⟨_, List.mem_cons_self, .inr (by simp)⟩, fun j hj => ?_⟩
      · rcases hp.kind with k | k | k
        · exact .inl ⟨k.1, k.2.1, get_more k.2.2⟩
        · rw [hlp] at k; cases k.1
        · rw [hlp] at k; cases k.1
      · rcases List.mem_append.1 hj with hj | hj
        · have := hp.left j hj
          exact ⟨by omega, this.2.1, get_more this.2.2⟩
        · rw [List.mem_singleton] at hj
          subst hj
          exact ⟨by omega, hs, by rw [← hbase]; exact get_more hH⟩
      · obtain ⟨q, hq, hw⟩ := hj
        rcases List.mem_cons.1 hq with rfl | hq
        · refine ⟨_, List.mem_cons_self, .inr ?_⟩
          rcases hw with hw | hw
          · rw [hlp] at hw; cases hw.1
          · simp [hw]
        · exact ⟨q, List.mem_cons_of_mem _ hq, hw⟩
    · rw [if_neg hlp] at hl
      have hb : b.sign ≠ 91 := by
        rcases hp.kind with k | k | k
        · exact absurd k.1 hlp
        · rw [k.2.1]; decide
        · rw [k.2.1]; decide
      rw [if_neg hb] at ht ⊢
      cases ho : leaveP n op with
      | none => rw [ho] at hl; cases hl
      | some o' =>
        rw [ho] at hl
        injection hl with hl
        subst hl
        obtain ⟨h1, ⟨q0, hq0, hw0⟩, h3⟩ := leave_both hs hH (y := y) hr ho ht
        refine ⟨.cons hp.more h1, ⟨q0, List.mem_cons_of_mem _ hq0, hw0⟩, fun j hj => ?_⟩
        obtain ⟨q, hq, hw⟩ := hj
        rcases List.mem_cons.1 hq with rfl | hq
        · exact ⟨_, List.mem_cons_self, hw⟩
        · obtain ⟨q', hq', hw'⟩ := h3 j ⟨q, hq, hw⟩
          exact ⟨q', List.mem_cons_of_mem _ hq', hw'⟩
end Go.Proofs.Ytfhgnoajfipjdaa
