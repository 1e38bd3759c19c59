/-
  EC: EngStep, EngStep2, EngStep3, EngStep4, EngRun, FuelP.
-/
import Derived.Test.YtfhgnoajfipjdaaZEC26
import Derived.Test.YtfhgnoajfipjdaaZEC32
import Derived.Test.YtfhgnoajfipjdaaZEC34
namespace Go.Proofs.Ytfhgnoajfipjdaa
open Go.RowKit
/-- A run that has come to a token: the innermost call, with so much of its own. -/
structure Now (us : List FnV) (s : EgV) (cs : List CallV) (c : CallV) (b h : Nat) (f : FnV) (ts : List TkV) (go H : List Int) : Prop where
  hc : s.cs = cs ++ [c]
  sus : Sus us cs b
  fn : us[c.fn]? = some f
  code : codeOf f = ⟨f.args.toNat, ts, go⟩
  snd : Sound us ts go H
  len : s.st.length = b + h
  loc : c.loc.length = 26
theorem Now.stk {us : List FnV} {s : EgV} {cs : List CallV} {c : CallV} {b h : Nat} {f : FnV} {ts : List TkV} {go H : List Int} (N : Now us s cs c b h f ts go H) (hf : Fine (sgs ts) H (c.next : Int) (h : Int)) : Stk us s.cs s.st.length :=
  .inr ⟨cs, c, b, h, N.hc, N.sus, ⟨⟨f, ts, go, H, N.fn, N.code, N.snd, hf⟩, N.loc⟩, N.len⟩
section
variable {us : List FnV} {s : EgV} {cs : List CallV} {c : CallV} {b h : Nat} {f : FnV} {ts : List TkV} {go H : List Int}
theorem Now.push (N : Now us s cs c b h f ts go H) (x : Int) : Now us (s.push x) cs c b (h + 1) f ts go H :=
  ⟨N.hc, N.sus, N.fn, N.code, N.snd, by simp [EgV.push, N.len]; omega, N.loc⟩
theorem Now.pop (N : Now us s cs c b (h + 1) f ts go H) : ∃ x s', s.pop = some (x, s') ∧ Now us s' cs c b h f ts go H ∧ s'.fuel = s.fuel := by
  have hl := N.len
  rcases List.eq_nil_or_concat s.st with e | ⟨ys, x, e⟩
  · rw [e] at hl; simp at hl
  · rw [List.concat_eq_append] at e
    refine ⟨x, ⟨s.fuel, ys, s.cs, s.L, s.V, s.qs⟩, ?_, ⟨N.hc, N.sus, N.fn, N.code, N.snd, ?_, N.loc⟩, rfl⟩
    · unfold EgV.pop
      rw [e]
      simp
    · rw [e] at hl
      simp at hl ⊢
      omega
theorem Now.jump (N : Now us s cs c b h f ts go H) {v : Int} (hv : 0 ≤ v) : ∃ s', s.jump v = some s' ∧ Now us s' cs (c.at_ v.toNat) b h f ts go H ∧ s'.fuel = s.fuel := by
  refine ⟨s.calls (cs ++ [c.at_ v.toNat]), ?_, ⟨rfl, N.sus, N.fn, N.code, N.snd, N.len, N.loc⟩, rfl⟩
  unfold EgV.jump
  rw [N.hc]
  simp only [List.getLast?_append, List.getLast?_singleton, Option.some_or, List.dropLast_concat]
  rw [if_neg (by omega)]
/-- What stands behind a token that gives the next one this height. -/
theorem Now.go_ {i n : Nat} {x : Int} (N : Now us s cs c b n f ts go H) (hn : c.next = i) (hf : Fine (sgs ts) H ((i : Nat) : Int) x) (hx : x = (n : Int)) : Stk us s.cs s.st.length :=
  N.stk (by rw [hn, ← hx]; exact hf)
/-- Numbers, doubles, drops, marks, jumps. -/
theorem step_easy {rs : List (Option Int)} {most i : Nat} {t : TkV} {v : Int} (N : Now us s cs c b h f ts go H) (hn : c.next = i + 1) (ht : ts[i]? = some t) (hf : Fine (sgs ts) H (i : Int) (h : Int)) (hv : go[i]? = some v)
    (hk : t.sign = 48 ∨ t.sign = 46 ∨ t.sign = 44 ∨ t.sign = 63 ∨ t.sign = 58 ∨ t.sign = 93 ∨ t.sign = 126 ∨ t.sign = 59 ∨ t.sign = 91) : ∃ s', eStep us (us.map codeOf) rs most t v s = some (0, s') ∧ Stk us s'.cs s'.st.length ∧ s'.fuel = s.fuel := by
  have hpl := fun (p q : Int) (ho : ¬ Odd1 t.sign) (hp : rTakes us t.sign t.name = (p, q, true)) => hf.plain N.snd ht ho hp
  unfold eStep
  rcases hk with e | e | e | e | e | e | e | e | e
  · obtain ⟨_, _, h2⟩ := hpl 0 1 (by unfold Odd1; omega) (by rw [e]; rfl)
    rw [if_pos e]
    exact ⟨_, rfl, (N.push t.n).go_ hn h2 (by omega), rfl⟩
  · obtain ⟨h1, _, h2⟩ := hpl 1 2 (by unfold Odd1; omega) (by rw [e]; rfl)
    rw [if_neg (by omega), if_pos e]
    have hl := N.len
    rcases List.eq_nil_or_concat s.st with e2 | ⟨ys, x, e2⟩
    · rw [e2] at hl; simp at hl; omega
    · rw [List.concat_eq_append] at e2
      rw [e2]
      simp only [List.getLast?_append, List.getLast?_singleton, Option.some_or]
      exact ⟨_, rfl, (N.push x).go_ hn h2 (by omega), rfl⟩
  · obtain ⟨h1, _, h2⟩ := hpl 1 0 (by unfold Odd1; omega) (by rw [e]; rfl)
    rw [if_neg (by omega), if_neg (by omega), if_pos e]
    obtain ⟨h', rfl⟩ : ∃ k, h = k + 1 := ⟨h - 1, by omega⟩
    obtain ⟨x, s1, e1, N1, f1⟩ := N.pop
    rw [e1]
    exact ⟨s1, rfl, N1.go_ hn h2 (by omega), f1⟩
  · obtain ⟨h1, _, h2⟩ := hpl 1 0 (by unfold Odd1; omega) (by rw [e]; rfl)
    obtain ⟨v', hv', hfv⟩ := hf.ask N.snd ht e
    rw [hv] at hv'
    injection hv' with hv'
    subst hv'
    rw [if_neg (by omega), if_neg (by omega), if_neg (by omega), if_pos e]
    obtain ⟨h', rfl⟩ : ∃ k, h = k + 1 := ⟨h - 1, by omega⟩
    obtain ⟨x, s1, e1, N1, f1⟩ := N.pop
    rw [e1]
    simp only
    by_cases hx : x = 0
    · rw [if_pos hx]
      obtain ⟨j, hj, _⟩ := id hfv
      obtain ⟨s2, e2, N2, f2⟩ := N1.jump (v := v) (by omega)
      rw [e2]
      refine ⟨s2, rfl, N2.go_ (i := v.toNat) rfl (x := ((h' + 1 : Nat) : Int) - 1) (by rw [show ((v.toNat : Nat) : Int) = v from by omega]; exact hfv) (by omega), f2.trans f1⟩
    · rw [if_neg hx]
      exact ⟨s1, rfl, N1.go_ hn h2 (by omega), f1⟩
  all_goals
    first
    | (have e3 : t.sign = 58 ∨ t.sign = 93 ∨ t.sign = 126 := by omega
       obtain ⟨v', hv', hfv⟩ := hf.jump N.snd ht e3
       rw [hv] at hv'
       injection hv' with hv'
       subst hv'
       rw [if_neg (by omega), if_neg (by omega), if_neg (by omega), if_neg (by omega), if_pos e3]
       obtain ⟨j, hj, _⟩ := id hfv
       obtain ⟨s2, e2, N2, f2⟩ := N.jump (v := v) (by omega)
       rw [e2]
       exact ⟨s2, rfl, N2.go_ (i := v.toNat) rfl (x := (h : Int)) (by rw [show ((v.toNat : Nat) : Int) = v from by omega]; exact hfv) rfl, f2⟩)
    | (rw [if_neg (by omega), if_neg (by omega), if_neg (by omega), if_neg (by omega), if_neg (by omega), if_pos (by omega)]
       first
       | exact ⟨s, rfl, N.go_ hn (hf.semi N.snd ht e) rfl, rfl⟩
       | (obtain ⟨h1, _, h2⟩ := hpl 0 0 (by unfold Odd1; omega) (by rw [e]; rfl)
          exact ⟨s, rfl, N.go_ hn h2 (by omega), rfl⟩))
end
end Go.Proofs.Ytfhgnoajfipjdaa
namespace Go.Proofs.Ytfhgnoajfipjdaa
open Go.RowKit
section
variable {us : List FnV} {s : EgV} {cs : List CallV} {c : CallV} {b h : Nat} {f : FnV} {ts : List TkV} {go H : List Int}
/-- Whatever the memory holds. -/
theorem Now.mem (N : Now us s cs c b h f ts go H) (L : List UInt8) (V : List Bool) (qs : List (Int × Int)) : Now us ⟨s.fuel, s.st, s.cs, L, V, qs⟩ cs c b h f ts go H := ⟨N.hc, N.sus, N.fn, N.code, N.snd, N.len, N.loc⟩
theorem step_mem {rs : List (Option Int)} {most i : Nat} {t : TkV} {v : Int} (N : Now us s cs c b h f ts go H) (hn : c.next = i + 1) (ht : ts[i]? = some t) (hf : Fine (sgs ts) H (i : Int) (h : Int))
    (hk : t.sign = 35 ∨ t.sign = 164 ∨ t.sign = 64 ∨ t.sign = 169 ∨ t.sign = 36 ∨ t.sign = 174) : ∃ trap s', eStep us (us.map codeOf) rs most t v s = some (trap, s') ∧ (trap = 0 → Stk us s'.cs s'.st.length) ∧ s'.fuel = s.fuel := by
  have hpl := fun (p q : Int) (ho : ¬ Odd1 t.sign) (hp : rTakes us t.sign t.name = (p, q, true)) => hf.plain N.snd ht ho hp
  unfold eStep
  rw [if_neg (by omega), if_neg (by omega), if_neg (by omega), if_neg (by omega), if_neg (by omega), if_neg (by omega), if_pos hk]
  unfold eMem
  rcases hk with e | hk
  · obtain ⟨_, _, h2⟩ := hpl 0 1 (by unfold Odd1; omega) (by rw [e]; rfl)
    rw [if_pos e]
    exact ⟨0, _, rfl, fun _ => (N.push _).go_ hn h2 (by omega), rfl⟩
  rw [if_neg (by omega)]
  by_cases h2 : t.sign = 36 ∨ t.sign = 174
  · obtain ⟨h1, _, h3⟩ := hpl 2 0 (by unfold Odd1; omega) (by rcases h2 with e | e <;> (rw [e]; rfl))
    obtain ⟨h', rfl⟩ : ∃ k, h = k + 1 + 1 := ⟨h - 2, by omega⟩
    obtain ⟨x, s1, e1, N1, f1⟩ := N.pop
    obtain ⟨y, s2, e2, N2, f2⟩ := N1.pop
    rw [e1]
    simp only
    rw [if_neg (by omega), if_neg (by omega), e2]
    simp only
    by_cases hc : 0 ≤ y ∧ y + (if t.sign = 36 then 8 else 1) ≤ (s2.L.length : Int)
    · rw [if_pos hc]
      exact ⟨0, _, rfl, fun _ => (N2.mem _ _ _).go_ hn h3 (by omega), f2.trans f1⟩
    · rw [if_neg hc]
      exact ⟨5, s2, rfl, fun e => by omega, f2.trans f1⟩
  · obtain ⟨h1, _, h3⟩ := hpl 1 1 (by unfold Odd1; omega) (by
      have : t.sign = 164 ∨ t.sign = 64 ∨ t.sign = 169 := by omega
      rcases this with e | e | e <;> (rw [e]; rfl))
    obtain ⟨h', rfl⟩ : ∃ k, h = k + 1 := ⟨h - 1, by omega⟩
    obtain ⟨x, s1, e1, N1, f1⟩ := N.pop
    rw [e1]
    simp only
    by_cases h164 : t.sign = 164
    · rw [if_pos h164]
      split
      · exact ⟨0, _, rfl, fun _ => (N1.push _).go_ hn h3 (by omega), f1⟩
      · exact ⟨0, _, rfl, fun _ => ((N1.push _).mem _ _ _).go_ hn h3 (by omega), f1⟩
    · rw [if_neg h164, if_pos (by omega)]
      cases loadR s1.L x (if t.sign = 64 then 8 else 1) with
      | none => exact ⟨5, s1, rfl, fun e => by omega, f1⟩
      | some n => exact ⟨0, _, rfl, fun _ => (N1.push _).go_ hn h3 (by omega), f1⟩
theorem step_ask {rs : List (Option Int)} {most i : Nat} {t : TkV} {v : Int} (N : Now us s cs c b h f ts go H) (hn : c.next = i + 1) (ht : ts[i]? = some t) (hf : Fine (sgs ts) H (i : Int) (h : Int))
    (hk : t.sign = 960 ∨ t.sign = 161) : ∃ trap s', eStep us (us.map codeOf) rs most t v s = some (trap, s') ∧ (trap = 0 → Stk us s'.cs s'.st.length) ∧ s'.fuel = s.fuel := by
  unfold eStep
  rw [if_neg (by omega), if_neg (by omega), if_neg (by omega), if_neg (by omega), if_neg (by omega), if_neg (by omega), if_neg (by omega), if_neg (by omega)]
  by_cases e : t.sign = 960
  · obtain ⟨h1, _, h3⟩ := hf.plain N.snd ht (by unfold Odd1; omega) (show rTakes us t.sign t.name = (1, 1, true) by rw [e]; rfl)
    rw [if_pos e]
    obtain ⟨h', rfl⟩ : ∃ k, h = k + 1 := ⟨h - 1, by omega⟩
    obtain ⟨x, s1, e1, N1, f1⟩ := N.pop
    rw [e1]
    simp only
    cases ansR rs s1.qs.length with
    | none => exact ⟨7, _, rfl, fun e => by omega, f1⟩
    | some n => exact ⟨0, _, rfl, fun _ => ((N1.push n).mem _ _ _).go_ hn h3 (by omega), f1⟩
  · rw [if_neg e, if_pos (by omega)]
    exact ⟨2, s, rfl, fun e => by omega, rfl⟩
/-- λ -/
theorem step_call (hg : SafeU us) {rs : List (Option Int)} {most i : Nat} {t : TkV} {v : Int} (N : Now us s cs c b h f ts go H) (hn : c.next = i + 1) (ht : ts[i]? = some t) (hf : Fine (sgs ts) H (i : Int) (h : Int))
    (e : t.sign = 955) : ∃ trap s', eStep us (us.map codeOf) rs most t v s = some (trap, s') ∧ (trap = 0 → Stk us s'.cs s'.st.length) ∧ s'.fuel = s.fuel := by
  have ho : ¬ Odd1 t.sign := by unfold Odd1; omega
  obtain ⟨p, q, hp⟩ := hf.takes N.snd ht ho
  obtain ⟨h1, _, h3⟩ := hf.plain N.snd ht ho hp
  unfold eStep
  rw [if_neg (by omega), if_neg (by omega), if_neg (by omega), if_neg (by omega), if_neg (by omega), if_neg (by omega), if_neg (by omega), if_pos e]
  have hcl : callA us t.name = (p, q, true) := by rw [← hp, e]; rfl
  split
  · exact ⟨6, s, rfl, fun e => by omega, rfl⟩
  · unfold callA at hcl
    unfold findI
    cases hk : findK t.name us 0 with
    | none => rw [hk] at hcl; simp at hcl
    | some k =>
      rw [hk] at hcl
      simp only at hcl ⊢
      cases hu : us[k]? with
      | none => rw [hu] at hcl; simp at hcl
      | some g =>
        rw [hu] at hcl
        simp only at hcl
        split at hcl
        · rename_i ha
          simp only [Prod.mk.injEq, and_true] at hcl
          obtain ⟨rfl, rfl⟩ := hcl
          rw [if_neg (by omega)]
          have hl := N.len
          have hsus : Sus us s.cs (b + (h - g.args.toNat)) := by
            rw [N.hc]
            exact .cons N.sus ⟨⟨f, ts, go, H, N.fn, N.code, N.snd, by rw [hn, show (((h - g.args.toNat + 1 : Nat)) : Int) = (h : Int) - g.args + 1 from by omega]; exact h3⟩, N.loc⟩
          obtain ⟨s', c1, c2, c3, _⟩ := good_call hg hu (s := s) (by omega) hsus (by omega)
          rw [show ((k : Int)).toNat = k from rfl, c1]
          exact ⟨0, s', rfl, fun _ => c2, c3⟩
        · simp at hcl
end
end Go.Proofs.Ytfhgnoajfipjdaa
namespace Go.Proofs.Ytfhgnoajfipjdaa
open Go.RowKit
def Other (s : Int) : Prop := s ≠ 48 ∧ s ≠ 46 ∧ s ≠ 44 ∧ s ≠ 63 ∧ s ≠ 58 ∧ s ≠ 93 ∧ s ≠ 126 ∧ s ≠ 59 ∧ s ≠ 91 ∧ s ≠ 35 ∧ s ≠ 164 ∧ s ≠ 64 ∧ s ≠ 169 ∧ s ≠ 36 ∧ s ≠ 174 ∧ s ≠ 955 ∧ s ≠ 960 ∧ s ≠ 161
theorem takes_other {l : List FnV} {s name p q : Int} (ho : Other s) (h : rTakes l s name = (p, q, true)) : (97 ≤ s ∧ s ≤ 122 ∧ p = 0 ∧ q = 1) ∨ (65 ≤ s ∧ s ≤ 90 ∧ p = 1 ∧ q = 0) ∨ (s = 33 ∧ p = 1 ∧ q = 1) ∨ (¬ (97 ≤ s ∧ s ≤ 122) ∧ ¬ (65 ≤ s ∧ s ≤ 90) ∧ s ≠ 33 ∧ p = 2 ∧ q = 1) := by
  obtain ⟨o1, o2, o3, o4, o5, o6, o7, o8, o9, o10, o11, o12, o13, o14, o15, o16, o17, o18⟩ := ho
  unfold rTakes at h
  by_cases c1 : (s = 48 ∨ (97 ≤ s ∧ s ≤ 122)) ∨ s = 35
  · rw [if_pos c1] at h
    simp only [Prod.mk.injEq, and_true] at h
    omega
  rw [if_neg c1] at h
  by_cases c2 : (65 ≤ s ∧ s ≤ 90) ∨ s = 44
  · rw [if_pos c2] at h
    simp only [Prod.mk.injEq, and_true] at h
    omega
  rw [if_neg c2, if_neg o2] at h
  by_cases c3 : inL binL s = true
  · rw [if_pos c3] at h
    simp only [Prod.mk.injEq, and_true] at h
    have h33 : s ≠ 33 := by rintro rfl; exact absurd c3 (by decide)
    omega
  rw [if_neg c3] at h
  by_cases c4 : inL unL s = true
  · rw [if_pos c4] at h
    simp only [Prod.mk.injEq, and_true] at h
    have : s = 33 ∨ s = 64 ∨ s = 169 ∨ s = 164 ∨ s = 960 := by
      simp [inL, unL] at c4
      omega
    omega
  rw [if_neg c4, if_neg (by omega), if_neg o4] at h
  by_cases c5 : inL zeL s = true
  · have : s = 58 ∨ s = 59 ∨ s = 91 ∨ s = 93 ∨ s = 126 ∨ s = 161 := by
      simp [inL, zeL] at c5
      omega
    omega
  rw [if_neg c5, if_neg o16] at h
  simp at h
section
variable {us : List FnV} {s : EgV} {cs : List CallV} {c : CallV} {b h : Nat} {f : FnV} {ts : List TkV} {go H : List Int}
theorem step_other {rs : List (Option Int)} {most i : Nat} {t : TkV} {v : Int} (N : Now us s cs c b h f ts go H) (hn : c.next = i + 1) (ht : ts[i]? = some t) (hf : Fine (sgs ts) H (i : Int) (h : Int))
    (hk : Other t.sign) : ∃ trap s', eStep us (us.map codeOf) rs most t v s = some (trap, s') ∧ (trap = 0 → Stk us s'.cs s'.st.length) ∧ s'.fuel = s.fuel := by
  obtain ⟨o1, o2, o3, o4, o5, o6, o7, o8, o9, o10, o11, o12, o13, o14, o15, o16, o17, o18⟩ := id hk
  have ho : ¬ Odd1 t.sign := by unfold Odd1; omega
  obtain ⟨p, q, hp⟩ := hf.takes N.snd ht ho
  obtain ⟨h1, _, h3⟩ := hf.plain N.snd ht ho hp
  have htk := takes_other hk hp
  unfold eStep
  rw [if_neg o1, if_neg o2, if_neg o3, if_neg o4, if_neg (by omega), if_neg (by omega), if_neg (by omega), if_neg o16, if_neg o17, if_neg o18]
  unfold eReckon
  have word : ∀ s1 : EgV, ∀ y : Int, ∀ k : Nat, Now us s1 cs c b (k + 1) f ts go H → s1.fuel = s.fuel → (h : Int) - p + q = ((k + 1 : Nat) : Int) → ∃ trap s', (match s1.pop with | none => none | some (a, s2) => some ((doR t.sign a y).2, if (doR t.sign a y).2 = 0 then s2.push (doR t.sign a y).1 else s2)) = some (trap, s') ∧ (trap = 0 → Stk us s'.cs s'.st.length) ∧ s'.fuel = s.fuel := fun s1 y k N1 f1 hkk => by
    obtain ⟨a, s2, e2, N2, f2⟩ := N1.pop
    rw [e2]
    refine ⟨_, _, rfl, fun e => ?_, ?_⟩
    · rw [if_pos e]
      exact (N2.push _).go_ hn h3 hkk
    · split <;> exact f2.trans f1
  rcases htk with ⟨a1, a2, rfl, rfl⟩ | ⟨a1, a2, rfl, rfl⟩ | ⟨a1, rfl, rfl⟩ | ⟨a1, a2, a3, rfl, rfl⟩
  · rw [if_pos ⟨a1, a2⟩, N.hc]
    simp only [List.getLast?_append, List.getLast?_singleton, Option.some_or]
    rw [List.getElem?_eq_getElem (show (t.sign - 97).toNat < c.loc.length by rw [N.loc]; omega)]
    exact ⟨0, _, rfl, fun _ => (N.push _).go_ hn h3 (by omega), rfl⟩
  · rw [if_neg (by omega), if_pos ⟨a1, a2⟩]
    obtain ⟨h', rfl⟩ : ∃ k, h = k + 1 := ⟨h - 1, by omega⟩
    obtain ⟨x, s1, e1, N1, f1⟩ := N.pop
    rw [e1]
    simp only
    rw [N1.hc]
    simp only [List.getLast?_append, List.getLast?_singleton, Option.some_or, List.dropLast_concat]
    have N2 : Now us (s1.calls (cs ++ [⟨c.fn, c.next, c.loc.set (t.sign - 65).toNat x⟩])) cs ⟨c.fn, c.next, c.loc.set (t.sign - 65).toNat x⟩ b h' f ts go H := ⟨rfl, N1.sus, N1.fn, N1.code, N1.snd, N1.len, by rw [List.length_set]; exact N1.loc⟩
    exact ⟨0, _, rfl, fun _ => N2.go_ hn h3 (by omega), f1⟩
  · rw [if_neg (by omega), if_neg (by omega), if_pos a1]
    obtain ⟨h', rfl⟩ : ∃ k, h = k + 1 := ⟨h - 1, by omega⟩
    exact word s 0 h' N rfl (by omega)
  · rw [if_neg a1, if_neg a2, if_neg a3]
    obtain ⟨h', rfl⟩ : ∃ k, h = k + 1 + 1 := ⟨h - 2, by omega⟩
    obtain ⟨x, s1, e1, N1, f1⟩ := N.pop
    rw [e1]
    exact word s1 x h' N1 f1 (by omega)
end
end Go.Proofs.Ytfhgnoajfipjdaa
namespace Go.Proofs.Ytfhgnoajfipjdaa
open Go.RowKit
section
variable {us : List FnV} {s : EgV} {cs : List CallV} {c : CallV} {b h : Nat} {f : FnV} {ts : List TkV} {go H : List Int}
theorem step_safe (hg : SafeU us) {rs : List (Option Int)} {most i : Nat} {t : TkV} {v : Int} (N : Now us s cs c b h f ts go H) (hn : c.next = i + 1) (ht : ts[i]? = some t) (hf : Fine (sgs ts) H (i : Int) (h : Int)) (hv : go[i]? = some v) :
    ∃ trap s', eStep us (us.map codeOf) rs most t v s = some (trap, s') ∧ (trap = 0 → Stk us s'.cs s'.st.length) ∧ s'.fuel = s.fuel := by
  by_cases h1 : t.sign = 48 ∨ t.sign = 46 ∨ t.sign = 44 ∨ t.sign = 63 ∨ t.sign = 58 ∨ t.sign = 93 ∨ t.sign = 126 ∨ t.sign = 59 ∨ t.sign = 91
  · obtain ⟨s', e1, e2, e3⟩ := step_easy (rs := rs) (most := most) N hn ht hf hv h1
    exact ⟨0, s', e1, fun _ => e2, e3⟩
  by_cases h2 : t.sign = 35 ∨ t.sign = 164 ∨ t.sign = 64 ∨ t.sign = 169 ∨ t.sign = 36 ∨ t.sign = 174
  · exact step_mem N hn ht hf h2
  by_cases h3 : t.sign = 960 ∨ t.sign = 161
  · exact step_ask N hn ht hf h3
  by_cases h4 : t.sign = 955
  · exact step_call hg N hn ht hf h4
  · exact step_other N hn ht hf (by unfold Other; omega)
end
end Go.Proofs.Ytfhgnoajfipjdaa
namespace Go.Proofs.Ytfhgnoajfipjdaa
open Go.RowKit
theorem eRun_safe {us : List FnV} (hg : SafeU us) {rs : List (Option Int)} {most : Nat} : ∀ (n : Nat) (s : EgV), Stk us s.cs s.st.length → 2 * s.fuel + s.cs.length < n → ∃ tr s', eRun us (us.map codeOf) rs most n s = some (tr, s') ∧ (tr = 0 → s'.st.length = 1)
  | 0, s, _, hm => by omega
  | n + 1, s, hS, hm => by
    rw [eRun]
    rcases hS with ⟨h1, h2⟩ | ⟨cs, c, b, h, hc, hsus, hseg, hlen⟩
    · rw [h1]
      exact ⟨0, s, rfl, fun _ => h2⟩
    · obtain ⟨⟨f, ts, go, H, hfn, hcode, hsnd, hfine⟩, hloc⟩ := hseg
      rw [hc]
      simp only [List.getLast?_append, List.getLast?_singleton, Option.some_or, List.dropLast_concat]
      rw [List.getElem?_map, hfn]
      simp only [Option.map_some, hcode]
      rw [hc, List.length_append, List.length_singleton] at hm
      by_cases he : c.next = ts.length
      · rw [if_pos he]
        rw [he] at hfine
        have h1 := hfine.end_ hsnd
        refine eRun_safe hg n (s.calls cs) ?_ (by show 2 * s.fuel + cs.length < n; omega)
        show Stk us cs s.st.length
        rw [hlen, show h = 1 from by omega]
        exact hsus.back
      · rw [if_neg he]
        by_cases hf0 : s.fuel = 0
        · rw [if_pos hf0]
          exact ⟨1, s, rfl, fun e => by omega⟩
        · rw [if_neg hf0]
          have hlt : c.next < ts.length := by
            obtain ⟨j, hj, hjl, _⟩ := id hfine
            rw [sgs_len] at hjl
            omega
          have ht : ts[c.next]? = some (ts[c.next]'hlt) := List.getElem?_eq_getElem hlt
          have hv : go[c.next]? = some (go[c.next]'(by rw [hsnd.gl]; exact hlt)) := List.getElem?_eq_getElem _
          rw [ht, hv]
          simp only
          have N : Now us ⟨s.fuel - 1, s.st, cs ++ [c.at_ (c.next + 1)], s.L, s.V, s.qs⟩ cs (c.at_ (c.next + 1)) b h f ts go H := ⟨rfl, hsus, hfn, hcode, hsnd, hlen, hloc⟩
          obtain ⟨tr, s', e1, e2, e3⟩ := step_safe hg (rs := rs) (most := most) N rfl ht hfine hv
          have hcl := step_cs e1
          rw [e1]
          simp only
          by_cases h0 : tr = 0
          · rw [if_pos h0]
            simp only [List.length_append, List.length_singleton] at hcl e3
            exact eRun_safe hg n s' (e2 h0) (by omega)
          · rw [if_neg h0]
            exact ⟨tr, s', rfl, fun e => absurd e h0⟩
end Go.Proofs.Ytfhgnoajfipjdaa
namespace Go.Proofs.Ytfhgnoajfipjdaa
open Go.RowKit
/-- The same with other fuel. -/
def EgV.fu (s : EgV) (g : Nat) : EgV := ⟨g, s.st, s.cs, s.L, s.V, s.qs⟩
theorem fu_self (s : EgV) : s.fu s.fuel = s := rfl
def fu2 (g : Nat) (q : Option (Int × EgV)) : Option (Int × EgV) := q.map fun z => (z.1, z.2.fu g)
theorem pop_g (s : EgV) (g : Nat) : (s.fu g).pop = fu2 g s.pop := by
  unfold EgV.pop EgV.fu fu2
  simp only
  cases s.st.getLast? <;> rfl
theorem jump_g (s : EgV) (g : Nat) (v : Int) : (s.fu g).jump v = (s.jump v).map (fun z => z.fu g) := by
  unfold EgV.jump EgV.fu
  simp only
  cases s.cs.getLast? with
  | none => rfl
  | some c => simp only; split <;> rfl
theorem call_g (cd : List CodeV) (k : Nat) (s : EgV) (g : Nat) : eCall cd k (s.fu g) = (eCall cd k s).map (fun z => z.fu g) := by
  unfold eCall EgV.fu
  cases cd[k]? with
  | none => rfl
  | some f => simp only; split <;> rfl
theorem mem_g (most : Nat) (sg : Int) (s : EgV) (g : Nat) : eMem most sg (s.fu g) = fu2 g (eMem most sg s) := by
  unfold eMem
  rw [pop_g]
  by_cases h35 : sg = 35
  · rw [if_pos h35, if_pos h35]; rfl
  rw [if_neg h35, if_neg h35]
  cases s.pop with
  | none => rfl
  | some q =>
    obtain ⟨x, s1⟩ := q
    simp only [fu2, Option.map_some]
    by_cases h1 : sg = 164
    · rw [if_pos h1, if_pos h1]
      by_cases h2 : x < 0 ∨ (most : Int) - s.V.length < x
      · rw [if_pos h2, if_pos (show x < 0 ∨ (most : Int) - (s.fu g).V.length < x from h2)]; rfl
      · rw [if_neg h2, if_neg (show ¬ (x < 0 ∨ (most : Int) - (s.fu g).V.length < x) from h2)]; rfl
    rw [if_neg h1, if_neg h1]
    by_cases h2 : sg = 64 ∨ sg = 169
    · rw [if_pos h2, if_pos h2]
      rw [show loadR (s1.fu g).L x (if sg = 64 then 8 else 1) = loadR s1.L x (if sg = 64 then 8 else 1) from rfl]
      cases loadR s1.L x (if sg = 64 then 8 else 1) <;> rfl
    rw [if_neg h2, if_neg h2]
    have hp := pop_g s1 g
    rw [hp]
    cases s1.pop with
    | none => rfl
    | some q =>
      obtain ⟨k, s2⟩ := q
      simp only [fu2, Option.map_some]
      by_cases h3 : 0 ≤ k ∧ k + (if sg = 36 then 8 else 1) ≤ (s2.L.length : Int)
      · rw [if_pos h3, if_pos (show 0 ≤ k ∧ k + (if sg = 36 then 8 else 1) ≤ ((s2.fu g).L.length : Int) from h3)]; rfl
      · rw [if_neg h3, if_neg (show ¬ (0 ≤ k ∧ k + (if sg = 36 then 8 else 1) ≤ ((s2.fu g).L.length : Int)) from h3)]; rfl
theorem reckon_g (sg : Int) (s : EgV) (g : Nat) : eReckon sg (s.fu g) = fu2 g (eReckon sg s) := by
  unfold eReckon
  by_cases h1 : 97 ≤ sg ∧ sg ≤ 122
  · rw [if_pos h1, if_pos h1]
    rw [show (s.fu g).cs.getLast? = s.cs.getLast? from rfl]
    cases s.cs.getLast? with
    | none => rfl
    | some c => simp only; cases c.loc[(sg - 97).toNat]? <;> rfl
  rw [if_neg h1, if_neg h1]
  by_cases h2 : 65 ≤ sg ∧ sg ≤ 90
  · rw [if_pos h2, if_pos h2, pop_g]
    cases s.pop with
    | none => rfl
    | some q =>
      obtain ⟨x, s1⟩ := q
      simp only [fu2, Option.map_some]
      rw [show (s1.fu g).cs.getLast? = s1.cs.getLast? from rfl]
      cases s1.cs.getLast? <;> rfl
  rw [if_neg h2, if_neg h2]
  have hb : (if sg = 33 then some ((0 : Int), s.fu g) else (s.fu g).pop) = fu2 g (if sg = 33 then some ((0 : Int), s) else s.pop) := by
    by_cases h3 : sg = 33
    · rw [if_pos h3, if_pos h3]; rfl
    · rw [if_neg h3, if_neg h3, pop_g]
  rw [hb]
  cases (if sg = 33 then some ((0 : Int), s) else s.pop) with
  | none => rfl
  | some q =>
    obtain ⟨b, s1⟩ := q
    simp only [fu2, Option.map_some]
    have hp := pop_g s1 g
    rw [hp]
    cases s1.pop with
    | none => rfl
    | some q =>
      obtain ⟨a, s2⟩ := q
      simp only [fu2, Option.map_some]
      by_cases h4 : (doR sg a b).2 = 0
      · rw [if_pos h4, if_pos h4]; rfl
      · rw [if_neg h4, if_neg h4]
theorem map_fu (g : Nat) (q : Option EgV) : (q.map (fun z => z.fu g)).map (fun z => ((0 : Int), z)) = fu2 g (q.map fun z => (0, z)) := by cases q <;> rfl
theorem step_g (us : List FnV) (cd : List CodeV) (rs : List (Option Int)) (most : Nat) (t : TkV) (v : Int) (s : EgV) (g : Nat) : eStep us cd rs most t v (s.fu g) = fu2 g (eStep us cd rs most t v s) := by
  unfold eStep
  by_cases c1 : t.sign = 48
  · rw [if_pos c1, if_pos c1]; rfl
  rw [if_neg c1, if_neg c1]
  by_cases c2 : t.sign = 46
  · rw [if_pos c2, if_pos c2]
    rw [show (s.fu g).st.getLast? = s.st.getLast? from rfl]
    cases s.st.getLast? <;> rfl
  rw [if_neg c2, if_neg c2]
  by_cases c3 : t.sign = 44
  · rw [if_pos c3, if_pos c3, pop_g]
    cases s.pop <;> rfl
  rw [if_neg c3, if_neg c3]
  by_cases c4 : t.sign = 63
  · rw [if_pos c4, if_pos c4, pop_g]
    cases s.pop with
    | none => rfl
    | some q =>
      obtain ⟨x, s1⟩ := q
      simp only [fu2, Option.map_some]
      by_cases hx : x = 0
      · rw [if_pos hx, if_pos hx, jump_g, map_fu]; rfl
      · rw [if_neg hx, if_neg hx]; rfl
  rw [if_neg c4, if_neg c4]
  by_cases c5 : t.sign = 58 ∨ t.sign = 93 ∨ t.sign = 126
  · rw [if_pos c5, if_pos c5, jump_g, map_fu]
  rw [if_neg c5, if_neg c5]
  by_cases c6 : t.sign = 59 ∨ t.sign = 91
  · rw [if_pos c6, if_pos c6]; rfl
  rw [if_neg c6, if_neg c6]
  by_cases c7 : t.sign = 35 ∨ t.sign = 164 ∨ t.sign = 64 ∨ t.sign = 169 ∨ t.sign = 36 ∨ t.sign = 174
  · rw [if_pos c7, if_pos c7, mem_g]
  rw [if_neg c7, if_neg c7]
  by_cases c8 : t.sign = 955
  · rw [if_pos c8, if_pos c8]
    by_cases h1 : 32 ≤ s.cs.length
    · rw [if_pos h1, if_pos (show 32 ≤ (s.fu g).cs.length from h1)]; rfl
    · rw [if_neg h1, if_neg (show ¬ 32 ≤ (s.fu g).cs.length from h1)]
      by_cases h2 : findI us t.name < 0
      · rw [if_pos h2, if_pos h2]; rfl
      · rw [if_neg h2, if_neg h2, call_g, map_fu]
  rw [if_neg c8, if_neg c8]
  by_cases c9 : t.sign = 960
  · rw [if_pos c9, if_pos c9, pop_g]
    cases s.pop with
    | none => rfl
    | some q =>
      obtain ⟨x, s1⟩ := q
      simp only [fu2, Option.map_some]
      rw [show ansR rs (s1.fu g).qs.length = ansR rs s1.qs.length from rfl]
      cases ansR rs s1.qs.length <;> rfl
  rw [if_neg c9, if_neg c9]
  by_cases c10 : t.sign = 161
  · rw [if_pos c10, if_pos c10]; rfl
  · rw [if_neg c10, if_neg c10, reckon_g]
/-- What one turn of the loop is, by its fuel. -/
theorem one_kinds (us : List FnV) (cd : List CodeV) (rs : List (Option Int)) (most : Nat) (s : EgV) :
    (∀ g, eOne us cd rs most (s.fu g) = .stop (0, s.fu g)) ∨ (∃ s1 : EgV, ∀ g, eOne us cd rs most (s.fu g) = .on (s1.fu g)) ∨ (∀ g, eOne us cd rs most (s.fu g) = .stuck) ∨
    (eOne us cd rs most (s.fu 0) = .stop (1, s.fu 0) ∧ ∃ q : Option (Int × EgV), ∀ g, eOne us cd rs most (s.fu (g + 1)) = match q with | none => .stuck | some (tr, s1) => if tr = 0 then .on (s1.fu g) else .stop (tr, s1.fu g)) := by
  unfold eOne
  cases hc : s.cs.getLast? with
  | none => left; intro g; rw [show (s.fu g).cs.getLast? = none from hc]
  | some c =>
    right
    cases hf : cd[c.fn]? with
    | none => right; left; intro g; rw [show (s.fu g).cs.getLast? = some c from hc]; simp only; rw [hf]
    | some f =>
      by_cases h1 : c.next = f.ts.length
      · left
        refine ⟨s.calls s.cs.dropLast, fun g => ?_⟩
        rw [show (s.fu g).cs.getLast? = some c from hc]; simp only; rw [hf]; simp only
        rw [if_pos h1]; rfl
      · right; right
        refine ⟨?_, ?_⟩
        · rw [show (s.fu 0).cs.getLast? = some c from hc]; simp only; rw [hf]; simp only
          rw [if_neg h1, if_pos (show (s.fu 0).fuel = 0 from rfl)]
        · cases ht : f.ts[c.next]? with
          | none =>
            refine ⟨none, fun g => ?_⟩
            rw [show (s.fu (g + 1)).cs.getLast? = some c from hc]; simp only; rw [hf]; simp only
            rw [if_neg h1, if_neg (show ¬ (s.fu (g + 1)).fuel = 0 from Nat.succ_ne_zero g), ht]
          | some t =>
            cases hg : f.go[c.next]? with
            | none =>
              refine ⟨none, fun g => ?_⟩
              rw [show (s.fu (g + 1)).cs.getLast? = some c from hc]; simp only; rw [hf]; simp only
              rw [if_neg h1, if_neg (show ¬ (s.fu (g + 1)).fuel = 0 from Nat.succ_ne_zero g), ht, hg]
            | some v =>
              refine ⟨eStep us cd rs most t v ⟨0, s.st, s.cs.dropLast ++ [c.at_ (c.next + 1)], s.L, s.V, s.qs⟩, fun g => ?_⟩
              rw [show (s.fu (g + 1)).cs.getLast? = some c from hc]; simp only; rw [hf]; simp only
              rw [if_neg h1, if_neg (show ¬ (s.fu (g + 1)).fuel = 0 from Nat.succ_ne_zero g), ht, hg]
              simp only
              have e := step_g us cd rs most t v ⟨0, s.st, s.cs.dropLast ++ [c.at_ (c.next + 1)], s.L, s.V, s.qs⟩ g
              rw [show eStep us cd rs most t v ⟨(s.fu (g + 1)).fuel - 1, (s.fu (g + 1)).st, (s.fu (g + 1)).cs.dropLast ++ [c.at_ (c.next + 1)], (s.fu (g + 1)).L, (s.fu (g + 1)).V, (s.fu (g + 1)).qs⟩ = fu2 g (eStep us cd rs most t v ⟨0, s.st, s.cs.dropLast ++ [c.at_ (c.next + 1)], s.L, s.V, s.qs⟩) from e]
              cases eStep us cd rs most t v ⟨0, s.st, s.cs.dropLast ++ [c.at_ (c.next + 1)], s.L, s.V, s.qs⟩ with
              | none => rfl
              | some q => obtain ⟨tr, s1⟩ := q; rfl
/-- Less fuel: the same end, as long as there is enough; one less: spent. -/
theorem rn_less {us : List FnV} {cd : List CodeV} {rs : List (Option Int)} {most : Nat} {s : EgV} {r : Int × EgV} (h : Rn us cd rs most s r) :
    r.2.fuel ≤ s.fuel ∧ (r.1 ≠ 1 → (∀ d, d ≤ r.2.fuel → Rn us cd rs most (s.fu (s.fuel - d)) (r.1, r.2.fu (r.2.fuel - d))) ∧ (r.2.fuel < s.fuel → ∃ s1, Rn us cd rs most (s.fu (s.fuel - r.2.fuel - 1)) (1, s1))) := by
  induction h with
  | @stop s r h =>
    rcases one_kinds us cd rs most s with k | ⟨s1, k⟩ | k | ⟨k0, q, k⟩
    · have := k s.fuel; rw [fu_self, h] at this; injection this with this; subst this
      exact ⟨Nat.le_refl _, fun _ => ⟨fun d _ => .stop (k _), fun hl => absurd hl (Nat.lt_irrefl _)⟩⟩
    · have := k s.fuel; rw [fu_self, h] at this; cases this
    · have := k s.fuel; rw [fu_self, h] at this; cases this
    · obtain ⟨n, hn⟩ : ∃ n, s.fuel = n := ⟨_, rfl⟩
      cases n with
      | zero =>
        have e : s.fu 0 = s := by rw [← hn]; rfl
        rw [e, h] at k0
        injection k0 with k0; subst k0
        exact ⟨Nat.le_refl _, fun hr => absurd rfl hr⟩
      | succ n =>
        have e : s.fu (n + 1) = s := by rw [← hn]; rfl
        have kk := k n
        rw [e, h] at kk
        cases q with
        | none => cases kk
        | some q =>
          obtain ⟨tr, s1⟩ := q
          simp only at kk k
          by_cases h0 : tr = 0
          · rw [if_pos h0] at kk; cases kk
          · rw [if_neg h0] at kk
            injection kk with kk; subst kk
            rw [hn]
            refine ⟨Nat.le_succ n, fun _ => ⟨fun d hd => ?_, fun _ => ⟨s.fu 0, ?_⟩⟩⟩
            · have hd' : d ≤ n := hd
              have := k (n - d)
              rw [if_neg h0, show n - d + 1 = n + 1 - d from by omega] at this
              exact .stop this
            · show Rn us cd rs most (s.fu (n + 1 - n - 1)) _
              rw [show n + 1 - n - 1 = 0 from by omega]
              exact .stop k0
  | @on s s' r h hr ih =>
    obtain ⟨ih0, ih1⟩ := ih
    rcases one_kinds us cd rs most s with k | ⟨s1, k⟩ | k | ⟨k0, q, k⟩
    · have := k s.fuel; rw [fu_self, h] at this; cases this
    · have := k s.fuel; rw [fu_self, h] at this; injection this with this; subst this
      exact ⟨ih0, fun h1 => ⟨fun d hd => .on (k _) ((ih1 h1).1 d hd), fun hl => by
        obtain ⟨s2, h2⟩ := (ih1 h1).2 hl
        exact ⟨s2, .on (k _) h2⟩⟩⟩
    · have := k s.fuel; rw [fu_self, h] at this; cases this
    · obtain ⟨n, hn⟩ : ∃ n, s.fuel = n := ⟨_, rfl⟩
      cases n with
      | zero =>
        have e : s.fu 0 = s := by rw [← hn]; rfl
        rw [e, h] at k0; cases k0
      | succ n =>
        have e : s.fu (n + 1) = s := by rw [← hn]; rfl
        have kk := k n
        rw [e, h] at kk
        cases q with
        | none => cases kk
        | some q =>
          obtain ⟨tr, s1⟩ := q
          simp only at kk k
          by_cases h0 : tr = 0
          · rw [if_pos h0] at kk
            injection kk with kk; subst kk
            have ih0' : r.2.fuel ≤ n := ih0
            rw [hn]
            refine ⟨by omega, fun h1 => ⟨fun d hd => ?_, fun hl => ?_⟩⟩
            · have := k (n - d)
              rw [if_pos h0, show n - d + 1 = n + 1 - d from by omega] at this
              exact .on this ((ih1 h1).1 d hd)
            · by_cases hlt : r.2.fuel < n
              · obtain ⟨s2, h2⟩ := (ih1 h1).2 hlt
                have := k (n - r.2.fuel - 1)
                rw [if_pos h0, show n - r.2.fuel - 1 + 1 = n + 1 - r.2.fuel - 1 from by omega] at this
                exact ⟨s2, .on this h2⟩
              · refine ⟨s.fu 0, ?_⟩
                rw [show n + 1 - r.2.fuel - 1 = 0 from by omega]
                exact .stop k0
          · rw [if_neg h0] at kk; cases kk
theorem mem_tr {most : Nat} {sg tr : Int} {s s1 : EgV} (h : eMem most sg s = some (tr, s1)) : tr = 0 ∨ tr = 5 := by
  unfold eMem at h
  split at h
  · injection h with h; injection h with h _; exact .inl h.symm
  · split at h
    · cases h
    · split at h
      · split at h <;> (injection h with h; injection h with h _; exact .inl h.symm)
      · split at h
        · split at h
          · injection h with h; injection h with h _; exact .inr h.symm
          · injection h with h; injection h with h _; exact .inl h.symm
        · split at h
          · cases h
          · rename_i k s2 _
            by_cases hc : 0 ≤ k ∧ k + (if sg = 36 then 8 else 1) ≤ (s2.L.length : Int)
            · rw [if_pos hc] at h; injection h with h; injection h with h _; exact .inl h.symm
            · rw [if_neg hc] at h; injection h with h; injection h with h _; exact .inr h.symm
def TrP (p : Int × Int) : Prop := 0 ≤ p.2 ∧ p.2 ≤ 4 ∧ p.2 ≠ 1
theorem tr_ite {c : Prop} [Decidable c] {x y : Int × Int} (hx : TrP x) (hy : TrP y) : TrP (if c then x else y) := by split <;> assumption
theorem tr_0 (x : Int) : TrP (x, 0) := by simp [TrP]
theorem tr_2 (x : Int) : TrP (x, 2) := by simp [TrP]
theorem tr_3 (x : Int) : TrP (x, 3) := by simp [TrP]
theorem tr_4 (x : Int) : TrP (x, 4) := by simp [TrP]
theorem doR_tr (s a b : Int) : 0 ≤ (doR s a b).2 ∧ (doR s a b).2 ≤ 4 ∧ (doR s a b).2 ≠ 1 := by
  show TrP (doR s a b)
  unfold doR
  exact tr_ite (tr_0 _) (tr_ite (tr_0 _) (tr_ite (tr_0 _) (tr_ite (tr_ite (tr_3 _) (tr_ite (tr_4 _) (tr_0 _))) (tr_ite (tr_ite (tr_3 _) (tr_0 _)) (tr_ite (tr_0 _) (tr_ite (tr_0 _) (tr_ite (tr_0 _) (tr_ite (tr_0 _) (tr_ite (tr_0 _) (tr_ite (tr_0 _) (tr_ite (tr_0 _) (tr_ite (tr_0 _) (tr_2 _)))))))))))))
theorem reckon_tr {sg tr : Int} {s s1 : EgV} (h : eReckon sg s = some (tr, s1)) : 0 ≤ tr ∧ tr ≤ 4 ∧ tr ≠ 1 := by
  unfold eReckon at h
  split at h
  · split at h
    · cases h
    · split at h
      · cases h
      · injection h with h; injection h with h _; omega
  · split at h
    · split at h
      · cases h
      · split at h
        · cases h
        · injection h with h; injection h with h _; omega
    · generalize (if sg = 33 then some ((0 : Int), s) else s.pop) = q at h
      cases q with
      | none => cases h
      | some q =>
        obtain ⟨b, s2⟩ := q
        simp only at h
        cases hp : s2.pop with
        | none => rw [hp] at h; cases h
        | some q =>
          obtain ⟨a, s3⟩ := q
          rw [hp] at h
          simp only [Option.some.injEq, Prod.mk.injEq] at h
          rw [← h.1]
          exact doR_tr sg a b
theorem step_tr {us : List FnV} {cd : List CodeV} {rs : List (Option Int)} {most : Nat} {t : TkV} {v tr : Int} {s s1 : EgV} (h : eStep us cd rs most t v s = some (tr, s1)) : 0 ≤ tr ∧ tr ≤ 7 ∧ tr ≠ 1 := by
  have fin : ∀ {q : Option EgV}, q.map (fun z => ((0 : Int), z)) = some (tr, s1) → 0 ≤ tr ∧ tr ≤ 7 ∧ tr ≠ 1 := fun {q} hh => by
    cases q with
    | none => cases hh
    | some z => simp only [Option.map_some] at hh; injection hh with hh; injection hh with hh _; omega
  unfold eStep at h
  by_cases c1 : t.sign = 48
  · rw [if_pos c1] at h; injection h with h; injection h with h _; omega
  rw [if_neg c1] at h
  by_cases c2 : t.sign = 46
  · rw [if_pos c2] at h
    split at h
    · cases h
    · injection h with h; injection h with h _; omega
  rw [if_neg c2] at h
  by_cases c3 : t.sign = 44
  · rw [if_pos c3] at h
    cases hp : s.pop with
    | none => rw [hp] at h; cases h
    | some q => rw [hp] at h; simp only [Option.map_some] at h; injection h with h; injection h with h _; omega
  rw [if_neg c3] at h
  by_cases c4 : t.sign = 63
  · rw [if_pos c4] at h
    split at h
    · cases h
    · split at h
      · exact fin h
      · injection h with h; injection h with h _; omega
  rw [if_neg c4] at h
  by_cases c5 : t.sign = 58 ∨ t.sign = 93 ∨ t.sign = 126
  · rw [if_pos c5] at h; exact fin h
  rw [if_neg c5] at h
  by_cases c6 : t.sign = 59 ∨ t.sign = 91
  · rw [if_pos c6] at h; injection h with h; injection h with h _; omega
  rw [if_neg c6] at h
  by_cases c7 : t.sign = 35 ∨ t.sign = 164 ∨ t.sign = 64 ∨ t.sign = 169 ∨ t.sign = 36 ∨ t.sign = 174
  · rw [if_pos c7] at h; have := mem_tr h; omega
  rw [if_neg c7] at h
  by_cases c8 : t.sign = 955
  · rw [if_pos c8] at h
    split at h
    · injection h with h; injection h with h _; omega
    · split at h
      · cases h
      · exact fin h
  rw [if_neg c8] at h
  by_cases c9 : t.sign = 960
  · rw [if_pos c9] at h
    split at h
    · cases h
    · split at h
      · injection h with h; injection h with h _; omega
      · injection h with h; injection h with h _; omega
  rw [if_neg c9] at h
  by_cases c10 : t.sign = 161
  · rw [if_pos c10] at h; injection h with h; injection h with h _; omega
  · rw [if_neg c10] at h; have := reckon_tr h; omega
theorem run_tr {us : List FnV} {cd : List CodeV} {rs : List (Option Int)} {most : Nat} {s : EgV} {r : Int × EgV} (h : Rn us cd rs most s r) : 0 ≤ r.1 ∧ r.1 ≤ 7 ∧ (r.1 = 1 → r.2.fuel = 0) := by
  induction h with
  | on _ _ ih => exact ih
  | stop h =>
    unfold eOne at h
    split at h
    · injection h with h; rw [← h]; exact ⟨by simp, by simp, by simp⟩
    · split at h
      · cases h
      · split at h
        · cases h
        · split at h
          · rename_i hz; injection h with h; rw [← h]; exact ⟨by simp, by simp, fun _ => hz⟩
          · split at h
            · split at h
              · cases h
              · rename_i hs
                split at h
                · cases h
                · injection h with h; rw [← h]; have := step_tr hs; exact ⟨this.1, this.2.1, fun e => absurd e this.2.2⟩
            · cases h
/-- A right program runs. -/
theorem eDo_safe {l : List FnV} (hg : SafeU l) {k : Nat} {f : FnV} (hk : l[k]? = some f) {args : List Int} (ha : f.args = (args.length : Int)) (rs : List (Option Int)) (most fuel : Nat) (L : List UInt8) (V : List Bool) (qs : List (Int × Int)) :
    ∃ s0 tr s1, eCall (l.map codeOf) k ⟨fuel, args, [], L, V, qs⟩ = some s0 ∧ s0.fuel = fuel ∧ s0.cs.length = 1 ∧ Rn l (l.map codeOf) rs most s0 (tr, s1) ∧ 0 ≤ tr ∧ tr ≤ 7 ∧ s1.fuel ≤ fuel ∧ (tr = 0 → ∃ x, s1.st = [x]) ∧ (tr = 1 → s1.fuel = 0) := by
  obtain ⟨s0, h0, hS, hf0, hc0, _⟩ := good_call hg hk (s := ⟨fuel, args, [], L, V, qs⟩) (by simp only [ha]; omega) (Sus.nil) (b := 0) (by simp only [ha]; omega)
  obtain ⟨tr, s1, hr, h1⟩ := eRun_safe hg (rs := rs) (most := most) (2 * s0.fuel + s0.cs.length + 1) s0 hS (by omega)
  have hR := Rn.of_run _ hr
  have ht := run_tr hR
  have hl := (rn_less hR).1
  refine ⟨s0, tr, s1, h0, hf0, hc0, hR, ht.1, ht.2.1, by simp only at hl hf0; omega, fun e => ?_, ht.2.2⟩
  have := h1 e
  match hst : s1.st, this with
  | [x], _ => exact ⟨x, rfl⟩
/-- What Run answers of a right program: with just what was spent, with one less. -/
theorem eDo_less {l : List FnV} (hg : SafeU l) {k : Nat} {f : FnV} (hk : l[k]? = some f) {args : List Int} (ha : f.args = (args.length : Int)) (rs : List (Option Int)) (most fuel : Nat) (L : List UInt8) (V : List Bool) (qs : List (Int × Int)) :
    ∃ val tr s1, eDo l rs most k fuel args L V qs = some (val, tr, s1) ∧ 0 ≤ tr ∧ tr ≤ 7 ∧ (tr ≠ 0 → val = 0) ∧ s1.fuel ≤ fuel ∧ (tr = 1 → s1.fuel = 0) ∧ (∃ s2, eDo l rs most k (fuel - s1.fuel) args L V qs = some (val, tr, s2) ∧ s2.fuel = 0) ∧
      (tr ≠ 1 → s1.fuel < fuel → ∃ s3, eDo l rs most k (fuel - s1.fuel - 1) args L V qs = some (0, 1, s3)) := by
  obtain ⟨s0, tr, s1, h0, hf0, hc0, hR, ht0, ht7, hle, hst, h1z⟩ := eDo_safe hg hk ha rs most fuel L V qs
  have hless := (rn_less hR).2
  simp only at hless
  have call : ∀ g, eCall (l.map codeOf) k ⟨g, args, [], L, V, qs⟩ = some (s0.fu g) := fun g => by
    have := call_g (l.map codeOf) k ⟨fuel, args, [], L, V, qs⟩ g
    rw [h0] at this
    exact this
  have did : ∀ (g : Nat) (t : Int) (s : EgV), Rn l (l.map codeOf) rs most (s0.fu g) (t, s) → eDo l rs most k g args L V qs = if t = 0 then s.pop.map fun q => (q.1, t, q.2) else some (0, t, s) := fun g t s h => by
    unfold eDo
    rw [call g]
    simp only
    rw [h.run (2 * g + 2) (by show 2 * g + s0.cs.length < _; omega)]
  have hb : s0.fu fuel = s0 := by rw [← hf0]; rfl
  by_cases h00 : tr = 0
  · subst h00
    obtain ⟨x, hx⟩ := hst rfl
    have pp : ∀ g, (s1.fu g).pop = some (x, ⟨g, [], s1.cs, s1.L, s1.V, s1.qs⟩) := fun g => by unfold EgV.pop EgV.fu; simp [hx]
    refine ⟨x, 0, ⟨s1.fuel, [], s1.cs, s1.L, s1.V, s1.qs⟩, ?_, by omega, by omega, fun h => absurd rfl h, hle, fun h => by omega, ?_, fun _ hl => ?_⟩
    · rw [did fuel 0 s1 (by rw [hb]; exact hR), if_pos rfl, ← fu_self s1, pp]; rfl
    · have h1 := (hless (by omega)).1 s1.fuel (Nat.le_refl _)
      rw [hf0, Nat.sub_self] at h1
      refine ⟨⟨0, [], s1.cs, s1.L, s1.V, s1.qs⟩, ?_, rfl⟩
      rw [did _ 0 _ h1, if_pos rfl, pp]; rfl
    · obtain ⟨s3, h3⟩ := (hless (by omega)).2 (by rw [hf0]; exact hl)
      rw [hf0] at h3
      exact ⟨s3, by rw [did _ 1 _ h3, if_neg (by decide)]⟩
  · by_cases h1 : tr = 1
    · subst h1
      have hz : s1.fuel = 0 := h1z rfl
      refine ⟨0, 1, s1, by rw [did fuel 1 s1 (by rw [hb]; exact hR), if_neg (by decide)], by omega, by omega, fun _ => rfl, hle, fun _ => hz, ⟨s1, ?_, hz⟩, fun h => absurd rfl h⟩
      rw [hz, Nat.sub_zero, did fuel 1 s1 (by rw [hb]; exact hR), if_neg (by decide)]
    · refine ⟨0, tr, s1, by rw [did fuel tr s1 (by rw [hb]; exact hR), if_neg h00], ht0, ht7, fun _ => rfl, hle, fun h => absurd h h1, ?_, fun _ hl => ?_⟩
      · have h2 := (hless h1).1 s1.fuel (Nat.le_refl _)
        rw [hf0, Nat.sub_self] at h2
        exact ⟨s1.fu 0, by rw [did _ tr _ h2, if_neg h00], rfl⟩
      · obtain ⟨s3, h3⟩ := (hless h1).2 (by rw [hf0]; exact hl)
        rw [hf0] at h3
        exact ⟨s3, by rw [did _ 1 _ h3, if_neg (by decide)]⟩
end Go.Proofs.Ytfhgnoajfipjdaa
