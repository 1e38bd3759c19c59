/-
  EA: EngPure, EngCs, EngCs2.
-/
import Derived.Test.YtfhgnoajfipjdaaZEA1
import Derived.Test.YtfhgnoajfipjdaaZEA7
import Derived.Test.YtfhgnoajfipjdaaZEA20
namespace Go.Proofs.Ytfhgnoajfipjdaa
open Go.RowKit
structure CodeV where
  args : Nat
  ts : List TkV
  go : List Int
structure CallV where
  fn : Nat
  next : Nat
  loc : List Int
/-- A run: fuel, one stack for all calls, the calls, the memory's cells and which pages were turned, what was asked. -/
structure EgV where
  fuel : Nat
  st : List Int
  cs : List CallV
  L : List UInt8
  V : List Bool
  qs : List (Int × Int)
def CallV.at_ (c : CallV) (n : Nat) : CallV := ⟨c.fn, n, c.loc⟩
def EgV.pop (s : EgV) : Option (Int × EgV) := match s.st.getLast? with
  | none => none
  | some x => some (x, ⟨s.fuel, s.st.dropLast, s.cs, s.L, s.V, s.qs⟩)
def EgV.push (s : EgV) (n : Int) : EgV := ⟨s.fuel, s.st ++ [n], s.cs, s.L, s.V, s.qs⟩
def EgV.calls (s : EgV) (cs : List CallV) : EgV := ⟨s.fuel, s.st, cs, s.L, s.V, s.qs⟩
def EgV.jump (s : EgV) (go : Int) : Option EgV := match s.cs.getLast? with
  | none => none
  | some c => if go < 0 then none else some (s.calls (s.cs.dropLast ++ [c.at_ go.toNat]))
/-- The answer to the next ask. -/
def ansR (rs : List (Option Int)) (k : Nat) : Option Int := if k < rs.length then rs.getD k none else some 0
def loadR (L : List UInt8) (k : Int) (s : Nat) : Option Int := if 0 ≤ k ∧ k + s ≤ L.length then some (ldI L k.toNat s) else none
/-- A call begins: its args lie on the stack. -/
def eCall (cd : List CodeV) (k : Nat) (s : EgV) : Option EgV := match cd[k]? with
  | none => none
  | some f => if s.st.length < f.args ∨ 26 < f.args then none
    else some ⟨s.fuel, s.st.take (s.st.length - f.args), s.cs ++ [⟨k, 0, s.st.drop (s.st.length - f.args) ++ List.replicate (26 - f.args) 0⟩], s.L, s.V, s.qs⟩
/-- Letters, and what word does. -/
def eReckon (sg : Int) (s : EgV) : Option (Int × EgV) :=
  if 97 ≤ sg ∧ sg ≤ 122 then (match s.cs.getLast? with
    | none => none
    | some c => match c.loc[(sg - 97).toNat]? with
      | none => none
      | some x => some (0, s.push x))
  else if 65 ≤ sg ∧ sg ≤ 90 then (match s.pop with
    | none => none
    | some (x, s') => match s'.cs.getLast? with
      | none => none
      | some c => some (0, s'.calls (s'.cs.dropLast ++ [⟨c.fn, c.next, c.loc.set (sg - 65).toNat x⟩])))
  else match (if sg = 33 then some ((0 : Int), s) else s.pop) with
    | none => none
    | some (b, s1) => match s1.pop with
      | none => none
      | some (a, s2) => some ((doR sg a b).2, if (doR sg a b).2 = 0 then s2.push (doR sg a b).1 else s2)
/-- The memory. -/
def eMem (most : Nat) (sg : Int) (s : EgV) : Option (Int × EgV) :=
  if sg = 35 then some (0, s.push (s.V.length : Int))
  else match s.pop with
    | none => none
    | some (x, s1) =>
      if sg = 164 then (if x < 0 ∨ (most : Int) - s.V.length < x then some (0, s1.push (-1))
        else some (0, ⟨s1.fuel, s1.st ++ [(s.V.length : Int)], s1.cs, s1.L ++ List.replicate (64 * x.toNat) 0, s1.V ++ List.replicate x.toNat true, s1.qs⟩))
      else if sg = 64 ∨ sg = 169 then (match loadR s1.L x (if sg = 64 then 8 else 1) with
        | none => some (5, s1)
        | some n => some (0, s1.push n))
      else match s1.pop with
        | none => none
        | some (k, s2) => if 0 ≤ k ∧ k + (if sg = 36 then 8 else 1) ≤ s2.L.length then
            some (0, ⟨s2.fuel, s2.st, s2.cs, stL s2.L k.toNat x (if sg = 36 then 8 else 1), stV s2.V k.toNat (if sg = 36 then 8 else 1), s2.qs⟩)
          else some (5, s2)
/-- One token: the trap, and what is behind it. -/
def eStep (us : List FnV) (cd : List CodeV) (rs : List (Option Int)) (most : Nat) (t : TkV) (go : Int) (s : EgV) : Option (Int × EgV) :=
  if t.sign = 48 then some (0, s.push t.n)
  else if t.sign = 46 then (match s.st.getLast? with | none => none | some x => some (0, s.push x))
  else if t.sign = 44 then s.pop.map fun q => (0, q.2)
  else if t.sign = 63 then (match s.pop with
    | none => none
    | some (x, s1) => if x = 0 then (s1.jump go).map fun z => (0, z) else some (0, s1))
  else if t.sign = 58 ∨ t.sign = 93 ∨ t.sign = 126 then (s.jump go).map fun z => (0, z)
  else if t.sign = 59 ∨ t.sign = 91 then some (0, s)
  else if t.sign = 35 ∨ t.sign = 164 ∨ t.sign = 64 ∨ t.sign = 169 ∨ t.sign = 36 ∨ t.sign = 174 then eMem most t.sign s
  else if t.sign = 955 then (if 32 ≤ s.cs.length then some (6, s) else if findI us t.name < 0 then none else (eCall cd (findI us t.name).toNat s).map fun z => (0, z))
  else if t.sign = 960 then (match s.pop with
    | none => none
    | some (x, s1) => match ansR rs s1.qs.length with
      | none => some (7, ⟨s1.fuel, s1.st, s1.cs, s1.L, s1.V, s1.qs ++ [(t.name, x)]⟩)
      | some n => some (0, ⟨s1.fuel, s1.st ++ [n], s1.cs, s1.L, s1.V, s1.qs ++ [(t.name, x)]⟩))
  else if t.sign = 161 then some (2, s)
  else eReckon t.sign s
/-- From token to token. -/
def eRun (us : List FnV) (cd : List CodeV) (rs : List (Option Int)) (most : Nat) : Nat → EgV → Option (Int × EgV)
  | 0, _ => none
  | n + 1, s => match s.cs.getLast? with
    | none => some (0, s)
    | some c => match cd[c.fn]? with
      | none => none
      | some f => if c.next = f.ts.length then eRun us cd rs most n (s.calls s.cs.dropLast)
        else if s.fuel = 0 then some (1, s)
        else match f.ts[c.next]?, f.go[c.next]? with
          | some t, some go => (match eStep us cd rs most t go ⟨s.fuel - 1, s.st, s.cs.dropLast ++ [c.at_ (c.next + 1)], s.L, s.V, s.qs⟩ with
            | none => none
            | some (trap, s') => if trap = 0 then eRun us cd rs most n s' else some (trap, s'))
          | _, _ => none
/-- The code of a function of a program that is right. -/
def codeOf (f : FnV) : CodeV := match tokR f.code with
  | none => ⟨f.args.toNat, [], []⟩
  | some ts => match rNest (signs ts) with
    | none => ⟨f.args.toNat, ts, []⟩
    | some R => ⟨f.args.toNat, ts, R.1⟩
/-- What Run answers: the value, the trap, and all behind it. -/
def eDo (us : List FnV) (rs : List (Option Int)) (most k fuel : Nat) (args : List Int) (L : List UInt8) (V : List Bool) (qs : List (Int × Int)) : Option (Int × Int × EgV) :=
  match eCall (us.map codeOf) k ⟨fuel, args, [], L, V, qs⟩ with
  | none => none
  | some s => match eRun us (us.map codeOf) rs most (2 * fuel + 2) s with
    | none => none
    | some (trap, s') => if trap = 0 then s'.pop.map fun q => (q.1, trap, q.2) else some (0, trap, s')
def askU : List FnV := [⟨102, 1, ⟨#[97, 207, 128, 113, 44, 97, 32, 49, 43, 207, 128, 114]⟩⟩]
theorem ask_code : askU.map codeOf = [⟨1, [⟨97, 0, 0⟩, ⟨960, 0, 113⟩, ⟨44, 0, 0⟩, ⟨97, 0, 0⟩, ⟨48, 1, 0⟩, ⟨43, 0, 0⟩, ⟨960, 0, 114⟩], [-1, -1, -1, -1, -1, -1, -1]⟩] := by
  unfold askU
  simp only [List.map_cons, List.map_nil]
  unfold codeOf
  simp only
  rw [show tokR ⟨#[97, 207, 128, 113, 44, 97, 32, 49, 43, 207, 128, 114]⟩ = some [⟨97, 0, 0⟩, ⟨960, 0, 113⟩, ⟨44, 0, 0⟩, ⟨97, 0, 0⟩, ⟨48, 1, 0⟩, ⟨43, 0, 0⟩, ⟨960, 0, 114⟩] from rfl]
  simp only
  rw [show rNest (signs [⟨97, 0, 0⟩, ⟨960, 0, 113⟩, ⟨44, 0, 0⟩, ⟨97, 0, 0⟩, ⟨48, 1, 0⟩, ⟨43, 0, 0⟩, ⟨960, 0, 114⟩]) = some ([-1, -1, -1, -1, -1, -1, -1], 0) from by decide +kernel]
  rfl
theorem ansR_nil (k : Nat) : ansR [] k = some 0 := by unfold ansR; rw [if_neg (by simp)]
/-- What EngineAsks runs. -/
theorem ask_run (x : Int) (most : Nat) (L : List UInt8) (V : List Bool) (qs : List (Int × Int)) : eDo askU [] most 0 20 [x] L V qs = some (0, 0, ⟨13, [], [], L, V, qs ++ [(113, x), (114, wrap64 (x + 1))]⟩) := by
  unfold eDo
  rw [ask_code]
  simp [eCall, eRun, eStep, eReckon, EgV.pop, EgV.push, EgV.calls, CallV.at_, ansR_nil, doR]
/-- The runs that known knows. -/
def oneU (s : ByteArray) : List FnV := [⟨102, 1, s⟩]
def dig3 (q : Option (Int × Int × EgV)) : Option (Int × Int × Nat) := q.map fun q => (q.1, q.2.1, q.2.2.fuel)
theorem known_a : dig3 (eDo (oneU ⟨#[49, 32, 50, 43]⟩) [] 2 0 9 [5] (List.replicate 64 0) [false] []) = some (3, 0, 6) := by decide +kernel
theorem known_b : dig3 (eDo (oneU ⟨#[49]⟩) [] 2 0 0 [5] (List.replicate 64 0) [false] []) = some (0, 1, 0) := by decide +kernel
theorem known_c : (dig3 (eDo (oneU ⟨#[97, 206, 187, 102]⟩) [] 2 0 999 [5] (List.replicate 64 0) [false] [])).map (fun q => (q.1, q.2.1)) = some (0, 6) := by decide +kernel
end Go.Proofs.Ytfhgnoajfipjdaa
namespace Go.Proofs.Ytfhgnoajfipjdaa
open Go.RowKit
theorem pop_cs {s s1 : EgV} {x : Int} (h : s.pop = some (x, s1)) : s1.cs = s.cs := by
  unfold EgV.pop at h
  split at h
  · cases h
  · injection h with h; injection h with _ h; subst h; rfl
theorem jump_cs {s s1 : EgV} {v : Int} (h : s.jump v = some s1) : s1.cs.length = s.cs.length := by
  unfold EgV.jump at h
  split at h
  · cases h
  · rename_i c hc
    split at h
    · cases h
    · injection h with h
      subst h
      have : 0 < s.cs.length := List.length_pos_iff.2 (fun e => by rw [e] at hc; simp at hc)
      simp [EgV.calls]
      omega
theorem call_cs {cd : List CodeV} {k : Nat} {s s1 : EgV} (h : eCall cd k s = some s1) : s1.cs.length = s.cs.length + 1 := by
  unfold eCall at h
  split at h
  · cases h
  · split at h
    · cases h
    · injection h with h
      subst h
      simp
theorem mem_cs {most : Nat} {sg tr : Int} {s s1 : EgV} (h : eMem most sg s = some (tr, s1)) : s1.cs = s.cs := by
  unfold eMem at h
  split at h
  · injection h with h; injection h with _ h; subst h; rfl
  · split at h
    · cases h
    · rename_i x s2 hp
      have e := pop_cs hp
      split at h
      · split at h <;> (injection h with h; injection h with _ h; subst h; exact e)
      · split at h
        · split at h <;> (injection h with h; injection h with _ h; subst h; exact e)
        · split at h
          · cases h
          · rename_i k s3 hp3
            have e3 := pop_cs hp3
            by_cases hc : 0 ≤ k ∧ k + (if sg = 36 then 8 else 1) ≤ (s3.L.length : Int)
            · rw [if_pos hc] at h
              injection h with h; injection h with _ h; subst h; exact e3.trans e
            · rw [if_neg hc] at h
              injection h with h; injection h with _ h; subst h; exact e3.trans e
end Go.Proofs.Ytfhgnoajfipjdaa
namespace Go.Proofs.Ytfhgnoajfipjdaa
open Go.RowKit
theorem reckon_cs {sg tr : Int} {s s1 : EgV} (h : eReckon sg s = some (tr, s1)) : s1.cs.length ≤ s.cs.length + 1 := by
  unfold eReckon at h
  split at h
  · split at h
    · cases h
    · split at h
      · cases h
      · injection h with h; injection h with _ h; subst h; simp [EgV.push]
  · split at h
    · split at h
      · cases h
      · rename_i x s2 hp
        have e := pop_cs hp
        split at h
        · cases h
        · injection h with h; injection h with _ h; subst h
          simp [EgV.calls, e]
    · have hb : ∀ b s2, (if sg = 33 then some ((0 : Int), s) else s.pop) = some (b, s2) → s2.cs = s.cs := fun b s2 hh => by
        by_cases h33 : sg = 33
        · rw [if_pos h33] at hh; injection hh with hh; injection hh with _ hh; subst hh; rfl
        · rw [if_neg h33] at hh; exact pop_cs hh
      generalize (if sg = 33 then some ((0 : Int), s) else s.pop) = q at h hb
      cases q with
      | none => cases h
      | some q =>
        obtain ⟨b, s2⟩ := q
        have e := hb b s2 rfl
        simp only at h
        split at h
        · cases h
        · rename_i a s3 hp
          have e3 := pop_cs hp
          injection h with h; injection h with _ h; subst h
          split
          · show s3.cs.length ≤ _
            rw [e3, e]; omega
          · rw [e3, e]; omega
theorem step_cs {us : List FnV} {cd : List CodeV} {rs : List (Option Int)} {most : Nat} {t : TkV} {v tr : Int} {s s1 : EgV} (h : eStep us cd rs most t v s = some (tr, s1)) : s1.cs.length ≤ s.cs.length + 1 := by
  have fin : ∀ {q : Option EgV}, (∀ z, q = some z → z.cs.length ≤ s.cs.length + 1) → q.map (fun z => ((0 : Int), z)) = some (tr, s1) → s1.cs.length ≤ s.cs.length + 1 := fun {q} hq hh => by
    cases q with
    | none => cases hh
    | some z => simp only [Option.map_some] at hh; injection hh with hh; injection hh with _ hh; subst hh; exact hq z rfl
  unfold eStep at h
  by_cases c1 : t.sign = 48
  · rw [if_pos c1] at h
    injection h with h; injection h with _ h; subst h; simp [EgV.push]
  rw [if_neg c1] at h
  by_cases c2 : t.sign = 46
  · rw [if_pos c2] at h
    split at h
    · cases h
    · injection h with h; injection h with _ h; subst h; simp [EgV.push]
  rw [if_neg c2] at h
  by_cases c3 : t.sign = 44
  · rw [if_pos c3] at h
    cases hp : s.pop with
    | none => rw [hp] at h; cases h
    | some q =>
      obtain ⟨x, s2⟩ := q
      rw [hp] at h
      simp only [Option.map_some] at h
      injection h with h; injection h with _ h; subst h
      rw [pop_cs hp]; omega
  rw [if_neg c3] at h
  by_cases c4 : t.sign = 63
  · rw [if_pos c4] at h
    split at h
    · cases h
    · rename_i x s2 hp
      have e := pop_cs hp
      split at h
      · exact fin (fun z hz => by rw [jump_cs hz, e]; omega) h
      · injection h with h; injection h with _ h; subst h; rw [e]; omega
  rw [if_neg c4] at h
  by_cases c5 : t.sign = 58 ∨ t.sign = 93 ∨ t.sign = 126
  · rw [if_pos c5] at h
    exact fin (fun z hz => by rw [jump_cs hz]; omega) h
  rw [if_neg c5] at h
  by_cases c6 : t.sign = 59 ∨ t.sign = 91
  · rw [if_pos c6] at h
    injection h with h; injection h with _ h; subst h; omega
  rw [if_neg c6] at h
  by_cases c7 : t.sign = 35 ∨ t.sign = 164 ∨ t.sign = 64 ∨ t.sign = 169 ∨ t.sign = 36 ∨ t.sign = 174
  · rw [if_pos c7] at h
    rw [mem_cs h]; omega
  rw [if_neg c7] at h
  by_cases c8 : t.sign = 955
  · rw [if_pos c8] at h
    split at h
    · injection h with h; injection h with _ h; subst h; omega
    · split at h
      · cases h
      · exact fin (fun z hz => by rw [call_cs hz]; omega) h
  rw [if_neg c8] at h
  by_cases c9 : t.sign = 960
  · rw [if_pos c9] at h
    split at h
    · cases h
    · rename_i x s2 hp
      have e := pop_cs hp
      split at h
      · injection h with h; injection h with _ h; subst h; simp [e]
      · injection h with h; injection h with _ h; subst h; simp [e]
  rw [if_neg c9] at h
  by_cases c10 : t.sign = 161
  · rw [if_pos c10] at h
    injection h with h; injection h with _ h; subst h; omega
  · rw [if_neg c10] at h
    exact reckon_cs h
end Go.Proofs.Ytfhgnoajfipjdaa
