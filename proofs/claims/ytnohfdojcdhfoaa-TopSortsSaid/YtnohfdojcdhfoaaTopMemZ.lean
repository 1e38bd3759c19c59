/-
  Runs of a code of one function, with memory; one step of a reckoning, a load, a store; ends by deciding.
-/
import Derived.Test.YtnohfdojcdhfoaaZTopRun1
import Derived.Test.YtnohfdojcdhfoaaZTopRun2
import Derived.Test.YtnohfdojcdhfoaaZTopRun3
import Derived.Test.YtnohfdojcdhfoaaZTopRun4
import Derived.Test.YtnohfdojcdhfoaaZTopRun5
import Derived.Test.YtnohfdojcdhfoaaZTopRun6
import Derived.Test.YtnohfdojcdhfoaaZTopRun7
import Derived.Test.YtnohfdojcdhfoaaZTopRun8
import Derived.Test.YtnohfdojcdhfoaaZTopRun9
import Derived.Test.YtnohfdojcdhfoaaFrameZ
import Derived.Test.YtnohfdojcdhfoaaTopRunZ
import Derived.Test.YtnohfdojcdhfoaaTopAwakeZ
import Derived.Test.YtnohfdojcdhfoaaTopMaskZ
namespace Go.Proofs.Ytnohfdojcdhfoaa
open Go.RowKit
/-- One call, with fuel, stack, place, the first locals, memory, and what was asked. -/
def mkm (f : Nat) (st : List Int) (pc : Nat) (loc : List Int) (L : List UInt8) (V : List Bool) (qs : List (Int × Int)) : EgV := ⟨f, st, [⟨0, pc, loc ++ List.replicate (26 - loc.length) 0⟩], L, V, qs⟩
theorem doR_rem (a : Int) {b : Int} (hb : b ≠ 0) : doR 37 a b = (a.tmod b, 0) := by
  show (if b = 0 then ((0 : Int), (3 : Int)) else (a.tmod b, 0)) = _
  rw [if_neg hb]
theorem doR_quo (a : Int) {b : Int} (hb : b ≠ 0) (h1 : b ≠ -1) : doR 47 a b = (wrap64 (a.tdiv b), 0) := by
  show (if b = 0 then ((0 : Int), (3 : Int)) else if a = -9223372036854775808 ∧ b = -1 then (0, 4) else (wrap64 (a.tdiv b), 0)) = _
  rw [if_neg hb, if_neg (fun h => h1 h.2)]
theorem pop_two (f : Nat) (st : List Int) (a b : Int) (cs : List CallV) (L : List UInt8) (V : List Bool) (qs : List (Int × Int)) : EgV.pop ⟨f, st ++ [a, b], cs, L, V, qs⟩ = some (b, ⟨f, st ++ [a], cs, L, V, qs⟩) := by
  have e : st ++ [a, b] = (st ++ [a]) ++ [b] := by simp
  unfold EgV.pop
  simp only [e, List.getLast?_append, List.getLast?_singleton, Option.some_or, List.dropLast_concat]
theorem pop_one (f : Nat) (st : List Int) (a : Int) (cs : List CallV) (L : List UInt8) (V : List Bool) (qs : List (Int × Int)) : EgV.pop ⟨f, st ++ [a], cs, L, V, qs⟩ = some (a, ⟨f, st, cs, L, V, qs⟩) := by
  unfold EgV.pop
  simp only [List.getLast?_append, List.getLast?_singleton, Option.some_or, List.dropLast_concat]
theorem one_of {us : List FnV} {rs : List (Option Int)} {most ar pc f : Nat} {ts : List TkV} {go st loc : List Int} {L : List UInt8} {V : List Bool} {qs : List (Int × Int)} {t : TkV} {g : Int} {s' : EgV} (hp : pc < ts.length) (ht : ts[pc]? = some t) (hg : go[pc]? = some g) (h : eStep us [⟨ar, ts, go⟩] rs most t g ⟨f, st, [⟨0, pc + 1, loc ++ List.replicate (26 - loc.length) 0⟩], L, V, qs⟩ = some (0, s')) : eOne us [⟨ar, ts, go⟩] rs most (mkm (f + 1) st pc loc L V qs) = .on s' := by
  have h1 : (mkm (f + 1) st pc loc L V qs).cs.getLast? = some ⟨0, pc, loc ++ List.replicate (26 - loc.length) 0⟩ := rfl
  have h2 : [(⟨ar, ts, go⟩ : CodeV)][(⟨0, pc, loc ++ List.replicate (26 - loc.length) 0⟩ : CallV).fn]? = some ⟨ar, ts, go⟩ := rfl
  unfold eOne
  rw [h1]
  simp only
  rw [h2]
  simp only
  rw [if_neg (by omega), if_neg (by show ¬ (f + 1 = 0); omega), ht, hg]
  simp only
  rw [show eStep us [⟨ar, ts, go⟩] rs most t g ⟨(mkm (f + 1) st pc loc L V qs).fuel - 1, (mkm (f + 1) st pc loc L V qs).st, (mkm (f + 1) st pc loc L V qs).cs.dropLast ++ [(⟨0, pc, loc ++ List.replicate (26 - loc.length) 0⟩ : CallV).at_ (pc + 1)], (mkm (f + 1) st pc loc L V qs).L, (mkm (f + 1) st pc loc L V qs).V, (mkm (f + 1) st pc loc L V qs).qs⟩ = some (0, s') from h]
  rfl
theorem trap_of {us : List FnV} {rs : List (Option Int)} {most ar pc f : Nat} {ts : List TkV} {go st loc : List Int} {L : List UInt8} {V : List Bool} {qs : List (Int × Int)} {t : TkV} {g : Int} {s' : EgV} {tr : Int} (hp : pc < ts.length) (ht : ts[pc]? = some t) (hg : go[pc]? = some g) (h : eStep us [⟨ar, ts, go⟩] rs most t g ⟨f, st, [⟨0, pc + 1, loc ++ List.replicate (26 - loc.length) 0⟩], L, V, qs⟩ = some (tr, s')) (htr : tr ≠ 0) : eOne us [⟨ar, ts, go⟩] rs most (mkm (f + 1) st pc loc L V qs) = .stop (tr, s') := by
  have h1 : (mkm (f + 1) st pc loc L V qs).cs.getLast? = some ⟨0, pc, loc ++ List.replicate (26 - loc.length) 0⟩ := rfl
  have h2 : [(⟨ar, ts, go⟩ : CodeV)][(⟨0, pc, loc ++ List.replicate (26 - loc.length) 0⟩ : CallV).fn]? = some ⟨ar, ts, go⟩ := rfl
  unfold eOne
  rw [h1]
  simp only
  rw [h2]
  simp only
  rw [if_neg (by omega), if_neg (by show ¬ (f + 1 = 0); omega), ht, hg]
  simp only
  rw [show eStep us [⟨ar, ts, go⟩] rs most t g ⟨(mkm (f + 1) st pc loc L V qs).fuel - 1, (mkm (f + 1) st pc loc L V qs).st, (mkm (f + 1) st pc loc L V qs).cs.dropLast ++ [(⟨0, pc, loc ++ List.replicate (26 - loc.length) 0⟩ : CallV).at_ (pc + 1)], (mkm (f + 1) st pc loc L V qs).L, (mkm (f + 1) st pc loc L V qs).V, (mkm (f + 1) st pc loc L V qs).qs⟩ = some (tr, s') from h]
  simp only [if_neg htr]
section
variable {us : List FnV} {rs : List (Option Int)} {most ar f : Nat} {ts : List TkV} {go : List Int} {s s' : EgV} {g sg : Int}
theorem step_rk (f : Nat) (st : List Int) (a b v : Int) (pc : Nat) (loc : List Int) (L : List UInt8) (V : List Bool) (qs : List (Int × Int)) (hs : s = mkm (f + 1) (st ++ [a, b]) pc loc L V qs) (hs' : s' = mkm f (st ++ [v]) (pc + 1) loc L V qs) (hp : pc < ts.length) (ht : ts[pc]? = some ⟨sg, 0, 0⟩) (hg : go[pc]? = some g) (hsg : sg = 47 ∨ sg = 37) (hd : doR sg a b = (v, 0)) : eOne us [⟨ar, ts, go⟩] rs most s = .on s' := by
  subst hs
  refine one_of hp ht hg ?_
  subst hs'
  have hr : eStep us [⟨ar, ts, go⟩] rs most ⟨sg, 0, 0⟩ g ⟨f, st ++ [a, b], [⟨0, pc + 1, loc ++ List.replicate (26 - loc.length) 0⟩], L, V, qs⟩ = eReckon sg ⟨f, st ++ [a, b], [⟨0, pc + 1, loc ++ List.replicate (26 - loc.length) 0⟩], L, V, qs⟩ := by
    rcases hsg with rfl | rfl <;> rfl
  rw [hr]
  unfold eReckon
  rw [if_neg (by omega), if_neg (by omega), if_neg (by omega), pop_two]
  simp only
  rw [pop_one]
  simp only
  rw [hd, if_pos rfl]
  rfl
theorem step_ld (f : Nat) (st : List Int) (k : Nat) (x v : Int) (w : Nat) (pc : Nat) (loc : List Int) (L : List UInt8) (V : List Bool) (qs : List (Int × Int)) (hs : s = mkm (f + 1) (st ++ [x]) pc loc L V qs) (hs' : s' = mkm f (st ++ [v]) (pc + 1) loc L V qs) (hp : pc < ts.length) (ht : ts[pc]? = some ⟨sg, 0, 0⟩) (hg : go[pc]? = some g) (hsg : sg = 64 ∧ w = 8 ∨ sg = 169 ∧ w = 1) (hx : x = (k : Int)) (hk : k + w ≤ L.length) (hd : ldI L k w = v) : eOne us [⟨ar, ts, go⟩] rs most s = .on s' := by
  subst hs
  refine one_of hp ht hg ?_
  subst hs' hx
  have hr : eStep us [⟨ar, ts, go⟩] rs most ⟨sg, 0, 0⟩ g ⟨f, st ++ [(k : Int)], [⟨0, pc + 1, loc ++ List.replicate (26 - loc.length) 0⟩], L, V, qs⟩ = eMem most sg ⟨f, st ++ [(k : Int)], [⟨0, pc + 1, loc ++ List.replicate (26 - loc.length) 0⟩], L, V, qs⟩ := by
    rcases hsg with ⟨rfl, _⟩ | ⟨rfl, _⟩ <;> rfl
  rw [hr]
  unfold eMem
  rw [if_neg (by omega), pop_one]
  simp only
  rw [if_neg (by omega), if_pos (by omega)]
  have hl : loadR L (k : Int) (if sg = 64 then 8 else 1) = some v := by
    rw [show (if sg = 64 then 8 else 1 : Nat) = w from by rcases hsg with ⟨rfl, rfl⟩ | ⟨rfl, rfl⟩ <;> rfl]
    unfold loadR
    rw [if_pos (by omega), Int.toNat_natCast, hd]
  rw [hl]
  rfl
theorem stop_ld (f : Nat) (st : List Int) (x : Int) (w : Nat) (pc : Nat) (loc : List Int) (L : List UInt8) (V : List Bool) (qs : List (Int × Int)) (hs : s = mkm (f + 1) (st ++ [x]) pc loc L V qs) (hp : pc < ts.length) (ht : ts[pc]? = some ⟨sg, 0, 0⟩) (hg : go[pc]? = some g) (hsg : sg = 64 ∧ w = 8 ∨ sg = 169 ∧ w = 1) (hk : ¬ (0 ≤ x ∧ x + w ≤ L.length)) : eOne us [⟨ar, ts, go⟩] rs most s = .stop (5, ⟨f, st, [⟨0, pc + 1, loc ++ List.replicate (26 - loc.length) 0⟩], L, V, qs⟩) := by
  subst hs
  refine trap_of hp ht hg ?_ (by decide)
  have hr : eStep us [⟨ar, ts, go⟩] rs most ⟨sg, 0, 0⟩ g ⟨f, st ++ [x], [⟨0, pc + 1, loc ++ List.replicate (26 - loc.length) 0⟩], L, V, qs⟩ = eMem most sg ⟨f, st ++ [x], [⟨0, pc + 1, loc ++ List.replicate (26 - loc.length) 0⟩], L, V, qs⟩ := by
    rcases hsg with ⟨rfl, _⟩ | ⟨rfl, _⟩ <;> rfl
  rw [hr]
  unfold eMem
  rw [if_neg (by omega), pop_one]
  simp only
  rw [if_neg (by omega), if_pos (by omega)]
  have hl : loadR L x (if sg = 64 then 8 else 1) = none := by
    rw [show (if sg = 64 then 8 else 1 : Nat) = w from by rcases hsg with ⟨rfl, rfl⟩ | ⟨rfl, rfl⟩ <;> rfl]
    unfold loadR
    rw [if_neg hk]
  rw [hl]
theorem step_sv (f : Nat) (st : List Int) (k : Nat) (y x : Int) (w : Nat) (pc : Nat) (loc : List Int) (L : List UInt8) (V : List Bool) (qs : List (Int × Int)) (hs : s = mkm (f + 1) (st ++ [y, x]) pc loc L V qs) (hs' : s' = mkm f st (pc + 1) loc (stL L k x w) (stV V k w) qs) (hp : pc < ts.length) (ht : ts[pc]? = some ⟨sg, 0, 0⟩) (hg : go[pc]? = some g) (hsg : sg = 36 ∧ w = 8 ∨ sg = 174 ∧ w = 1) (hy : y = (k : Int)) (hk : k + w ≤ L.length) : eOne us [⟨ar, ts, go⟩] rs most s = .on s' := by
  subst hs
  refine one_of hp ht hg ?_
  subst hs' hy
  have hr : eStep us [⟨ar, ts, go⟩] rs most ⟨sg, 0, 0⟩ g ⟨f, st ++ [(k : Int), x], [⟨0, pc + 1, loc ++ List.replicate (26 - loc.length) 0⟩], L, V, qs⟩ = eMem most sg ⟨f, st ++ [(k : Int), x], [⟨0, pc + 1, loc ++ List.replicate (26 - loc.length) 0⟩], L, V, qs⟩ := by
    rcases hsg with ⟨rfl, _⟩ | ⟨rfl, _⟩ <;> rfl
  rw [hr]
  unfold eMem
  rw [if_neg (by omega), pop_two]
  simp only
  rw [if_neg (by omega), if_neg (by omega), pop_one]
  simp only
  rw [show (if sg = 36 then 8 else 1 : Nat) = w from by rcases hsg with ⟨rfl, rfl⟩ | ⟨rfl, rfl⟩ <;> rfl, show (if sg = 36 then 8 else 1 : Int) = (w : Int) from by rcases hsg with ⟨rfl, rfl⟩ | ⟨rfl, rfl⟩ <;> rfl, if_pos (by omega), Int.toNat_natCast]
  rfl
theorem step_ask (f : Nat) (st : List Int) (x v : Int) (pc : Nat) (loc : List Int) (L : List UInt8) (V : List Bool) (qs : List (Int × Int)) (nm : Int) (hs : s = mkm (f + 1) (st ++ [x]) pc loc L V qs) (hs' : s' = mkm f (st ++ [v]) (pc + 1) loc L V (qs ++ [(nm, x)])) (hp : pc < ts.length) (ht : ts[pc]? = some ⟨960, 0, nm⟩) (hg : go[pc]? = some g) (hq : ansR rs qs.length = some v) : eOne us [⟨ar, ts, go⟩] rs most s = .on s' := by
  subst hs
  refine one_of hp ht hg ?_
  subst hs'
  have hr : eStep us [⟨ar, ts, go⟩] rs most ⟨960, 0, nm⟩ g ⟨f, st ++ [x], [⟨0, pc + 1, loc ++ List.replicate (26 - loc.length) 0⟩], L, V, qs⟩ = (match EgV.pop ⟨f, st ++ [x], [⟨0, pc + 1, loc ++ List.replicate (26 - loc.length) 0⟩], L, V, qs⟩ with
    | none => none
    | some (x, s1) => match ansR rs s1.qs.length with
      | none => some (7, ⟨s1.fuel, s1.st, s1.cs, s1.L, s1.V, s1.qs ++ [(nm, x)]⟩)
      | some n => some (0, ⟨s1.fuel, s1.st ++ [n], s1.cs, s1.L, s1.V, s1.qs ++ [(nm, x)]⟩)) := rfl
  rw [hr, pop_one]
  simp only
  rw [hq]
  rfl
end
theorem right_one {code : ByteArray} (hok : (rFn (oneF code) 0).1 = 0) (hsz : code.size ≤ 1000000) : RightU 1 8 (oneF code) := by
  refine ⟨by decide, by decide, by decide, by simp [oneF], fun k f hf => ?_, fun k hk => ?_, fun f hf => ?_⟩
  · cases k with
    | zero => simp only [oneF, List.getElem?_cons_zero, Option.some.injEq] at hf; subst hf; exact ⟨by show nameB 102 = true; decide, by simp [findI, findK, oneF], by show (0 : Int) ≤ 2; decide, by show (2 : Int) ≤ 4; decide⟩
    | succ k => simp [oneF] at hf
  · obtain rfl : k = 0 := by simp [oneF] at hk; omega
    exact hok
  · simp only [oneF, List.mem_singleton] at hf
    subst hf
    exact hsz
theorem code_one {code : ByteArray} {ts : List TkV} {go : List Int} (htok : tokR code = some ts) (hnest : (rNest (signs ts)).map (·.1) = some go) : (oneF code).map codeOf = [⟨2, ts, go⟩] := by
  show [codeOf ⟨102, 2, code⟩] = _
  unfold codeOf
  simp only
  rw [htok]
  simp only
  cases hn : rNest (signs ts) with
  | none => rw [hn] at hnest; cases hnest
  | some R => rw [hn] at hnest; simp only [Option.map_some, Option.some.injEq] at hnest; rw [← hnest]; rfl
/-- A run that ends, or traps. -/
theorem ends_trap {code : ByteArray} {ts : List TkV} {go : List Int} (htok : tokR code = some ts) (hnest : (rNest (signs ts)).map (·.1) = some go) (hok : (rFn (oneF code) 0).1 = 0) (hsz : code.size ≤ 1000000) {a b t : Int} {s' : EgV} (hr : Rn (oneF code) [⟨2, ts, go⟩] [] 8 (mk 100000 [] 0 [a, b]) (t, s')) (ht : t ≠ 0) : EndsAs code a b 0 t := by
  refine ⟨right_one hok hsz, s', ?_⟩
  unfold eDo
  rw [code_one htok hnest]
  rw [show eCall [(⟨2, ts, go⟩ : CodeV)] 0 ⟨100000, [a, b], [], List.replicate 64 0, [false], []⟩ = some (mk 100000 [] 0 [a, b]) from rfl]
  simp only
  rw [hr.run (2 * 100000 + 2) (by show 2 * 100000 + 1 < _; omega)]
  simp only [if_neg ht]
/-- A run that is decided. -/
theorem ends_dec {code : ByteArray} (hok : (rFn (oneF code) 0).1 = 0) (hsz : code.size ≤ 1000000) {a b v t : Int} (h : (eDo (oneF code) [] 8 0 100000 [a, b] (List.replicate 64 0) [false] []).map (fun q => (q.1, q.2.1)) = some (v, t)) : EndsAs code a b v t := by
  refine ⟨right_one hok hsz, ?_⟩
  cases hd : eDo (oneF code) [] 8 0 100000 [a, b] (List.replicate 64 0) [false] [] with
  | none => rw [hd] at h; cases h
  | some q =>
    obtain ⟨x, y, s'⟩ := q
    rw [hd] at h
    simp only [Option.map_some, Option.some.injEq, Prod.mk.injEq] at h
    obtain ⟨rfl, rfl⟩ := h
    exact ⟨s', rfl⟩
theorem mk_m (f : Nat) (st : List Int) (pc : Nat) (loc : List Int) : mk f st pc loc = mkm f st pc loc (List.replicate 64 0) [false] [] := rfl
end Go.Proofs.Ytnohfdojcdhfoaa
