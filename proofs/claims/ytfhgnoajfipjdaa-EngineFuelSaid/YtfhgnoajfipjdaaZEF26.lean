/-
  EF: EngPure, MmStore, EgMem, EngCs, EngCs2.
-/
import Derived.Test.YtfhgnoajfipjdaaZEF5
import Derived.Test.YtfhgnoajfipjdaaZEF12
import Derived.Test.YtfhgnoajfipjdaaZEF14
import Derived.Test.YtfhgnoajfipjdaaZEF21
import Derived.Test.YtfhgnoajfipjdaaZEF23
import Derived.Test.YtfhgnoajfipjdaaZEF25
import Derived.StillTailTactics
import Derived.Deep.AppendLies
namespace Go.Proofs.Ytfhgnoajfipjdaa
open Go.RowKit
structure CodeV where
  args : Nat
  ts : List TkV
  go : List Int
structure CallV where
  fn : Nat
  next : Nat
  loc : List Int
/-- A run: fuel, one stack for all calls, the calls, the memory's cells and which pages were turned, what was asked. -/
structure EgV where
  fuel : Nat
  st : List Int
  cs : List CallV
  L : List UInt8
  V : List Bool
  qs : List (Int × Int)
def CallV.at_ (c : CallV) (n : Nat) : CallV := ⟨c.fn, n, c.loc⟩
def EgV.pop (s : EgV) : Option (Int × EgV) := match s.st.getLast? with
  | none => none
  | some x => some (x, ⟨s.fuel, s.st.dropLast, s.cs, s.L, s.V, s.qs⟩)
def EgV.push (s : EgV) (n : Int) : EgV := ⟨s.fuel, s.st ++ [n], s.cs, s.L, s.V, s.qs⟩
def EgV.calls (s : EgV) (cs : List CallV) : EgV := ⟨s.fuel, s.st, cs, s.L, s.V, s.qs⟩
def EgV.jump (s : EgV) (go : Int) : Option EgV := match s.cs.getLast? with
  | none => none
  | some c => if go < 0 then none else some (s.calls (s.cs.dropLast ++ [c.at_ go.toNat]))
/-- The answer to the next ask. -/
def ansR (rs : List (Option Int)) (k : Nat) : Option Int := if k < rs.length then rs.getD k none else some 0
def loadR (L : List UInt8) (k : Int) (s : Nat) : Option Int := if 0 ≤ k ∧ k + s ≤ L.length then some (ldI L k.toNat s) else none
/-- A call begins: its args lie on the stack. -/
def eCall (cd : List CodeV) (k : Nat) (s : EgV) : Option EgV := match cd[k]? with
  | none => none
  | some f => if s.st.length < f.args ∨ 26 < f.args then none
    else some ⟨s.fuel, s.st.take (s.st.length - f.args), s.cs ++ [⟨k, 0, s.st.drop (s.st.length - f.args) ++ List.replicate (26 - f.args) 0⟩], s.L, s.V, s.qs⟩
/-- Letters, and what word does. -/
def eReckon (sg : Int) (s : EgV) : Option (Int × EgV) :=
  if 97 ≤ sg ∧ sg ≤ 122 then (match s.cs.getLast? with
    | none => none
    | some c => match c.loc[(sg - 97).toNat]? with
      | none => none
      | some x => some (0, s.push x))
  else if 65 ≤ sg ∧ sg ≤ 90 then (match s.pop with
    | none => none
    | some (x, s') => match s'.cs.getLast? with
      | none => none
      | some c => some (0, s'.calls (s'.cs.dropLast ++ [⟨c.fn, c.next, c.loc.set (sg - 65).toNat x⟩])))
  else match (if sg = 33 then some ((0 : Int), s) else s.pop) with
    | none => none
    | some (b, s1) => match s1.pop with
      | none => none
      | some (a, s2) => some ((doR sg a b).2, if (doR sg a b).2 = 0 then s2.push (doR sg a b).1 else s2)
/-- The memory. -/
def eMem (most : Nat) (sg : Int) (s : EgV) : Option (Int × EgV) :=
  if sg = 35 then some (0, s.push (s.V.length : Int))
  else match s.pop with
    | none => none
    | some (x, s1) =>
      if sg = 164 then (if x < 0 ∨ (most : Int) - s.V.length < x then some (0, s1.push (-1))
        else some (0, ⟨s1.fuel, s1.st ++ [(s.V.length : Int)], s1.cs, s1.L ++ List.replicate (64 * x.toNat) 0, s1.V ++ List.replicate x.toNat true, s1.qs⟩))
      else if sg = 64 ∨ sg = 169 then (match loadR s1.L x (if sg = 64 then 8 else 1) with
        | none => some (5, s1)
        | some n => some (0, s1.push n))
      else match s1.pop with
        | none => none
        | some (k, s2) => if 0 ≤ k ∧ k + (if sg = 36 then 8 else 1) ≤ s2.L.length then
            some (0, ⟨s2.fuel, s2.st, s2.cs, stL s2.L k.toNat x (if sg = 36 then 8 else 1), stV s2.V k.toNat (if sg = 36 then 8 else 1), s2.qs⟩)
          else some (5, s2)
/-- One token: the trap, and what is behind it. -/
def eStep (us : List FnV) (cd : List CodeV) (rs : List (Option Int)) (most : Nat) (t : TkV) (go : Int) (s : EgV) : Option (Int × EgV) :=
  if t.sign = 48 then some (0, s.push t.n)
  else if t.sign = 46 then (match s.st.getLast? with | none => none | some x => some (0, s.push x))
  else if t.sign = 44 then s.pop.map fun q => (0, q.2)
  else if t.sign = 63 then (match s.pop with
    | none => none
    | some (x, s1) => if x = 0 then (s1.jump go).map fun z => (0, z) else some (0, s1))
  else if t.sign = 58 ∨ t.sign = 93 ∨ t.sign = 126 then (s.jump go).map fun z => (0, z)
  else if t.sign = 59 ∨ t.sign = 91 then some (0, s)
  else if t.sign = 35 ∨ t.sign = 164 ∨ t.sign = 64 ∨ t.sign = 169 ∨ t.sign = 36 ∨ t.sign = 174 then eMem most t.sign s
  else if t.sign = 955 then (if 32 ≤ s.cs.length then some (6, s) else if findI us t.name < 0 then none else (eCall cd (findI us t.name).toNat s).map fun z => (0, z))
  else if t.sign = 960 then (match s.pop with
    | none => none
    | some (x, s1) => match ansR rs s1.qs.length with
      | none => some (7, ⟨s1.fuel, s1.st, s1.cs, s1.L, s1.V, s1.qs ++ [(t.name, x)]⟩)
      | some n => some (0, ⟨s1.fuel, s1.st ++ [n], s1.cs, s1.L, s1.V, s1.qs ++ [(t.name, x)]⟩))
  else if t.sign = 161 then some (2, s)
  else eReckon t.sign s
/-- From token to token. -/
def eRun (us : List FnV) (cd : List CodeV) (rs : List (Option Int)) (most : Nat) : Nat → EgV → Option (Int × EgV)
  | 0, _ => none
  | n + 1, s => match s.cs.getLast? with
    | none => some (0, s)
    | some c => match cd[c.fn]? with
      | none => none
      | some f => if c.next = f.ts.length then eRun us cd rs most n (s.calls s.cs.dropLast)
        else if s.fuel = 0 then some (1, s)
        else match f.ts[c.next]?, f.go[c.next]? with
          | some t, some go => (match eStep us cd rs most t go ⟨s.fuel - 1, s.st, s.cs.dropLast ++ [c.at_ (c.next + 1)], s.L, s.V, s.qs⟩ with
            | none => none
            | some (trap, s') => if trap = 0 then eRun us cd rs most n s' else some (trap, s'))
          | _, _ => none
/-- The code of a function of a program that is right. -/
def codeOf (f : FnV) : CodeV := match tokR f.code with
  | none => ⟨f.args.toNat, [], []⟩
  | some ts => match rNest (signs ts) with
    | none => ⟨f.args.toNat, ts, []⟩
    | some R => ⟨f.args.toNat, ts, R.1⟩
/-- What Run answers: the value, the trap, and all behind it. -/
def eDo (us : List FnV) (rs : List (Option Int)) (most k fuel : Nat) (args : List Int) (L : List UInt8) (V : List Bool) (qs : List (Int × Int)) : Option (Int × Int × EgV) :=
  match eCall (us.map codeOf) k ⟨fuel, args, [], L, V, qs⟩ with
  | none => none
  | some s => match eRun us (us.map codeOf) rs most (2 * fuel + 2) s with
    | none => none
    | some (trap, s') => if trap = 0 then s'.pop.map fun q => (q.1, trap, q.2) else some (0, trap, s')
/-- The runs that known knows. -/
def oneU (s : ByteArray) : List FnV := [⟨102, 1, s⟩]
def dig3 (q : Option (Int × Int × EgV)) : Option (Int × Int × Nat) := q.map fun q => (q.1, q.2.1, q.2.2.fuel)
theorem known_a : dig3 (eDo (oneU ⟨#[49, 32, 50, 43]⟩) [] 2 0 9 [5] (List.replicate 64 0) [false] []) = some (3, 0, 6) := by decide +kernel
theorem known_b : dig3 (eDo (oneU ⟨#[49]⟩) [] 2 0 0 [5] (List.replicate 64 0) [false] []) = some (0, 1, 0) := by decide +kernel
theorem known_c : (dig3 (eDo (oneU ⟨#[97, 206, 187, 102]⟩) [] 2 0 999 [5] (List.replicate 64 0) [false] [])).map (fun q => (q.1, q.2.1)) = some (0, 6) := by decide +kernel
end Go.Proofs.Ytfhgnoajfipjdaa
namespace Go.Proofs.Ytfhgnoajfipjdaa
open Go.RowKit
section
variable {w w' : World} {p gC gD : Nat} {L : List UInt8} {X : List Value} {V : List Bool} {Y : List Value} {most : Nat}
theorem store_step (h : Mm w p gC gD L X V Y most) (k i : Nat) (n : Int) (b : UInt8) (hb : b = byteN n i) (hk : k + i < L.length) :
    Mm ((w.setCell ⟨gC, k + i, none⟩ (B8 b)).setCell ⟨gD, (k + i) / 64, none⟩ (.bool true)) p gC gD (L.set (k + i) (byteN n i)) X (V.set ((k + i) / 64) true) Y most ∧
      Chg [gC, gD] w ((w.setCell ⟨gC, k + i, none⟩ (B8 b)).setCell ⟨gD, (k + i) / 64, none⟩ (.bool true)) := by
  subst hb
  have d0 := h.rec_.ne_ h.cel (by decide)
  have d1 := h.rec_.ne_ h.dir (by decide)
  have d2 := h.cel.ne_ h.dir (by decide)
  have hl := h.len
  have hc := h.cel.set_ (k + i) (B8 (byteN n i))
  rw [List.set_append_left _ _ (by rw [bts_len]; exact hk), bts_set] at hc
  have hd := (h.dir.far (p := ⟨gC, k + i, none⟩) (Ne.symm d2) (B8 (byteN n i))).set_ ((k + i) / 64) (.bool true)
  rw [List.set_append_left _ _ (by rw [bls_len]; omega), bls_set] at hd
  refine ⟨⟨?_, hc.far d2 _, hd, by rw [List.length_set, List.length_set]; exact h.len, by rw [List.length_set]; exact h.le, h.top, by rw [List.length_set]; exact h.capX, by rw [List.length_set]; exact h.capY⟩, ?_⟩
  · rw [List.length_set, List.length_set]
    exact (h.rec_.far d0 _).far d1 _
  · exact ((Chg.refl [gC, gD] w).setCell (by simp) _).setCell (by simp) _
set_option maxHeartbeats 400000 in
theorem store_no (h : Mm w p gC gD L X V Y most) (k n : Int) (wide : Bool) (s : Nat) (hw : s = if wide then 8 else 1) (hk : k < 0 ∨ (L.length : Int) - s < k) :
    Calls Try.prog 171 #[.pointer (some ⟨p, 0, none⟩), .int .i64 k, .int .i64 n, .bool wide] w fun e w' => e = .returned (.bool false) ∧ w = w' := by
  have s1 : s ≤ 8 := by subst hw; split <;> omega
  have HW := Lib.hid (show (if wide then (8 : Int) else 1) = (s : Int) by subst hw; cases wide <;> rfl)
  have HK := Lib.hid hk
  clear hw hk
  go_enter Try.func171, Try.ntmps171
  go_wp2_with (first
    | (go_at_call 185; refine (width_any wide).mono ?_; rintro e w' ⟨rfl, rfl⟩; rw [HW.out])
    | (go_at_call 186; refine (within_no h k s s1 HK.out).mono ?_; rintro e w' ⟨rfl, rfl⟩))
  go_ret
  exact ⟨rfl, rfl⟩
/-- Store's post. -/
def StorePost (w : World) (p gC gD : Nat) (L : List UInt8) (X : List Value) (V : List Bool) (Y : List Value) (most k : Nat) (n : Int) (s : Nat) (e : Ending) (w' : World) : Prop :=
  e = .returned (.bool true) ∧ Mm w' p gC gD (stL L k n s) X (stV V k s) Y most ∧ Chg [gC, gD] w w'
set_option maxHeartbeats 2000000 in
set_option maxRecDepth 100000 in
theorem store_yes (h : Mm w p gC gD L X V Y most) (k : Nat) (n : Int) (wide : Bool) (s : Nat) (hw : s = if wide then 8 else 1) (hk : k + s ≤ L.length) :
    Calls Try.prog 171 #[.pointer (some ⟨p, 0, none⟩), .int .i64 (k : Int), .int .i64 n, .bool wide] w (StorePost w p gC gD L X V Y most k n s) := by
  have b1 := h.small
  have hlen := h.len
  have s1 : s ≤ 8 := by subst hw; split <;> omega
  have HW := Lib.hid (show (if wide then (8 : Int) else 1) = (s : Int) by subst hw; cases wide <;> rfl)
  have HL := Lib.hid hlen
  clear hw hlen
  go_enter Try.func171, Try.ntmps171
  go_wp2_with (first
    | (go_at_call 185; refine (width_any wide).mono ?_; rintro e w' ⟨rfl, rfl⟩; rw [HW.out])
    | (go_at_call 186; refine (within_yes h k s s1 hk).mono ?_; rintro e w' ⟨rfl, rfl⟩))
  go_loopw [19] (fun i wr => ∃ m : Nat, m ≤ s ∧ i = .int .i64 (m : Int) ∧ Mm wr p gC gD (stL L k n m) X (stV V k m) Y most ∧ Chg [gC, gD] w wr) (fun i _ => s - (intOf i).toNat)
  case atStart => exact ⟨0, by omega, rfl, h, Chg.refl _ _⟩
  case round =>
    obtain ⟨m, hm, rfl, hM, hC⟩ := hrel
    by_cases hlt : m < s
    · have hki : k + m < (stL L k n m).length := by rw [stL_len]; omega
      have hst := store_step hM k m n (byteN n m) rfl hki
      have hl1 : (stL L k n m).length = L.length := stL_len _ _ _ _
      have hl2 : (stV V k m).length = V.length := stV_len _ _ _
      have c0 := hM.rec_.cell 0
      have c2 := hM.rec_.cell 2
      have cb := hM.byte (k + m) hki
      have hx64 : (k + m) / 64 < (stV V k m).length := by rw [hl2]; have := HL.out; omega
      have cd := hM.bit ((k + m) / 64) hx64
      have fc := hM.cel.frozen (k + m)
      have fd := hM.dir.frozen ((k + m) / 64)
      have dcd := hM.cel.ne_ hM.dir (by decide)
      have dpc := hM.rec_.ne_ hM.cel (by decide)
      have hby := Lib.hid (byteN_int n m)
      rw [hl1] at c0 c2
      rw [hl2] at c0 c2
      have HC := Lib.hid hC
      have HST := Lib.hid hst
      have HM := Lib.hid hM
      have e1 : IntKind.i64.wrap ((k : Int) + (m : Int)) = (k : Int) + (m : Int) := IntWalk.i64_in _ (by omega)
      have e2 : ((k : Int) + (m : Int)).toNat = k + m := by omega
      have e3 : (0 : Int) ≤ (k : Int) + (m : Int) := by omega
      have e4 : IntKind.i64.wrap (8 * (m : Int)) = 8 * (m : Int) := IntWalk.i64_in _ (by omega)
      have e5 : (8 * (m : Int)).toNat = 8 * m := by omega
      have e6 : (0 : Int) ≤ 8 * (m : Int) := by omega
      have e7 : min (8 * m) 64 = 8 * m := by omega
      have e8 : k + m < L.length := by omega
      have e9 : (k + m) / 64 < V.length := by have := HL.out; omega
      clear hl1 hl2 hC hst hM
      go_wp2_with fail
      go_still_tail 12, (by kernel_rfl)
      change wpList _ _ _ _ _ wr.drew
      go_wp2_with fail
      · go_roundw
        case rel =>
          have hq := HST.out
          unfold B8 at hq
          rw [hby.out] at hq
          exact ⟨m + 1, by omega, by go_num, hq.1.keep (Chg.refl [] _).drew, (HC.out.trans hq.2).drew⟩
        case measure => simp [intOf] <;> omega
    · obtain rfl : m = s := by omega
      go_wp2_with fail
      go_ret
      exact ⟨rfl, hM, hC⟩
end
end Go.Proofs.Ytfhgnoajfipjdaa
namespace Go.Proofs.Ytfhgnoajfipjdaa
open Go.RowKit
def clC (c : CallV) : List Value := [.int .i64 (c.fn : Int), .int .i64 (c.next : Int)] ++ nms c.loc
def clCs : List CallV → List Value
  | [] => []
  | x :: l => clC x ++ clCs l
def Loc26 (cs : List CallV) : Prop := ∀ c ∈ cs, c.loc.length = 26
theorem clC_len {c : CallV} (h : c.loc.length = 26) : (clC c).length = 28 := by simp [clC, nms_len, h]
theorem Loc26.head {c : CallV} {cs : List CallV} (h : Loc26 (c :: cs)) : c.loc.length = 26 := h c (by simp)
theorem Loc26.tail {c : CallV} {cs : List CallV} (h : Loc26 (c :: cs)) : Loc26 cs := fun x hx => h x (by simp [hx])
theorem Loc26.app {cs : List CallV} {c : CallV} : Loc26 (cs ++ [c]) ↔ Loc26 cs ∧ c.loc.length = 26 :=
  ⟨fun h => ⟨fun x hx => h x (by simp [hx]), h c (by simp)⟩, fun h x hx => by
    rcases List.mem_append.1 hx with hx | hx
    · exact h.1 x hx
    · rw [List.mem_singleton] at hx; subst hx; exact h.2⟩
theorem clCs_len : ∀ {l : List CallV}, Loc26 l → (clCs l).length = l.length * 28
  | [], _ => rfl
  | x :: l, h => by rw [clCs, List.length_append, clCs_len h.tail, clC_len h.head, List.length_cons]; omega
theorem clCs_app : ∀ l m, clCs (l ++ m) = clCs l ++ clCs m
  | [], _ => rfl
  | x :: l, m => by rw [List.cons_append, clCs, clCs, clCs_app l m, List.append_assoc]
theorem clCs_one (x : CallV) : clCs [x] = clC x := by simp [clCs]
theorem clCs_last {ys : List CallV} {x : CallV} (h : Loc26 (ys ++ [x])) (j : Nat) : (clCs (ys ++ [x]))[ys.length * 28 + j]? = (clC x)[j]? := by
  rw [clCs_app, clCs_one, List.getElem?_append_right (by rw [clCs_len (Loc26.app.1 h).1]; omega), clCs_len (Loc26.app.1 h).1]
  congr 1; omega
theorem clCs_set {ys : List CallV} {x y : CallV} (h : Loc26 (ys ++ [x])) (j : Nat) (u : Value) (hu : (clC x).set j u = clC y) : (clCs (ys ++ [x])).set (ys.length * 28 + j) u = clCs (ys ++ [y]) := by
  rw [clCs_app, clCs_one, List.set_append_right _ _ (by rw [clCs_len (Loc26.app.1 h).1]; omega), clCs_len (Loc26.app.1 h).1, show ys.length * 28 + j - ys.length * 28 = j by omega, hu, clCs_app, clCs_one]
/-- A code in memory: how many args, where its tokens lie, where one goes. -/
structure CdV where
  c : CodeV
  tv : Value
  gv : Value
def cdC (x : CdV) : List Value := [.int .i64 (x.c.args : Int), x.tv, x.gv]
def cdCs : List CdV → List Value
  | [] => []
  | x :: l => cdC x ++ cdCs l
theorem cdCs_app : ∀ l m, cdCs (l ++ m) = cdCs l ++ cdCs m
  | [], _ => rfl
  | x :: l, m => by rw [List.cons_append, cdCs, cdCs, cdCs_app l m, List.append_assoc]
theorem cdCs_one (x : CdV) : cdCs [x] = cdC x := by simp [cdCs]
theorem cdCs_get : ∀ (l : List CdV) (k : Nat) (x : CdV) (j : Nat), l[k]? = some x → j < 3 → (cdCs l)[k * 3 + j]? = (cdC x)[j]?
  | [], k, x, j, h, hj => by simp at h
  | y :: l, 0, x, j, h, hj => by
    simp at h; subst h
    rw [cdCs, List.getElem?_append_left (by simp [cdC]; omega)]
    congr 1; omega
  | y :: l, k + 1, x, j, h, hj => by
    simp at h
    rw [cdCs, List.getElem?_append_right (by simp [cdC]; omega)]
    rw [← cdCs_get l k x j h hj]
    congr 1; simp [cdC]; omega
structure Cods (W : World) (v : Value) (xs : List CdV) : Prop where
  own : W.ownsRow 0 170 3 v xs.length (cdCs xs)
  toks : ∀ x ∈ xs, W.ownsRow 0 167 3 x.tv x.c.ts.length (tkCs x.c.ts)
  gos : ∀ x ∈ xs, W.ownsRow 0 3 1 x.gv x.c.go.length (nms x.c.go)
  few : ∀ x ∈ xs, x.c.ts.length ≤ 512 ∧ x.c.go.length = x.c.ts.length
  lenb : xs.length ≤ 32
theorem Cods.keep {W W' : World} {v : Value} {xs : List CdV} (h : Cods W v xs) (hc : Chg [] W W') : Cods W' v xs :=
  ⟨rown_keep h.own hc, fun x hx => rown_keep (h.toks x hx) hc, fun x hx => rown_keep (h.gos x hx) hc, h.few, h.lenb⟩
theorem Cods.fe {W W' : World} {v : Value} {xs : List CdV} {K : Nat → Prop} {TS : List TypeId} (h : Cods W v xs) (hf : Fe K TS W W') (h1 : 170 ∉ TS) (h2 : 167 ∉ TS) (h3 : 3 ∉ TS) : Cods W' v xs :=
  ⟨hf.own h.own h1, fun x hx => hf.own (h.toks x hx) h2, fun x hx => hf.own (h.gos x hx) h3, h.few, h.lenb⟩
/-- What stays through a run. -/
structure EP where
  g : Nat
  us : List FnV
  pages : Int
  mst : Int
  A : Option Addr
  n : Nat
  c : Nat
  cv : Value
  xs : List CdV
  p : Nat
  most : Nat
  rp : Nat
  rs : List (Option Int)
  B : Nat
  T : List Nat
def EP.K (P : EP) : Nat → Prop := fun k => P.B ≤ k ∨ k ∈ P.T
abbrev egT : List TypeId := [104, 2, 174, 109, 5, 4, 112, 53]
/-- The work struct. -/
def wkC (P : EP) (fuel : Nat) (vs vc : Value) : List Value := [.int .i64 P.pages, .int .i64 P.mst, .slice P.A P.n P.c, P.cv, .pointer (some ⟨P.p, 0, none⟩), .pointer (some ⟨P.rp, 0, none⟩), .int .i64 (fuel : Int), vs, vc]
structure Eg (P : EP) (W : World) (vs vc : Value) (s : EgV) : Prop where
  rec_ : Whole W P.g 104 (wkC P s.fuel vs vc)
  stk : W.ownsRow P.B 2 1 vs s.st.length (nms s.st)
  cal : W.ownsRow P.B 174 28 vc s.cs.length (clCs s.cs)
  mem : ∃ gC gD X Y, Mm W P.p gC gD s.L X s.V Y P.most ∧ P.K gC ∧ P.K gD
  row : ∃ a q, Rq W P.rp P.rs s.qs a q ∧ ∀ i, q.ownBlock = some i → P.K i
  cod : Cods W P.cv P.xs
  fns : Fnr W P.A P.n P.c P.us
  foff : ∀ ad, P.A = some ad → ¬ P.K ad.block
  gB : P.B ≤ P.g
  room : P.B ≤ W.heap.size
  pK : P.K P.p
  rK : P.K P.rp
  loc : Loc26 s.cs
  fuelb : s.fuel ≤ 1048576
  stkb : s.st.length + s.fuel ≤ 3000000
  calb : s.cs.length ≤ 32
  qsb : s.qs.length + s.fuel ≤ 900000000
theorem EP.new (P : EP) {k : Nat} (h : P.B ≤ k) : P.K k := .inl h
theorem Src.fe {K : Nat → Prop} {TS : List TypeId} {W W' : World} {A : Option Addr} {xs : List Value} (h : Src W A xs) (hf : Fe K TS W W') (hA : ∀ ad, A = some ad → ¬ K ad.block) : Src W' A xs := by
  intro h0
  obtain ⟨ad, rfl, hlt, hx⟩ := h h0
  have hb := hf.block ad.block hlt (.inl (hA ad rfl))
  refine ⟨ad, rfl, Nat.lt_of_lt_of_le hlt hf.size, fun j u hj => ?_⟩
  have := hx j u hj
  rw [← this]
  have e2 : (ad.add j).block = ad.block := by unfold Addr.add; split <;> rfl
  refine World.cell?_of_block (w := W) ?_
  rw [e2]
  exact hb
section
variable {P : EP} {W W' : World} {vs vc : Value} {s : EgV}
theorem Eg.keep (h : Eg P W vs vc s) (hc : Chg [] W W') : Eg P W' vs vc s := by
  obtain ⟨gC, gD, X, Y, hM, h1, h2⟩ := h.mem
  obtain ⟨a, q, hR, h3⟩ := h.row
  exact { h with rec_ := h.rec_.keep hc, stk := rown_keep h.stk hc, cal := rown_keep h.cal hc, mem := ⟨gC, gD, X, Y, hM.keep hc, h1, h2⟩, row := ⟨a, q, hR.keep hc, h3⟩, cod := h.cod.keep hc, fns := h.fns.keep hc, room := Nat.le_trans h.room hc.size }
theorem Eg.kg (h : Eg P W vs vc s) : P.K P.g := .inl h.gB
theorem Fnr.fe {K : Nat → Prop} {TS : List TypeId} {A : Option Addr} {n c : Nat} {l : List FnV} (h : Fnr W A n c l) (hf : Fe K TS W W') (hA : ∀ ad, A = some ad → ¬ K ad.block) : Fnr W' A n c l := { h with src := h.src.fe hf hA }
theorem Eg.sslice (h : Eg P W vs vc s) : ∃ A n c, vs = .slice A n c ∧ n = s.st.length ∧ n ≤ c := by
  obtain ⟨A, c, e, hc, _⟩ := rown_slice h.stk
  exact ⟨A, _, c, e, rfl, hc⟩
theorem Eg.cslice (h : Eg P W vs vc s) : ∃ A n c, vc = .slice A n c ∧ n = s.cs.length ∧ n ≤ c := by
  obtain ⟨A, c, e, hc, _⟩ := rown_slice h.cal
  exact ⟨A, _, c, e, rfl, hc⟩
/-- The struct, the stack or the calls are written: all else stays. -/
theorem Eg.upd {vs' vc' : Value} {fuel : Nat} {st : List Int} {cs : List CallV} {TS : List TypeId} (h : Eg P W vs vc s) (hf : Fe P.K TS W W') (hT : ∀ t ∈ TS, t = 104 ∨ t = 2 ∨ t = 174)
    (h1 : Whole W' P.g 104 (wkC P fuel vs' vc')) (h2 : W'.ownsRow P.B 2 1 vs' st.length (nms st)) (h3 : W'.ownsRow P.B 174 28 vc' cs.length (clCs cs)) (h4 : Loc26 cs) (h5 : fuel ≤ s.fuel) (h6 : st.length + fuel ≤ 3000000) (h7 : cs.length ≤ 32) :
    Eg P W' vs' vc' ⟨fuel, st, cs, s.L, s.V, s.qs⟩ := by
  obtain ⟨gC, gD, X, Y, hM, k1, k2⟩ := h.mem
  obtain ⟨a, q, hR, k3⟩ := h.row
  have no : ∀ t : TypeId, t ≠ 104 → t ≠ 2 → t ≠ 174 → t ∉ TS := fun t a b c hm => by
    rcases hT t hm with h | h | h
    · exact a h
    · exact b h
    · exact c h
  exact { rec_ := h1, stk := h2, cal := h3, mem := ⟨gC, gD, X, Y, hf.mm hM (no _ (by decide) (by decide) (by decide)) (no _ (by decide) (by decide) (by decide)) (no _ (by decide) (by decide) (by decide)), k1, k2⟩,
          row := ⟨a, q, hR.fe hf (no _ (by decide) (by decide) (by decide)) (no _ (by decide) (by decide) (by decide)) (no _ (by decide) (by decide) (by decide)), k3⟩,
          cod := h.cod.fe hf (no _ (by decide) (by decide) (by decide)) (no _ (by decide) (by decide) (by decide)) (no _ (by decide) (by decide) (by decide)),
          fns := h.fns.fe hf h.foff, foff := h.foff, gB := h.gB, room := Nat.le_trans h.room hf.size, pK := h.pK, rK := h.rK, loc := h4, fuelb := by have := h.fuelb; show fuel ≤ _; omega, stkb := h6, calb := h7, qsb := by have := h.qsb; show s.qs.length + fuel ≤ _; omega }
end
end Go.Proofs.Ytfhgnoajfipjdaa
namespace Go.Proofs.Ytfhgnoajfipjdaa
open Go.RowKit
theorem pop_cs {s s1 : EgV} {x : Int} (h : s.pop = some (x, s1)) : s1.cs = s.cs := by
  unfold EgV.pop at h
  split at h
  · cases h
  · injection h with h; injection h with _ h; subst h; rfl
theorem jump_cs {s s1 : EgV} {v : Int} (h : s.jump v = some s1) : s1.cs.length = s.cs.length := by
  unfold EgV.jump at h
  split at h
  · cases h
  · rename_i c hc
    split at h
    · cases h
    · injection h with h
      subst h
      have : 0 < s.cs.length := List.length_pos_iff.2 (fun e => by rw [e] at hc; simp at hc)
      simp [EgV.calls]
      omega
theorem call_cs {cd : List CodeV} {k : Nat} {s s1 : EgV} (h : eCall cd k s = some s1) : s1.cs.length = s.cs.length + 1 := by
  unfold eCall at h
  split at h
  · cases h
  · split at h
    · cases h
    · injection h with h
      subst h
      simp
theorem mem_cs {most : Nat} {sg tr : Int} {s s1 : EgV} (h : eMem most sg s = some (tr, s1)) : s1.cs = s.cs := by
  unfold eMem at h
  split at h
  · injection h with h; injection h with _ h; subst h; rfl
  · split at h
    · cases h
    · rename_i x s2 hp
      have e := pop_cs hp
      split at h
      · split at h <;> (injection h with h; injection h with _ h; subst h; exact e)
      · split at h
        · split at h <;> (injection h with h; injection h with _ h; subst h; exact e)
        · split at h
          · cases h
          · rename_i k s3 hp3
            have e3 := pop_cs hp3
            by_cases hc : 0 ≤ k ∧ k + (if sg = 36 then 8 else 1) ≤ (s3.L.length : Int)
            · rw [if_pos hc] at h
              injection h with h; injection h with _ h; subst h; exact e3.trans e
            · rw [if_neg hc] at h
              injection h with h; injection h with _ h; subst h; exact e3.trans e
end Go.Proofs.Ytfhgnoajfipjdaa
namespace Go.Proofs.Ytfhgnoajfipjdaa
open Go.RowKit
theorem reckon_cs {sg tr : Int} {s s1 : EgV} (h : eReckon sg s = some (tr, s1)) : s1.cs.length ≤ s.cs.length + 1 := by
  unfold eReckon at h
  split at h
  · split at h
    · cases h
    · split at h
      · cases h
      · injection h with h; injection h with _ h; subst h; simp [EgV.push]
  · split at h
    · split at h
      · cases h
      · rename_i x s2 hp
        have e := pop_cs hp
        split at h
        · cases h
        · injection h with h; injection h with _ h; subst h
          simp [EgV.calls, e]
    · have hb : ∀ b s2, (if sg = 33 then some ((0 : Int), s) else s.pop) = some (b, s2) → s2.cs = s.cs := fun b s2 hh => by
        by_cases h33 : sg = 33
        · rw [if_pos h33] at hh; injection hh with hh; injection hh with _ hh; subst hh; rfl
        · rw [if_neg h33] at hh; exact pop_cs hh
      generalize (if sg = 33 then some ((0 : Int), s) else s.pop) = q at h hb
      cases q with
      | none => cases h
      | some q =>
        obtain ⟨b, s2⟩ := q
        have e := hb b s2 rfl
        simp only at h
        split at h
        · cases h
        · rename_i a s3 hp
          have e3 := pop_cs hp
          injection h with h; injection h with _ h; subst h
          split
          · show s3.cs.length ≤ _
            rw [e3, e]; omega
          · rw [e3, e]; omega
theorem step_cs {us : List FnV} {cd : List CodeV} {rs : List (Option Int)} {most : Nat} {t : TkV} {v tr : Int} {s s1 : EgV} (h : eStep us cd rs most t v s = some (tr, s1)) : s1.cs.length ≤ s.cs.length + 1 := by
  have fin : ∀ {q : Option EgV}, (∀ z, q = some z → z.cs.length ≤ s.cs.length + 1) → q.map (fun z => ((0 : Int), z)) = some (tr, s1) → s1.cs.length ≤ s.cs.length + 1 := fun {q} hq hh => by
    cases q with
    | none => cases hh
    | some z => simp only [Option.map_some] at hh; injection hh with hh; injection hh with _ hh; subst hh; exact hq z rfl
  unfold eStep at h
  by_cases c1 : t.sign = 48
  · rw [if_pos c1] at h
    injection h with h; injection h with _ h; subst h; simp [EgV.push]
  rw [if_neg c1] at h
  by_cases c2 : t.sign = 46
  · rw [if_pos c2] at h
    split at h
    · cases h
    · injection h with h; injection h with _ h; subst h; simp [EgV.push]
  rw [if_neg c2] at h
  by_cases c3 : t.sign = 44
  · rw [if_pos c3] at h
    cases hp : s.pop with
    | none => rw [hp] at h; cases h
    | some q =>
      obtain ⟨x, s2⟩ := q
      rw [hp] at h
      simp only [Option.map_some] at h
      injection h with h; injection h with _ h; subst h
      rw [pop_cs hp]; omega
  rw [if_neg c3] at h
  by_cases c4 : t.sign = 63
  · rw [if_pos c4] at h
    split at h
    · cases h
    · rename_i x s2 hp
      have e := pop_cs hp
      split at h
      · exact fin (fun z hz => by rw [jump_cs hz, e]; omega) h
      · injection h with h; injection h with _ h; subst h; rw [e]; omega
  rw [if_neg c4] at h
  by_cases c5 : t.sign = 58 ∨ t.sign = 93 ∨ t.sign = 126
  · rw [if_pos c5] at h
    exact fin (fun z hz => by rw [jump_cs hz]; omega) h
  rw [if_neg c5] at h
  by_cases c6 : t.sign = 59 ∨ t.sign = 91
  · rw [if_pos c6] at h
    injection h with h; injection h with _ h; subst h; omega
  rw [if_neg c6] at h
  by_cases c7 : t.sign = 35 ∨ t.sign = 164 ∨ t.sign = 64 ∨ t.sign = 169 ∨ t.sign = 36 ∨ t.sign = 174
  · rw [if_pos c7] at h
    rw [mem_cs h]; omega
  rw [if_neg c7] at h
  by_cases c8 : t.sign = 955
  · rw [if_pos c8] at h
    split at h
    · injection h with h; injection h with _ h; subst h; omega
    · split at h
      · cases h
      · exact fin (fun z hz => by rw [call_cs hz]; omega) h
  rw [if_neg c8] at h
  by_cases c9 : t.sign = 960
  · rw [if_pos c9] at h
    split at h
    · cases h
    · rename_i x s2 hp
      have e := pop_cs hp
      split at h
      · injection h with h; injection h with _ h; subst h; simp [e]
      · injection h with h; injection h with _ h; subst h; simp [e]
  rw [if_neg c9] at h
  by_cases c10 : t.sign = 161
  · rw [if_pos c10] at h
    injection h with h; injection h with _ h; subst h; omega
  · rw [if_neg c10] at h
    exact reckon_cs h
end Go.Proofs.Ytfhgnoajfipjdaa
