/-
  TopRun, part 6: EngPure, MmNew, MmMore, AppZeros, MmGrow, MmStore, EgMem, EgOps, EgNow, EgTurn, EgAsk, RowOps, EgCall, Word, WordDiv, EngCs, EgReck, EgWord, EgRem.
-/
import Derived.Test.YtnohfdojcdhfoaaZTopRun1
import Derived.Test.YtnohfdojcdhfoaaZTopRun2
import Derived.Test.YtnohfdojcdhfoaaZTopRun3
import Derived.Test.YtnohfdojcdhfoaaZTopRun4
import Derived.Lib.AppendZerosOnto
import Derived.StillTailTactics
import Derived.Deep.AppendLies
import Derived.RegionTactic
import Derived.Deep.RegionWith
import Derived.Laws.Tables
import Derived.Laws.Rows
import Derived.Great.Walk
import Derived.Great.FillDense
import Derived.Great.BuildSlice
import Derived.Test.YtnohfdojcdhfoaaChecked
namespace Go.Proofs.Ytnohfdojcdhfoaa
open Go.RowKit
structure CodeV where
  args : Nat
  ts : List TkV
  go : List Int
structure CallV where
  fn : Nat
  next : Nat
  loc : List Int
/-- A run: fuel, one stack for all calls, the calls, the memory's cells and which pages were turned, what was asked. -/
structure EgV where
  fuel : Nat
  st : List Int
  cs : List CallV
  L : List UInt8
  V : List Bool
  qs : List (Int × Int)
def CallV.at_ (c : CallV) (n : Nat) : CallV := ⟨c.fn, n, c.loc⟩
def EgV.pop (s : EgV) : Option (Int × EgV) := match s.st.getLast? with
  | none => none
  | some x => some (x, ⟨s.fuel, s.st.dropLast, s.cs, s.L, s.V, s.qs⟩)
def EgV.push (s : EgV) (n : Int) : EgV := ⟨s.fuel, s.st ++ [n], s.cs, s.L, s.V, s.qs⟩
def EgV.calls (s : EgV) (cs : List CallV) : EgV := ⟨s.fuel, s.st, cs, s.L, s.V, s.qs⟩
def EgV.jump (s : EgV) (go : Int) : Option EgV := match s.cs.getLast? with
  | none => none
  | some c => if go < 0 then none else some (s.calls (s.cs.dropLast ++ [c.at_ go.toNat]))
/-- The answer to the next ask. -/
def ansR (rs : List (Option Int)) (k : Nat) : Option Int := if k < rs.length then rs.getD k none else some 0
def loadR (L : List UInt8) (k : Int) (s : Nat) : Option Int := if 0 ≤ k ∧ k + s ≤ L.length then some (ldI L k.toNat s) else none
/-- A call begins: its args lie on the stack. -/
def eCall (cd : List CodeV) (k : Nat) (s : EgV) : Option EgV := match cd[k]? with
  | none => none
  | some f => if s.st.length < f.args ∨ 26 < f.args then none
    else some ⟨s.fuel, s.st.take (s.st.length - f.args), s.cs ++ [⟨k, 0, s.st.drop (s.st.length - f.args) ++ List.replicate (26 - f.args) 0⟩], s.L, s.V, s.qs⟩
/-- Letters, and what word does. -/
def eReckon (sg : Int) (s : EgV) : Option (Int × EgV) :=
  if 97 ≤ sg ∧ sg ≤ 122 then (match s.cs.getLast? with
    | none => none
    | some c => match c.loc[(sg - 97).toNat]? with
      | none => none
      | some x => some (0, s.push x))
  else if 65 ≤ sg ∧ sg ≤ 90 then (match s.pop with
    | none => none
    | some (x, s') => match s'.cs.getLast? with
      | none => none
      | some c => some (0, s'.calls (s'.cs.dropLast ++ [⟨c.fn, c.next, c.loc.set (sg - 65).toNat x⟩])))
  else match (if sg = 33 then some ((0 : Int), s) else s.pop) with
    | none => none
    | some (b, s1) => match s1.pop with
      | none => none
      | some (a, s2) => some ((doR sg a b).2, if (doR sg a b).2 = 0 then s2.push (doR sg a b).1 else s2)
/-- The memory. -/
def eMem (most : Nat) (sg : Int) (s : EgV) : Option (Int × EgV) :=
  if sg = 35 then some (0, s.push (s.V.length : Int))
  else match s.pop with
    | none => none
    | some (x, s1) =>
      if sg = 164 then (if x < 0 ∨ (most : Int) - s.V.length < x then some (0, s1.push (-1))
        else some (0, ⟨s1.fuel, s1.st ++ [(s.V.length : Int)], s1.cs, s1.L ++ List.replicate (64 * x.toNat) 0, s1.V ++ List.replicate x.toNat true, s1.qs⟩))
      else if sg = 64 ∨ sg = 169 then (match loadR s1.L x (if sg = 64 then 8 else 1) with
        | none => some (5, s1)
        | some n => some (0, s1.push n))
      else match s1.pop with
        | none => none
        | some (k, s2) => if 0 ≤ k ∧ k + (if sg = 36 then 8 else 1) ≤ s2.L.length then
            some (0, ⟨s2.fuel, s2.st, s2.cs, stL s2.L k.toNat x (if sg = 36 then 8 else 1), stV s2.V k.toNat (if sg = 36 then 8 else 1), s2.qs⟩)
          else some (5, s2)
/-- One token: the trap, and what is behind it. -/
def eStep (us : List FnV) (cd : List CodeV) (rs : List (Option Int)) (most : Nat) (t : TkV) (go : Int) (s : EgV) : Option (Int × EgV) :=
  if t.sign = 48 then some (0, s.push t.n)
  else if t.sign = 46 then (match s.st.getLast? with | none => none | some x => some (0, s.push x))
  else if t.sign = 44 then s.pop.map fun q => (0, q.2)
  else if t.sign = 63 then (match s.pop with
    | none => none
    | some (x, s1) => if x = 0 then (s1.jump go).map fun z => (0, z) else some (0, s1))
  else if t.sign = 58 ∨ t.sign = 93 ∨ t.sign = 126 then (s.jump go).map fun z => (0, z)
  else if t.sign = 59 ∨ t.sign = 91 then some (0, s)
  else if t.sign = 35 ∨ t.sign = 164 ∨ t.sign = 64 ∨ t.sign = 169 ∨ t.sign = 36 ∨ t.sign = 174 then eMem most t.sign s
  else if t.sign = 955 then (if 32 ≤ s.cs.length then some (6, s) else if findI us t.name < 0 then none else (eCall cd (findI us t.name).toNat s).map fun z => (0, z))
  else if t.sign = 960 then (match s.pop with
    | none => none
    | some (x, s1) => match ansR rs s1.qs.length with
      | none => some (7, ⟨s1.fuel, s1.st, s1.cs, s1.L, s1.V, s1.qs ++ [(t.name, x)]⟩)
      | some n => some (0, ⟨s1.fuel, s1.st ++ [n], s1.cs, s1.L, s1.V, s1.qs ++ [(t.name, x)]⟩))
  else if t.sign = 161 then some (2, s)
  else eReckon t.sign s
/-- From token to token. -/
def eRun (us : List FnV) (cd : List CodeV) (rs : List (Option Int)) (most : Nat) : Nat → EgV → Option (Int × EgV)
  | 0, _ => none
  | n + 1, s => match s.cs.getLast? with
    | none => some (0, s)
    | some c => match cd[c.fn]? with
      | none => none
      | some f => if c.next = f.ts.length then eRun us cd rs most n (s.calls s.cs.dropLast)
        else if s.fuel = 0 then some (1, s)
        else match f.ts[c.next]?, f.go[c.next]? with
          | some t, some go => (match eStep us cd rs most t go ⟨s.fuel - 1, s.st, s.cs.dropLast ++ [c.at_ (c.next + 1)], s.L, s.V, s.qs⟩ with
            | none => none
            | some (trap, s') => if trap = 0 then eRun us cd rs most n s' else some (trap, s'))
          | _, _ => none
/-- The code of a function of a program that is right. -/
def codeOf (f : FnV) : CodeV := match tokR f.code with
  | none => ⟨f.args.toNat, [], []⟩
  | some ts => match rNest (signs ts) with
    | none => ⟨f.args.toNat, ts, []⟩
    | some R => ⟨f.args.toNat, ts, R.1⟩
/-- What Run answers: the value, the trap, and all behind it. -/
def eDo (us : List FnV) (rs : List (Option Int)) (most k fuel : Nat) (args : List Int) (L : List UInt8) (V : List Bool) (qs : List (Int × Int)) : Option (Int × Int × EgV) :=
  match eCall (us.map codeOf) k ⟨fuel, args, [], L, V, qs⟩ with
  | none => none
  | some s => match eRun us (us.map codeOf) rs most (2 * fuel + 2) s with
    | none => none
    | some (trap, s') => if trap = 0 then s'.pop.map fun q => (q.1, trap, q.2) else some (0, trap, s')
def askU : List FnV := [⟨102, 1, ⟨#[97, 207, 128, 113, 44, 97, 32, 49, 43, 207, 128, 114]⟩⟩]
theorem ask_code : askU.map codeOf = [⟨1, [⟨97, 0, 0⟩, ⟨960, 0, 113⟩, ⟨44, 0, 0⟩, ⟨97, 0, 0⟩, ⟨48, 1, 0⟩, ⟨43, 0, 0⟩, ⟨960, 0, 114⟩], [-1, -1, -1, -1, -1, -1, -1]⟩] := by
  unfold askU
  simp only [List.map_cons, List.map_nil]
  unfold codeOf
  simp only
  rw [show tokR ⟨#[97, 207, 128, 113, 44, 97, 32, 49, 43, 207, 128, 114]⟩ = some [⟨97, 0, 0⟩, ⟨960, 0, 113⟩, ⟨44, 0, 0⟩, ⟨97, 0, 0⟩, ⟨48, 1, 0⟩, ⟨43, 0, 0⟩, ⟨960, 0, 114⟩] from rfl]
  simp only
  rw [show rNest (signs [⟨97, 0, 0⟩, ⟨960, 0, 113⟩, ⟨44, 0, 0⟩, ⟨97, 0, 0⟩, ⟨48, 1, 0⟩, ⟨43, 0, 0⟩, ⟨960, 0, 114⟩]) = some ([-1, -1, -1, -1, -1, -1, -1], 0) from by decide +kernel]
  rfl
theorem ansR_nil (k : Nat) : ansR [] k = some 0 := by unfold ansR; rw [if_neg (by simp)]
/-- What EngineAsks runs. -/
theorem ask_run (x : Int) (most : Nat) (L : List UInt8) (V : List Bool) (qs : List (Int × Int)) : eDo askU [] most 0 20 [x] L V qs = some (0, 0, ⟨13, [], [], L, V, qs ++ [(113, x), (114, wrap64 (x + 1))]⟩) := by
  unfold eDo
  rw [ask_code]
  simp [eCall, eRun, eStep, eReckon, EgV.pop, EgV.push, EgV.calls, CallV.at_, ansR_nil, doR]
/-- The runs that known knows. -/
def oneU (s : ByteArray) : List FnV := [⟨102, 1, s⟩]
def dig3 (q : Option (Int × Int × EgV)) : Option (Int × Int × Nat) := q.map fun q => (q.1, q.2.1, q.2.2.fuel)
theorem known_a : dig3 (eDo (oneU ⟨#[49, 32, 50, 43]⟩) [] 2 0 9 [5] (List.replicate 64 0) [false] []) = some (3, 0, 6) := by decide +kernel
theorem known_b : dig3 (eDo (oneU ⟨#[49]⟩) [] 2 0 0 [5] (List.replicate 64 0) [false] []) = some (0, 1, 0) := by decide +kernel
theorem known_c : (dig3 (eDo (oneU ⟨#[97, 206, 187, 102]⟩) [] 2 0 999 [5] (List.replicate 64 0) [false] [])).map (fun q => (q.1, q.2.1)) = some (0, 6) := by decide +kernel
end Go.Proofs.Ytnohfdojcdhfoaa
namespace Go.Proofs.Ytnohfdojcdhfoaa
open Go.RowKit

/-- A new memory. -/
def NewPost (w : World) (l : List UInt8) (k most : Nat) (e : Ending) (w' : World) : Prop :=
  ∃ p gC gD, e = .returned (.pointer (some ⟨p, 0, none⟩)) ∧ Mm w' p gC gD l [] (falses k) [] most ∧ w.heap.size ≤ p ∧ w.heap.size ≤ gC ∧ w.heap.size ≤ gD ∧ Chg [] w w'

section
variable {w : World}
theorem NewPost.drew {l : List UInt8} {k most : Nat} {e : Ending} {w' : World} (h : NewPost w l k most e w') : NewPost w l k most e w'.drew := by
  obtain ⟨p, gC, gD, he, hM, h1, h2, h3, hc⟩ := h
  exact ⟨p, gC, gD, he, hM.keep (Chg.refl [] w').drew, h1, h2, h3, hc.drew⟩
theorem new_end {W : World} {q gC gD k most n : Nat} {l : List UInt8} (hq : q = W.heap.size) (hC : Whole W gC 5 (bts l)) (hD : Whole W gD 4 (bls (falses k))) (hn : l.length = n) (hl : n = 64 * k) (h1 : k ≤ most) (h2 : most ≤ 64)
    (hc : Chg [] w W) (b1 : w.heap.size ≤ gC) (b2 : w.heap.size ≤ gD) :
    NewPost w l k most (.returned (.pointer (some ⟨q, 0, none⟩))) (W.alloc (.cells #[.slice (some ⟨gC, 0, none⟩) n n, .int .i64 (most : Int), .slice (some ⟨gD, 0, none⟩) k k] 83)) := by
  subst hq hn
  have hk : ∀ o, Chg [] W (W.alloc o) := fun o => (Chg.refl [] W).alloc o
  refine ⟨W.heap.size, gC, gD, rfl, ⟨?_, by simpa using hC.keep (hk _), by simpa using hD.keep (hk _), by rw [falses_len]; exact hl, by rw [falses_len]; exact h1, h2, by unfold maxLen; simp; omega, by unfold maxLen; simp [falses_len]; omega⟩, hc.size, b1, b2, hc.alloc _⟩
  have := Whole.new W 83 [.slice (some ⟨gC, 0, none⟩) l.length l.length, .int .i64 (most : Int), .slice (some ⟨gD, 0, none⟩) k k]
  simpa [falses_len] using this

set_option maxHeartbeats 400000 in
theorem cnew_no (k most : Int) (h : k < 0 ∨ most < k ∨ 64 < most) :
    Calls Try.prog 31 #[.int .i64 k, .int .i64 most] w fun e w' => e = .returned (.pointer none) ∧ w = w' := by
  by_cases h1 : k < 0
  · have hd : decide (k < 0) = true := by simpa using h1
    clear h
    go_enter Try.func31, Try.ntmps31
    go_wp2_with fail
    go_ret
    exact ⟨rfl, rfl⟩
  · have hd1 : decide (k < 0) = false := by simpa using h1
    by_cases h2 : most < k
    · have hd : decide (most < k) = true := by simpa using h2
      clear h
      go_enter Try.func31, Try.ntmps31
      go_wp2_with fail
      go_ret
      exact ⟨rfl, rfl⟩
    · have hd2 : decide (most < k) = false := by simpa using h2
      have hd3 : decide (64 < most) = true := by simp; omega
      clear h
      go_enter Try.func31, Try.ntmps31
      go_wp2_with fail
      go_ret
      exact ⟨rfl, rfl⟩

set_option maxHeartbeats 1000000 in
set_option maxRecDepth 100000 in
theorem cnew_yes (k most : Nat) (h1 : k ≤ most) (h2 : most ≤ 64) :
    Calls Try.prog 31 #[.int .i64 (k : Int), .int .i64 (most : Int)] w (NewPost w (zeros (k * 64)) k most) := by
  have hd2 : decide ((most : Int) < (k : Int)) = false := by simp; omega
  have hd3 : decide (64 < (most : Int)) = false := by simp; omega
  have hmk : ∀ W : World, (Instr.makeSlice 51 (.int .i64 ((k : Int) * 64)) (.int .i64 ((k : Int) * 64))).run Try.prog W = .ok (.slice (some ⟨W.heap.size, 0, none⟩) (k * 64) (k * 64)) (W.alloc (.cells (bts (zeros (k * 64))).toArray 5)) :=
    fun W => by
      have := make_u8 (k * 64) (by omega) W
      simpa using this
  have hmb : ∀ W : World, (Instr.makeSlice 81 (.int .i64 (k : Int)) (.int .i64 (k : Int))).run Try.prog W = .ok (.slice (some ⟨W.heap.size, 0, none⟩) k k) (W.alloc (.cells (bls (falses k)).toArray 4)) :=
    fun W => make_bool k (by omega) W
  have hz : (zeros (k * 64)).length = k * 64 := zeros_len _
  have HZ := Lib.hid hz
  clear hz
  have hw : IntKind.i64.wrap ((k : Int) * 64) = (k : Int) * 64 := IntWalk.i64_in _ (by omega)
  go_enter Try.func31, Try.ntmps31
  go_wp2_with fail
  go_region_with fail
  all_goals
    go_wp2_with fail
    go_ret
  · have hA := Whole.new w 5 (bts (zeros (k * 64)))
    have hB := Whole.new (w.alloc (.cells (bts (zeros (k * 64))).toArray 5)) 4 (bls (falses k))
    rw [show (w.alloc (.cells (bts (zeros (k * 64))).toArray 5)).heap.size = w.heap.size + 1 by simp] at hB
    exact (new_end (W := (w.alloc (.cells (bts (zeros (k * 64))).toArray 5)).alloc (.cells (bls (falses k)).toArray 4)) (by simp) (hA.keep ((Chg.refl [] _).alloc _)) hB HZ.out (by omega) h1 h2 (((Chg.refl [] w).alloc _).alloc _) (Nat.le_refl _) (by omega)).drew
  · have hA := Whole.new w 4 (bls (falses k))
    have hB := Whole.new (w.alloc (.cells (bls (falses k)).toArray 4)) 5 (bts (zeros (k * 64)))
    rw [show (w.alloc (.cells (bls (falses k)).toArray 4)).heap.size = w.heap.size + 1 by simp] at hB
    exact (new_end (W := (w.alloc (.cells (bls (falses k)).toArray 4)).alloc (.cells (bts (zeros (k * 64))).toArray 5)) (by simp) hB (hA.keep ((Chg.refl [] _).alloc _)) HZ.out (by omega) h1 h2 (((Chg.refl [] w).alloc _).alloc _) (by omega) (Nat.le_refl _)).drew

variable {A : Option Addr} {n c : Nat} {l : List UInt8}
theorem of_copied {w1 w2 : World} {p gC gD k most : Nat} {z : List UInt8} (hM : Mm w1 p gC gD z [] (falses k) [] most) (hz : z.length = l.length) (hc1 : Chg [] w w1) (b0 : w.heap.size ≤ p) (b1 : w.heap.size ≤ gC) (b2 : w.heap.size ≤ gD)
    (HG : Whole w2 gC 5 (splice (bts z) 0 (bts l))) (HC : Chg [gC] w1 w2) : NewPost w l k most (.returned (.pointer (some ⟨p, 0, none⟩))) w2 := by
  have d0 := hM.rec_.ne_ hM.cel (by decide)
  have d1 := hM.dir.ne_ hM.cel (by decide)
  rw [splice_all _ _ (by rw [bts_len, bts_len, hz])] at HG
  have hr := hM.rec_.chg HC (by simpa using d0)
  have hd := hM.dir.chg HC (by simpa using d1)
  have h1 := hM.len
  have h2 := hM.capX
  rw [hz] at hr h1 h2
  refine ⟨p, gC, gD, rfl, ⟨hr, by simpa using HG, hd, h1, hM.le, hM.top, h2, hM.capY⟩, b0, b1, b2, ?_⟩
  exact hc1.then_ HC fun i hi hlt => by
    simp only [List.mem_cons, List.not_mem_nil, or_false] at hi
    omega
end
end Go.Proofs.Ytnohfdojcdhfoaa
namespace Go.Proofs.Ytnohfdojcdhfoaa
open Go.RowKit

/-- Bytes of the call's own. -/
def OwnB (w : World) (l : List UInt8) (e : Ending) (w' : World) : Prop := ∃ v, e = .returned v ∧ w'.ownsRow w.heap.size 5 1 v l.length (bts l) ∧ Chg [] w w'
/-- The places that are true, below k. -/
def trues (V : List Bool) (k : Nat) : List Int := ((List.range k).filter fun i => V.getD i false).map Int.ofNat
theorem trues_yes (V : List Bool) (k : Nat) (h : V.getD k false = true) : trues V (k + 1) = trues V k ++ [(k : Int)] := by
  unfold trues; rw [List.range_succ, List.filter_append, List.map_append, List.filter_cons, if_pos h]; rfl
theorem trues_no (V : List Bool) (k : Nat) (h : V.getD k false = false) : trues V (k + 1) = trues V k := by
  unfold trues; rw [List.range_succ, List.filter_append, List.filter_cons, if_neg (by rw [h]; decide)]; simp
theorem trues_le (V : List Bool) (k : Nat) : (trues V k).length ≤ k := by
  unfold trues; rw [List.length_map]; exact Nat.le_trans (List.length_filter_le _ _) (by simp)
/-- Numbers of the call's own. -/
def OwnI (w : World) (l : List Int) (e : Ending) (w' : World) : Prop := ∃ v, e = .returned v ∧ w'.ownsRow w.heap.size 3 1 v l.length (nms l) ∧ Chg [] w w'
theorem cells_i64 : (Value.int .i64 0).cells.size = 1 := rfl
section
variable {w : World} {p gC gD : Nat} {L : List UInt8} {X : List Value} {V : List Bool} {Y : List Value} {most : Nat}
set_option maxHeartbeats 1000000 in
theorem mbytes_any (h : Mm w p gC gD L X V Y most) : Calls Try.prog 38 #[.pointer (some ⟨p, 0, none⟩)] w (OwnB w L) := by
  obtain ⟨i, hi, hz, hs1, hb⟩ := info_parts info_u8
  have c0 := h.rec_.cell 0
  have hsr := h.src
  have hl := Lib.hid (bts_len L)
  have h1 := bts_one L
  have b1 := h.small
  have x1 := Lib.hid (show 0 + L.length ≤ maxLen by unfold maxLen; omega)
  have x2 := Lib.hid (show (0 + L.length) * 1 ≤ 140737488355328 by omega)
  go_enter Try.func38, Try.ntmps38
  go_wp2_with (at_builtin
               refine wpList_append_src rfl (.const (.slice none 0 0)) (.tmp 6) 51 rfl w.heap.size 5 i _ 1 Try.underlying51 hi hz hs1 hb cells_u8 (.slice none 0 0) 0 [] rfl (own_nil _ _ _) (some ⟨gC, 0, none⟩) L.length (L.length + X.length) (bts L) rfl hl.out hsr h1 x1.out x2.out (Nat.le_refl _) ?_
               intro v4 w4 ho4 hg4 _)
  go_ret
  rw [Nat.zero_add, List.nil_append] at ho4
  exact ⟨v4, rfl, ho4, Chg.of_grown hg4 (fun g hg => by simp [Value.ownBlock] at hg)⟩

/-- A pointer to a memory of the call's own. -/
def newF (B : Nat) (l : List UInt8) (k most : Nat) : Fact := fun v W => ∃ p gC gD, v = .pointer (some ⟨p, 0, none⟩) ∧ Mm W p gC gD l [] (falses k) [] most ∧ B ≤ p ∧ B ≤ gC ∧ B ≤ gD
theorem keeps_newF (B : Nat) (l : List UInt8) (k most : Nat) : Keeps (Chg []) (newF B l k most) := fun _ _ _ ⟨p, gC, gD, h, hM, h1, h2, h3⟩ hc => ⟨p, gC, gD, h, hM.keep hc, h1, h2, h3⟩
set_option maxHeartbeats 1000000 in
set_option maxRecDepth 100000 in
theorem mdirty_any (h : Mm w p gC gD L X V Y most) : Calls Try.prog 39 #[.pointer (some ⟨p, 0, none⟩)] w (OwnI w (trues V V.length)) := by
  obtain ⟨i, hi, hz, hs1, hb⟩ := info_parts info_int
  have c2 := h.rec_.cell 2
  have b1 := h.smallV
  have HH := Lib.hid h
  clear h
  go_enter Try.func39, Try.ntmps39
  go_wp2_with fail
  go_loopw [3, 11] (fun v i wr => ∃ k : Nat, k ≤ V.length ∧ i = .int .i64 (k : Int) ∧ (∃ m, m = (trues V k).length ∧ wr.ownsRow w.heap.size 3 1 v m (nms (trues V k))) ∧ Chg [] w wr) (fun _ i _ => V.length - (intOf i).toNat)
  case atStart => exact ⟨0, by omega, rfl, ⟨0, rfl, own_nil w w.heap.size 3⟩, Chg.refl _ _⟩
  case round =>
    obtain ⟨k, hk, rfl, ⟨m, hm0, hown⟩, hcr⟩ := hrel
    have hm1 := trues_le V k
    have hm2 : m ≤ k := by omega
    have HM := Lib.hid hm0
    have HO := Lib.hid hown
    have HC := Lib.hid hcr
    have hz1 := hcr.size
    clear hm0 hm1 hcr
    by_cases hlt : k < V.length
    · have hx := (HH.out.keep HC.out).bit k hlt
      cases hvk : V[k]
      · have hgd : V.getD k false = false := by rw [List.getD_eq_getElem?_getD, List.getElem?_eq_getElem hlt, hvk]; rfl
        have HT := Lib.hid (trues_no V k hgd)
        rw [hvk] at hx
        clear hvk hgd hown
        go_wp2_with fail
        go_roundw
        case rel => exact ⟨k + 1, by omega, by go_num, ⟨m, by rw [HT.out]; exact HM.out, by rw [HT.out]; exact HO.out⟩, HC.out⟩
        case measure => simp [intOf] <;> omega
      · have hgd : V.getD k false = true := by rw [List.getD_eq_getElem?_getD, List.getElem?_eq_getElem hlt, hvk]; rfl
        have HT := Lib.hid (trues_yes V k hgd)
        rw [hvk] at hx
        clear hvk hgd
        have x1 := Lib.hid (show m + 1 ≤ maxLen by unfold maxLen; omega)
        have x2 := Lib.hid (show (m + 1) * 8 ≤ 140737488355328 by omega)
        have ho2 := own_keep hown ((Chg.refl [] wr).alloc (.cells #[.int .i64 (k : Int)] 3))
        have hs2 : Src (wr.alloc (.cells #[.int .i64 (k : Int)] 3)) (some ⟨wr.heap.size, 0, none⟩) [.int .i64 (k : Int)] := Src.of_all (Whole.new wr 3 [.int .i64 (k : Int)])
        have hs3 : w.heap.size ≤ (wr.alloc (.cells #[.int .i64 (k : Int)] 3)).heap.size := by simp; omega
        have h1 : ∀ u ∈ [Value.int .i64 (k : Int)], u.oneCell' = true := by simp [Value.oneCell']
        clear hown
        go_wp2_with (at_builtin
                     refine wpList_append_src rfl (.tmp 17) (.tmp 19) 43 rfl w.heap.size 3 i _ 8 Try.underlying43 hi hz hs1 hb cells_i64 _ m (nms (trues V k)) rfl ho2 (some ⟨wr.heap.size, 0, none⟩) 1 1 [.int .i64 (k : Int)] rfl rfl hs2 h1 x1.out x2.out hs3 ?_
                     intro v4 w4 ho4 hg4 _)
        go_roundw
        case rel =>
          refine ⟨k + 1, by omega, by go_num, ⟨m + 1, ?_, ?_⟩, ?_⟩
          · rw [HT.out, List.length_append, ← HM.out]; rfl
          · rw [HT.out, nms_app]; exact ho4
          · exact (HC.out.alloc _).own ho2 (Nat.le_refl _) hg4
        case measure => simp [intOf] <;> omega
    · obtain rfl : k = V.length := by omega
      go_wp2_with fail
      go_ret
      exact ⟨_, rfl, by rw [← HM.out]; exact HO.out, HC.out⟩
end
end Go.Proofs.Ytnohfdojcdhfoaa
namespace Go.Proofs.Ytnohfdojcdhfoaa
open Go.RowKit
theorem zeroCells_one (z : Value) (n : Nat) : Builtin.zeroCells #[z] n = (List.replicate n z).toArray := by
  apply Array.ext
  · simp [Builtin.zeroCells]
  · intro i h1 h2
    simp [Builtin.zeroCells, Nat.mod_one]
theorem run_append_zeros {P : Program} (w : World) (base : Nat) (t tn ty e : TypeId) (i : TypeInfo) (z : Value) (bytes : Nat) (kn : IntKind) (ht : P.underlying t = some (.slice e)) (htn : P.underlying tn = some (.int kn)) (hi : P.info? e = some i) (hz : i.zero = some z)
    (hsize : i.size = 1) (hby : i.bytes = bytes) (hzc : z.cells = #[z]) (hz1 : z.oneCell' = true)
    (g n cap : Nat) (xs : List Value) (hown : w.ownsRow base e 1 (.slice (some ⟨g, 0, none⟩) n cap) n xs)
    (k : Nat) (h63 : n + k ≤ maxLen) (hbytes : (n + k) * bytes ≤ 140737488355328) (hbase : base ≤ w.heap.size) :
    ∃ g' cap' w', (Builtin.append_ #[t, tn] ty #[.slice (some ⟨g, 0, none⟩) n cap, .int .i64 (k : Int)]).run P w = .ok (.slice (some ⟨g', 0, none⟩) (n + k) cap') w' ∧
      w'.ownsRow base e 1 (.slice (some ⟨g', 0, none⟩) (n + k) cap') (n + k) (xs ++ List.replicate k z) ∧ w.grownBy w' (some g) ∧ (g' = g ∨ g' = w.heap.size) := by
  have hsmall : n + k ≤ 9223372036854775807 := by simpa only [maxLen] using h63
  have hw : IntKind.i64.wrap (k : Int) = k := by rw [IntKind.wrap_i64]; omega
  have hneg : ¬ ((k : Int) < 0) := by omega
  have h48 : k * bytes ≤ 281474976710656 := by have : k * bytes ≤ (n + k) * bytes := Nat.mul_le_mul_right _ (by omega); omega
  have h48i : ¬ (281474976710656 < (k : Int) * (i.bytes : Int)) := by rw [hby, ← Int.natCast_mul]; omega
  have hlx := hown.1
  rcases hown.2 with ⟨h, _⟩ | ⟨g', cap', cur, h, hbg, hg, hnc, hcm, hcs, htake⟩
  · simp at h
  · simp only [Value.slice.injEq, Option.some.injEq, Addr.mk.injEq, and_true, true_and] at h
    obtain ⟨rfl, rfl⟩ := h
    rw [Nat.mul_one] at hcs htake hlx
    by_cases hk0 : k = 0
    · subst hk0
      refine ⟨g, cap, w, ?_, by simpa using hown, World.grownBy.refl w _, .inl rfl⟩
      have hw0 : IntKind.i64.wrap 0 = 0 := by decide
      simp [Builtin.append_, run_underlying ht, run_underlying htn, sizeOf, typeInfo, hi, asInt, asIntOf, storeCells, hnc, hw0]
    · have hns : ¬ (k * i.size = 0) := by rw [hsize]; omega
      by_cases hroom : n + k ≤ cap
      · have hfit : n + (List.replicate k z).length ≤ cur.size := by rw [List.length_replicate]; omega
        have hst := run_storeCells_at P g n e (List.replicate k z) 0 cur w hg (by simpa using hfit) (fun u hu => by rw [(List.mem_replicate.1 hu).2]; exact hz1)
        simp only [Nat.add_zero] at hst
        rw [List.length_replicate] at hst
        have hr : (Builtin.append_ #[t, tn] ty #[.slice (some ⟨g, 0, none⟩) n cap, .int .i64 (k : Int)]).run P w = .ok (.slice (some ⟨g, 0, none⟩) (n + k) cap) (w.setRow g (cur.toList.take n ++ List.replicate k z ++ cur.toList.drop (n + k)).toArray) := by
          simp [Builtin.append_, run_underlying ht, run_underlying htn, sizeOf, typeInfo, zeroValue, hi, hz, asInt, asIntOf, hw, hneg, h48i, hk0, hroom, hsize, hzc, zeroCells_one, Addr.add_lit, hst]
        refine ⟨_, _, _, hr, ⟨by simp [hlx], .inr ⟨g, cap, _, rfl, hbg, setRow_heap w g cur _ e _ hg, hroom, hcm, ?_, ?_⟩⟩, ⟨rfl, rfl, rfl, by simp, fun j _ hj => setRow_other w g j _ (fun e => hj (by simp [e]))⟩, .inl rfl⟩
        · simp only [List.size_toArray, List.length_append, List.length_take, List.length_drop, Array.length_toList, List.length_replicate]
          omega
        · rw [htake, Nat.mul_one]
          have e1 : (xs ++ List.replicate k z).length = n + k := by rw [List.length_append, List.length_replicate, hlx]
          rw [← e1]
          exact List.take_left
      · have hf := run_firstCells_some (P := P) w.drew i.size n ⟨g, 0, none⟩ n cap xs (by rw [hsize, Nat.mul_one]; exact hlx) (fun j u hj => hown.cells (g := g) rfl j u hj)
        have hr := Lib.run_append_grow_zeros (P := P) w t tn ty e i z .i64 kn ht htn hi hz (some ⟨g, 0, none⟩) n cap xs hf k (by omega) (by omega) (by omega) (by omega) (by rw [hby]; exact h48) (by rw [hby]; exact growslice_fits (by omega) hbytes)
        rw [hzc, zeroCells_one, zeroCells_one] at hr
        have hge := grownCap_ge w (n + k) cap e
        have hcm2 : grownCap w (n + k) cap e ≤ maxLen := grownCap_le_maxLen w (n + k) cap e h63
        refine ⟨_, _, _, hr, ⟨by simp [hlx], .inr ⟨w.heap.size, _, _, rfl, hbase, heap_alloc_new w.drew _, hge, hcm2, ?_, ?_⟩⟩, ⟨rfl, rfl, rfl, by simp, fun j hj _ => Below.heap_alloc w.drew _ j hj⟩, .inr rfl⟩
        · simp only [Array.size_append, List.size_toArray, List.length_replicate, hlx]
          omega
        · simp only [Array.toList_append, Nat.mul_one]
          have e1 : (xs ++ List.replicate k z).length = n + k := by rw [List.length_append, List.length_replicate, hlx]
          rw [← e1]
          exact List.take_left
end Go.Proofs.Ytnohfdojcdhfoaa
namespace Go.Proofs.Ytnohfdojcdhfoaa
open Go.RowKit
theorem whole_of_own {w : World} {B g n cap : Nat} {e : TypeId} {xs : List Value} (h : w.ownsRow B e 1 (.slice (some ⟨g, 0, none⟩) n cap) n xs) : ∃ X : List Value, cap = n + X.length ∧ Whole w g e (xs ++ X) ∧ cap ≤ maxLen ∧ xs.length = n := by
  have hx := h.1
  rcases h.2 with ⟨h', _⟩ | ⟨g', cap', cur, h', hb, hg, hnc, hcm, hcs, htake⟩
  · simp at h'
  · simp only [Value.slice.injEq, Option.some.injEq, Addr.mk.injEq, and_true, true_and] at h'
    obtain ⟨rfl, rfl⟩ := h'
    rw [Nat.mul_one] at hcs htake hx
    have hl : cur.toList.length = cap := by rw [Array.length_toList]; exact hcs
    refine ⟨cur.toList.drop n, by rw [List.length_drop, hl]; omega, ?_, hcm, hx⟩
    unfold Whole
    rw [← htake, List.take_append_drop]
    exact hg
theorem own_mm {w : World} {g n : Nat} {e : TypeId} {xs X : List Value} (h : Whole w g e (xs ++ X)) (hx : xs.length = n) (hm : n + X.length ≤ maxLen) : w.ownsRow 0 e 1 (.slice (some ⟨g, 0, none⟩) n (n + X.length)) n xs := by
  have := own_of_whole (B := 0) (n := n) h (Nat.zero_le _) (c := n + X.length) (by rw [List.length_append, hx]) (by omega) hm
  rwa [List.take_left' hx] at this
/-- What is known of a memory while it grows. -/
structure Gm (w : World) (p gC gD : Nat) (nC cC nD cD most : Nat) (xs : List Value) (ys : List Value) : Prop where
  rec_ : Whole w p 83 [.slice (some ⟨gC, 0, none⟩) nC cC, .int .i64 (most : Int), .slice (some ⟨gD, 0, none⟩) nD cD]
  cel : w.ownsRow 0 5 1 (.slice (some ⟨gC, 0, none⟩) nC cC) nC xs
  dir : w.ownsRow 0 4 1 (.slice (some ⟨gD, 0, none⟩) nD cD) nD ys
theorem own_keepT {w w' : World} {T : List Nat} {B e g n cap : Nat} {xs : List Value} (h : w.ownsRow B e 1 (.slice (some ⟨g, 0, none⟩) n cap) n xs) (hc : Chg T w w') (hg : g ∉ T) : w'.ownsRow B e 1 (.slice (some ⟨g, 0, none⟩) n cap) n xs := by
  refine ⟨h.1, ?_⟩
  rcases h.2 with h' | ⟨g', cap', cur, h', hb, hgg, rest⟩
  · exact .inl h'
  · simp only [Value.slice.injEq, Option.some.injEq, Addr.mk.injEq, and_true, true_and] at h'
    obtain ⟨rfl, rfl⟩ := h'
    have hlt : g < w.heap.size := by
      rcases Nat.lt_or_ge g w.heap.size with hlt | hge
      · exact hlt
      · rw [Array.getElem?_eq_none hge] at hgg; cases hgg
    exact .inr ⟨g, cap, cur, rfl, hb, (hc.block g hlt hg).trans hgg, rest⟩
theorem mown_ne {w : World} {B B' e e' g g' n n' c c' : Nat} {xs ys : List Value} (h : w.ownsRow B e 1 (.slice (some ⟨g, 0, none⟩) n c) n xs) (h' : w.ownsRow B' e' 1 (.slice (some ⟨g', 0, none⟩) n' c') n' ys) (hne : e ≠ e') : g ≠ g' := by
  obtain ⟨X, _, hX, _⟩ := whole_of_own h
  obtain ⟨Y, _, hY, _⟩ := whole_of_own h'
  exact hX.ne_ hY hne
theorem own_rec_ne {w : World} {B e e' g p n c : Nat} {xs cs : List Value} (h : w.ownsRow B e 1 (.slice (some ⟨g, 0, none⟩) n c) n xs) (h' : Whole w p e' cs) (hne : e' ≠ e) : p ≠ g := by
  obtain ⟨X, _, hX, _⟩ := whole_of_own h
  exact h'.ne_ hX hne
section
variable {w w' : World} {p gC gD nC cC nD cD most : Nat} {xs ys : List Value}
theorem Gm.keep (h : Gm w p gC gD nC cC nD cD most xs ys) (hc : Chg [] w w') : Gm w' p gC gD nC cC nD cD most xs ys := ⟨h.rec_.keep hc, own_keep h.cel hc, own_keep h.dir hc⟩
/-- The bytes have grown, and the struct tells it. -/
theorem Gm.cells_set (h : Gm w p gC gD nC cC nD cD most xs ys) {g' n' c' : Nat} {zs : List Value} {w2 : World} (ho : w2.ownsRow 0 5 1 (.slice (some ⟨g', 0, none⟩) n' c') n' zs) (hg : w.grownBy w2 (some gC)) :
    Gm (w2.setCell ⟨p, 0, none⟩ (.slice (some ⟨g', 0, none⟩) n' c')) p g' gD n' c' nD cD most zs ys ∧ Whole w2 p 83 [.slice (some ⟨gC, 0, none⟩) nC cC, .int .i64 (most : Int), .slice (some ⟨gD, 0, none⟩) nD cD] ∧
      Chg [p, gC] w (w2.setCell ⟨p, 0, none⟩ (.slice (some ⟨g', 0, none⟩) n' c')) := by
  have d1 := own_rec_ne h.cel h.rec_ (by decide)
  have d2 := mown_ne h.cel h.dir (by decide)
  have hc : Chg [gC] w w2 := Chg.of_grown hg (fun g e _ => by simp only [Option.some.injEq] at e; simp [e])
  have hr := h.rec_.chg hc (by simpa using d1)
  have hd := own_keepT h.dir hc (by simpa using Ne.symm d2)
  have d3 := own_rec_ne ho hr (by decide)
  have d4 := own_rec_ne hd hr (by decide)
  have hs : Chg [p] w2 (w2.setCell ⟨p, 0, none⟩ (.slice (some ⟨g', 0, none⟩) n' c')) := (Chg.refl [p] w2).setCell (by simp) _
  refine ⟨⟨hr.set_ 0 _, own_keepT ho hs (by simpa using Ne.symm d3), own_keepT hd hs (by simpa using Ne.symm d4)⟩, hr, ?_⟩
  exact (hc.sub (T' := [p, gC]) (by simp)).setCell (by simp) _
theorem Gm.dirty_set (h : Gm w p gC gD nC cC nD cD most xs ys) {g' n' c' : Nat} {zs : List Value} {w2 : World} (ho : w2.ownsRow 0 4 1 (.slice (some ⟨g', 0, none⟩) n' c') n' zs) (hg : w.grownBy w2 (some gD)) :
    Gm (w2.setCell ⟨p, 2, none⟩ (.slice (some ⟨g', 0, none⟩) n' c')) p gC g' nC cC n' c' most xs zs ∧ Whole w2 p 83 [.slice (some ⟨gC, 0, none⟩) nC cC, .int .i64 (most : Int), .slice (some ⟨gD, 0, none⟩) nD cD] ∧
      Chg [p, gD] w (w2.setCell ⟨p, 2, none⟩ (.slice (some ⟨g', 0, none⟩) n' c')) := by
  have d1 := own_rec_ne h.dir h.rec_ (by decide)
  have d2 := mown_ne h.cel h.dir (by decide)
  have hc : Chg [gD] w w2 := Chg.of_grown hg (fun g e _ => by simp only [Option.some.injEq] at e; simp [e])
  have hr := h.rec_.chg hc (by simpa using d1)
  have hd := own_keepT h.cel hc (by simpa using d2)
  have d3 := own_rec_ne ho hr (by decide)
  have d4 := own_rec_ne hd hr (by decide)
  have hs : Chg [p] w2 (w2.setCell ⟨p, 2, none⟩ (.slice (some ⟨g', 0, none⟩) n' c')) := (Chg.refl [p] w2).setCell (by simp) _
  refine ⟨⟨hr.set_ 2 _, own_keepT hd hs (by simpa using Ne.symm d4), own_keepT ho hs (by simpa using Ne.symm d3)⟩, hr, ?_⟩
  exact (hc.sub (T' := [p, gD]) (by simp)).setCell (by simp) _
end
section
variable {w : World} {p gC gD : Nat} {L : List UInt8} {X : List Value} {V : List Bool} {Y : List Value} {most : Nat}
theorem Mm.gm (h : Mm w p gC gD L X V Y most) : Gm w p gC gD L.length (L.length + X.length) V.length (V.length + Y.length) most (bts L) (bls V) :=
  ⟨h.rec_, own_mm h.cel (bts_len L) h.capX, own_mm h.dir (bls_len V) h.capY⟩
theorem Gm.mm {nC cC nD cD : Nat} {xs ys : List Value} (h : Gm w p gC gD nC cC nD cD most xs ys) (hx : xs = bts L) (hy : ys = bls V) (h1 : L.length = 64 * V.length) (h2 : V.length ≤ most) (h3 : most ≤ 64) : ∃ X Y, Mm w p gC gD L X V Y most := by
  subst hx hy
  obtain ⟨X, eX, hX, mX, lX⟩ := whole_of_own h.cel
  obtain ⟨Y, eY, hY, mY, lY⟩ := whole_of_own h.dir
  rw [bts_len] at lX
  rw [bls_len] at lY
  subst lX lY eX eY
  exact ⟨X, Y, h.rec_, hX, hY, h1, h2, h3, mX, mY⟩
set_option maxHeartbeats 400000 in
theorem grow_no (h : Mm w p gC gD L X V Y most) (n : Int) (hn : n < 0 ∨ (most : Int) - V.length < n) :
    Calls Try.prog 108 #[.pointer (some ⟨p, 0, none⟩), .int .i64 n] w fun e w' => e = .returned (.int .i64 (-1)) ∧ w = w' := by
  have c1 := h.rec_.cell 1
  have b1 := h.le
  have b2 := h.top
  by_cases h0 : n < 0
  · have hd : decide (n < 0) = true := by simpa using h0
    clear hn
    go_enter Try.func108, Try.ntmps108
    go_wp2_with (go_at_call 107; refine (pages_any h).mono ?_; rintro e w' ⟨rfl, rfl⟩)
    go_ret
    exact ⟨rfl, rfl⟩
  · have hd : decide (n < 0) = false := by simpa using h0
    have hd2 : decide ((most : Int) - (V.length : Int) < n) = true := by simp; omega
    clear hn
    go_enter Try.func108, Try.ntmps108
    go_wp2_with (go_at_call 107; refine (pages_any h).mono ?_; rintro e w' ⟨rfl, rfl⟩)
    go_ret
    exact ⟨rfl, rfl⟩
def trs (k : Nat) : List Bool := List.replicate k true
/-- What Grow has done. -/
def GrowPost (w : World) (p gC gD : Nat) (L : List UInt8) (V : List Bool) (most k : Nat) (e : Ending) (w' : World) : Prop :=
  ∃ gC' gD' X' Y', e = .returned (.int .i64 (V.length : Int)) ∧ Mm w' p gC' gD' (L ++ zeros (64 * k)) X' (V ++ trs k) Y' most ∧ Chg [p, gC, gD] w w' ∧ (gC' = gC ∨ w.heap.size ≤ gC') ∧ (gD' = gD ∨ w.heap.size ≤ gD')
theorem trs_len (k : Nat) : (trs k).length = k := by simp [trs]
theorem trs_next (j : Nat) : bls (trs j) ++ [Value.bool true] = bls (trs (j + 1)) := by
  unfold trs bls; rw [List.map_replicate, List.map_replicate, List.replicate_succ', ]
theorem own_some {w : World} {B e n : Nat} {v : Value} {xs : List Value} (h : w.ownsRow B e 1 v (n + 1) xs) : ∃ g c, v = .slice (some ⟨g, 0, none⟩) (n + 1) c := by
  rcases h.2 with ⟨_, h'⟩ | ⟨g, c, _, h', _⟩
  · omega
  · exact ⟨g, c, h'⟩
theorem tn_int64 : Try.prog.underlying 2 = some (.int .i64) := by kernel_rfl
set_option maxHeartbeats 2000000 in
set_option maxRecDepth 100000 in
theorem grow_yes (h : Mm w p gC gD L X V Y most) (k : Nat) (hk : V.length + k ≤ most) :
    Calls Try.prog 108 #[.pointer (some ⟨p, 0, none⟩), .int .i64 (k : Int)] w (GrowPost w p gC gD L V most k) := by
  obtain ⟨i, hi, hz, hs1, hb⟩ := info_parts info_u8
  obtain ⟨i2, hi2, hz2, hs2, hb2⟩ := info_parts info_bool
  have c0 := h.rec_.cell 0
  have c1 := h.rec_.cell 1
  have b1 := h.small
  have b2 := h.smallV
  have b3 := h.top
  have hlen := h.len
  have hd2 : decide ((most : Int) - (V.length : Int) < (k : Int)) = false := by simp; omega
  obtain ⟨g', cap', w2, hr, ho2, hg2, hor⟩ := run_append_zeros (P := Try.prog) w 0 51 2 51 5 i _ 1 .i64 Try.underlying51 tn_int64 hi hz hs1 hb rfl rfl gC L.length (L.length + X.length) (bts L) h.gm.cel (k * 64) (by unfold maxLen; omega) (by omega) (Nat.zero_le _)
  obtain ⟨hG, hR2, hC2⟩ := h.gm.cells_set ho2 hg2
  have c2 := hR2.cell 0
  have f2 := hR2.frozen 0
  have ek : ((k * 64 : Nat) : Int) = (k : Int) * 64 := by omega
  rw [ek] at hr
  have HG := Lib.hid hG
  have HC := Lib.hid hC2
  have HR := Lib.hid hr
  have HL := Lib.hid hlen
  have HH := Lib.hid h
  have HO := Lib.hid hor
  clear hG hC2 hr ho2 hg2 hR2 hlen ek hor
  go_enter Try.func108, Try.ntmps108
  go_wp2_with (first
    | (go_at_call 107; refine (pages_any HH.out).mono ?_; rintro e w' ⟨rfl, rfl⟩)
    | (at_builtin; refine Lib.wpList_append_run w rfl (.tmp 24) (.tmp 26) 51 2 rfl _ _ rfl rfl _ _ HR.out ?_))
  go_loopw [31] (fun i wr => ∃ j : Nat, j ≤ k ∧ i = .int .i64 (j : Int) ∧ (∃ gD' n' c', n' = V.length + j ∧ Gm wr p g' gD' (L.length + k * 64) cap' n' c' most (bts L ++ List.replicate (k * 64) (.int .u8 0)) (bls V ++ bls (trs j)) ∧ (gD' = gD ∨ w.heap.size ≤ gD')) ∧ Chg [p, gC, gD] w wr) (fun i _ => k - (intOf i).toNat)
  case atStart => exact ⟨0, by omega, rfl, ⟨gD, _, _, rfl, by simpa [trs, bls] using HG.out, .inl rfl⟩, HC.out.sub (by simp)⟩
  case round =>
    obtain ⟨j, hj, rfl, ⟨gE, n', c', hn', hGm, hgE⟩, hCr⟩ := hrel
    have hn1 : n' ≤ V.length + j := by omega
    have HN := Lib.hid hn'
    have HGm := Lib.hid hGm
    have HCr := Lib.hid hCr
    have HE := Lib.hid hgE
    clear c0 c1 c2 f2 hn' hgE
    by_cases hlt : j < k
    · have c2 := hGm.rec_.cell 2
      have hGa := hGm.keep ((Chg.refl [] wr).alloc (.cells #[.bool true] 4))
      have HA := Lib.hid hGa
      have hs2' : Src (wr.alloc (.cells #[.bool true] 4)) (some ⟨wr.heap.size, 0, none⟩) [.bool true] := Src.of_all (Whole.new wr 4 [.bool true])
      have h1 : ∀ u ∈ [Value.bool true], u.oneCell' = true := by simp [Value.oneCell']
      have x1 := Lib.hid (show n' + 1 ≤ maxLen by unfold maxLen; omega)
      have x2 := Lib.hid (show (n' + 1) * 1 ≤ 140737488355328 by omega)
      have HX := Lib.hid hs2'
      clear hCr hGm hGa hs2'
      go_wp2_with (at_builtin
                   refine wpList_append_src rfl (.tmp 37) (.tmp 38) 81 rfl 0 4 i2 _ 1 Try.underlying81 hi2 hz2 hs2 hb2 rfl (.slice (some ⟨gE, 0, none⟩) n' c') n' (bls V ++ bls (trs j)) rfl HA.out.dir (some ⟨wr.heap.size, 0, none⟩) 1 1 [.bool true] rfl rfl HX.out h1 x1.out x2.out (Nat.zero_le _) ?_
                   intro v4 w4 ho4 hg4 hv4
                   obtain ⟨g4, c4, rfl⟩ := own_some ho4
                   obtain ⟨hG4, hR4, hC4⟩ := HA.out.dirty_set ho4 hg4
                   have HG4 := Lib.hid hG4
                   have HC4 := Lib.hid hC4
                   have HV4 := Lib.hid hv4
                   have c24 := hR4.cell 2
                   have f24 := hR4.frozen 2
                   clear hG4 hR4 hC4 ho4 hg4 hv4)
      go_roundw
      case rel =>
        have hsz := HCr.out.size
        refine ⟨j + 1, by omega, by go_num, ⟨g4, n' + 1, c4, by rw [HN.out]; omega, ?_, ?_⟩, ?_⟩
        · have := HG4.out
          rwa [List.append_assoc, trs_next] at this
        · have hv := HV4.out
          simp only [Value.ownBlock, Option.some.injEq, World.size_alloc] at hv
          rcases hv with hv | hv
          · rw [hv]; exact HE.out
          · right; omega
        · refine (HCr.out.alloc _).then_ HC4.out fun q hq hlt => ?_
          simp only [List.mem_cons, List.not_mem_nil, or_false] at hq ⊢
          rcases hq with rfl | rfl
          · exact .inl rfl
          · rcases HE.out with rfl | hE
            · exact .inr (.inr rfl)
            · omega
      case measure => simp [intOf] <;> omega
    · obtain rfl : j = k := by omega
      go_wp2_with fail
      go_ret
      have hn := HN.out
      have hO := HO.out
      have hL := HL.out
      obtain ⟨X', Y', hM⟩ := HGm.out.mm (L := L ++ zeros (64 * j)) (V := V ++ trs j) (by simp [bts, zeros, B8, Nat.mul_comm]) (by simp [bls]) (by rw [List.length_append, List.length_append, zeros_len, trs_len]; omega) (by rw [List.length_append, trs_len]; omega) b3
      exact ⟨g', gE, X', Y', rfl, hM, HCr.out, by omega, HE.out⟩
end
end Go.Proofs.Ytnohfdojcdhfoaa
namespace Go.Proofs.Ytnohfdojcdhfoaa
open Go.RowKit
section
variable {w w' : World} {p gC gD : Nat} {L : List UInt8} {X : List Value} {V : List Bool} {Y : List Value} {most : Nat}
theorem store_step (h : Mm w p gC gD L X V Y most) (k i : Nat) (n : Int) (b : UInt8) (hb : b = byteN n i) (hk : k + i < L.length) :
    Mm ((w.setCell ⟨gC, k + i, none⟩ (B8 b)).setCell ⟨gD, (k + i) / 64, none⟩ (.bool true)) p gC gD (L.set (k + i) (byteN n i)) X (V.set ((k + i) / 64) true) Y most ∧
      Chg [gC, gD] w ((w.setCell ⟨gC, k + i, none⟩ (B8 b)).setCell ⟨gD, (k + i) / 64, none⟩ (.bool true)) := by
  subst hb
  have d0 := h.rec_.ne_ h.cel (by decide)
  have d1 := h.rec_.ne_ h.dir (by decide)
  have d2 := h.cel.ne_ h.dir (by decide)
  have hl := h.len
  have hc := h.cel.set_ (k + i) (B8 (byteN n i))
  rw [List.set_append_left _ _ (by rw [bts_len]; exact hk), bts_set] at hc
  have hd := (h.dir.far (p := ⟨gC, k + i, none⟩) (Ne.symm d2) (B8 (byteN n i))).set_ ((k + i) / 64) (.bool true)
  rw [List.set_append_left _ _ (by rw [bls_len]; omega), bls_set] at hd
  refine ⟨⟨?_, hc.far d2 _, hd, by rw [List.length_set, List.length_set]; exact h.len, by rw [List.length_set]; exact h.le, h.top, by rw [List.length_set]; exact h.capX, by rw [List.length_set]; exact h.capY⟩, ?_⟩
  · rw [List.length_set, List.length_set]
    exact (h.rec_.far d0 _).far d1 _
  · exact ((Chg.refl [gC, gD] w).setCell (by simp) _).setCell (by simp) _
theorem stL_next (L : List UInt8) (k : Nat) (n : Int) (m : Nat) : stL L k n (m + 1) = (stL L k n m).set (k + m) (byteN n m) := rfl
theorem stV_next (V : List Bool) (k m : Nat) : stV V k (m + 1) = (stV V k m).set ((k + m) / 64) true := rfl
set_option maxHeartbeats 400000 in
theorem store_no (h : Mm w p gC gD L X V Y most) (k n : Int) (wide : Bool) (s : Nat) (hw : s = if wide then 8 else 1) (hk : k < 0 ∨ (L.length : Int) - s < k) :
    Calls Try.prog 44 #[.pointer (some ⟨p, 0, none⟩), .int .i64 k, .int .i64 n, .bool wide] w fun e w' => e = .returned (.bool false) ∧ w = w' := by
  have s1 : s ≤ 8 := by subst hw; split <;> omega
  have HW := Lib.hid (show (if wide then (8 : Int) else 1) = (s : Int) by subst hw; cases wide <;> rfl)
  have HK := Lib.hid hk
  clear hw hk
  go_enter Try.func44, Try.ntmps44
  go_wp2_with (first
    | (go_at_call 64; refine (width_any wide).mono ?_; rintro e w' ⟨rfl, rfl⟩; rw [HW.out])
    | (go_at_call 65; refine (within_no h k s s1 HK.out).mono ?_; rintro e w' ⟨rfl, rfl⟩))
  go_ret
  exact ⟨rfl, rfl⟩
/-- Store's post. -/
def StorePost (w : World) (p gC gD : Nat) (L : List UInt8) (X : List Value) (V : List Bool) (Y : List Value) (most k : Nat) (n : Int) (s : Nat) (e : Ending) (w' : World) : Prop :=
  e = .returned (.bool true) ∧ Mm w' p gC gD (stL L k n s) X (stV V k s) Y most ∧ Chg [gC, gD] w w'
set_option maxHeartbeats 2000000 in
set_option maxRecDepth 100000 in
theorem store_yes (h : Mm w p gC gD L X V Y most) (k : Nat) (n : Int) (wide : Bool) (s : Nat) (hw : s = if wide then 8 else 1) (hk : k + s ≤ L.length) :
    Calls Try.prog 44 #[.pointer (some ⟨p, 0, none⟩), .int .i64 (k : Int), .int .i64 n, .bool wide] w (StorePost w p gC gD L X V Y most k n s) := by
  have b1 := h.small
  have hlen := h.len
  have s1 : s ≤ 8 := by subst hw; split <;> omega
  have HW := Lib.hid (show (if wide then (8 : Int) else 1) = (s : Int) by subst hw; cases wide <;> rfl)
  have HL := Lib.hid hlen
  clear hw hlen
  go_enter Try.func44, Try.ntmps44
  go_wp2_with (first
    | (go_at_call 64; refine (width_any wide).mono ?_; rintro e w' ⟨rfl, rfl⟩; rw [HW.out])
    | (go_at_call 65; refine (within_yes h k s s1 hk).mono ?_; rintro e w' ⟨rfl, rfl⟩))
  go_loopw [19] (fun i wr => ∃ m : Nat, m ≤ s ∧ i = .int .i64 (m : Int) ∧ Mm wr p gC gD (stL L k n m) X (stV V k m) Y most ∧ Chg [gC, gD] w wr) (fun i _ => s - (intOf i).toNat)
  case atStart => exact ⟨0, by omega, rfl, h, Chg.refl _ _⟩
  case round =>
    obtain ⟨m, hm, rfl, hM, hC⟩ := hrel
    by_cases hlt : m < s
    · have hki : k + m < (stL L k n m).length := by rw [stL_len]; omega
      have hst := store_step hM k m n (byteN n m) rfl hki
      have hl1 : (stL L k n m).length = L.length := stL_len _ _ _ _
      have hl2 : (stV V k m).length = V.length := stV_len _ _ _
      have c0 := hM.rec_.cell 0
      have c2 := hM.rec_.cell 2
      have cb := hM.byte (k + m) hki
      have hx64 : (k + m) / 64 < (stV V k m).length := by rw [hl2]; have := HL.out; omega
      have cd := hM.bit ((k + m) / 64) hx64
      have fc := hM.cel.frozen (k + m)
      have fd := hM.dir.frozen ((k + m) / 64)
      have dcd := hM.cel.ne_ hM.dir (by decide)
      have dpc := hM.rec_.ne_ hM.cel (by decide)
      have hby := Lib.hid (byteN_int n m)
      rw [hl1] at c0 c2
      rw [hl2] at c0 c2
      have HC := Lib.hid hC
      have HST := Lib.hid hst
      have HM := Lib.hid hM
      have e1 : IntKind.i64.wrap ((k : Int) + (m : Int)) = (k : Int) + (m : Int) := IntWalk.i64_in _ (by omega)
      have e2 : ((k : Int) + (m : Int)).toNat = k + m := by omega
      have e3 : (0 : Int) ≤ (k : Int) + (m : Int) := by omega
      have e4 : IntKind.i64.wrap (8 * (m : Int)) = 8 * (m : Int) := IntWalk.i64_in _ (by omega)
      have e5 : (8 * (m : Int)).toNat = 8 * m := by omega
      have e6 : (0 : Int) ≤ 8 * (m : Int) := by omega
      have e7 : min (8 * m) 64 = 8 * m := by omega
      have e8 : k + m < L.length := by omega
      have e9 : (k + m) / 64 < V.length := by have := HL.out; omega
      clear hl1 hl2 hC hst hM
      go_wp2_with fail
      go_still_tail 12, (by kernel_rfl)
      change wpList _ _ _ _ _ wr.drew
      go_wp2_with fail
      · go_roundw
        case rel =>
          have hq := HST.out
          unfold B8 at hq
          rw [hby.out] at hq
          exact ⟨m + 1, by omega, by go_num, hq.1.keep (Chg.refl [] _).drew, (HC.out.trans hq.2).drew⟩
        case measure => simp [intOf] <;> omega
    · obtain rfl : m = s := by omega
      go_wp2_with fail
      go_ret
      exact ⟨rfl, hM, hC⟩
end
end Go.Proofs.Ytnohfdojcdhfoaa
namespace Go.Proofs.Ytnohfdojcdhfoaa
open Go.RowKit
def clC (c : CallV) : List Value := [.int .i64 (c.fn : Int), .int .i64 (c.next : Int)] ++ nms c.loc
def clCs : List CallV → List Value
  | [] => []
  | x :: l => clC x ++ clCs l
def Loc26 (cs : List CallV) : Prop := ∀ c ∈ cs, c.loc.length = 26
theorem clC_len {c : CallV} (h : c.loc.length = 26) : (clC c).length = 28 := by simp [clC, nms_len, h]
theorem Loc26.head {c : CallV} {cs : List CallV} (h : Loc26 (c :: cs)) : c.loc.length = 26 := h c (by simp)
theorem Loc26.tail {c : CallV} {cs : List CallV} (h : Loc26 (c :: cs)) : Loc26 cs := fun x hx => h x (by simp [hx])
theorem Loc26.app {cs : List CallV} {c : CallV} : Loc26 (cs ++ [c]) ↔ Loc26 cs ∧ c.loc.length = 26 :=
  ⟨fun h => ⟨fun x hx => h x (by simp [hx]), h c (by simp)⟩, fun h x hx => by
    rcases List.mem_append.1 hx with hx | hx
    · exact h.1 x hx
    · rw [List.mem_singleton] at hx; subst hx; exact h.2⟩
theorem clCs_len : ∀ {l : List CallV}, Loc26 l → (clCs l).length = l.length * 28
  | [], _ => rfl
  | x :: l, h => by rw [clCs, List.length_append, clCs_len h.tail, clC_len h.head, List.length_cons]; omega
theorem clCs_app : ∀ l m, clCs (l ++ m) = clCs l ++ clCs m
  | [], _ => rfl
  | x :: l, m => by rw [List.cons_append, clCs, clCs, clCs_app l m, List.append_assoc]
theorem clCs_one (x : CallV) : clCs [x] = clC x := by simp [clCs]
theorem clCs_last {ys : List CallV} {x : CallV} (h : Loc26 (ys ++ [x])) (j : Nat) : (clCs (ys ++ [x]))[ys.length * 28 + j]? = (clC x)[j]? := by
  rw [clCs_app, clCs_one, List.getElem?_append_right (by rw [clCs_len (Loc26.app.1 h).1]; omega), clCs_len (Loc26.app.1 h).1]
  congr 1; omega
theorem clCs_set {ys : List CallV} {x y : CallV} (h : Loc26 (ys ++ [x])) (j : Nat) (u : Value) (hu : (clC x).set j u = clC y) : (clCs (ys ++ [x])).set (ys.length * 28 + j) u = clCs (ys ++ [y]) := by
  rw [clCs_app, clCs_one, List.set_append_right _ _ (by rw [clCs_len (Loc26.app.1 h).1]; omega), clCs_len (Loc26.app.1 h).1, show ys.length * 28 + j - ys.length * 28 = j by omega, hu, clCs_app, clCs_one]
/-- A code in memory: how many args, where its tokens lie, where one goes. -/
structure CdV where
  c : CodeV
  tv : Value
  gv : Value
def cdC (x : CdV) : List Value := [.int .i64 (x.c.args : Int), x.tv, x.gv]
def cdCs : List CdV → List Value
  | [] => []
  | x :: l => cdC x ++ cdCs l
theorem cdCs_len : ∀ l, (cdCs l).length = l.length * 3
  | [] => rfl
  | x :: l => by rw [cdCs, List.length_append, cdCs_len l]; simp [cdC]; omega
theorem cdCs_app : ∀ l m, cdCs (l ++ m) = cdCs l ++ cdCs m
  | [], _ => rfl
  | x :: l, m => by rw [List.cons_append, cdCs, cdCs, cdCs_app l m, List.append_assoc]
theorem cdCs_one (x : CdV) : cdCs [x] = cdC x := by simp [cdCs]
theorem cdCs_get : ∀ (l : List CdV) (k : Nat) (x : CdV) (j : Nat), l[k]? = some x → j < 3 → (cdCs l)[k * 3 + j]? = (cdC x)[j]?
  | [], k, x, j, h, hj => by simp at h
  | y :: l, 0, x, j, h, hj => by
    simp at h; subst h
    rw [cdCs, List.getElem?_append_left (by simp [cdC]; omega)]
    congr 1; omega
  | y :: l, k + 1, x, j, h, hj => by
    simp at h
    rw [cdCs, List.getElem?_append_right (by simp [cdC]; omega)]
    rw [← cdCs_get l k x j h hj]
    congr 1; simp [cdC]; omega
structure Cods (W : World) (v : Value) (xs : List CdV) : Prop where
  own : W.ownsRow 0 113 3 v xs.length (cdCs xs)
  toks : ∀ x ∈ xs, W.ownsRow 0 121 3 x.tv x.c.ts.length (tkCs x.c.ts)
  gos : ∀ x ∈ xs, W.ownsRow 0 3 1 x.gv x.c.go.length (nms x.c.go)
  few : ∀ x ∈ xs, x.c.ts.length ≤ 512 ∧ x.c.go.length = x.c.ts.length
  lenb : xs.length ≤ 32
theorem Cods.keep {W W' : World} {v : Value} {xs : List CdV} (h : Cods W v xs) (hc : Chg [] W W') : Cods W' v xs :=
  ⟨rown_keep h.own hc, fun x hx => rown_keep (h.toks x hx) hc, fun x hx => rown_keep (h.gos x hx) hc, h.few, h.lenb⟩
theorem Cods.fe {W W' : World} {v : Value} {xs : List CdV} {K : Nat → Prop} {TS : List TypeId} (h : Cods W v xs) (hf : Fe K TS W W') (h1 : 113 ∉ TS) (h2 : 121 ∉ TS) (h3 : 3 ∉ TS) : Cods W' v xs :=
  ⟨hf.own h.own h1, fun x hx => hf.own (h.toks x hx) h2, fun x hx => hf.own (h.gos x hx) h3, h.few, h.lenb⟩
/-- What stays through a run. -/
structure EP where
  g : Nat
  us : List FnV
  pages : Int
  mst : Int
  A : Option Addr
  n : Nat
  c : Nat
  cv : Value
  xs : List CdV
  p : Nat
  most : Nat
  rp : Nat
  rs : List (Option Int)
  B : Nat
  T : List Nat
def EP.K (P : EP) : Nat → Prop := fun k => P.B ≤ k ∨ k ∈ P.T
abbrev egT : List TypeId := [89, 2, 117, 83, 5, 4, 77, 39]
/-- The work struct. -/
def wkC (P : EP) (fuel : Nat) (vs vc : Value) : List Value := [.int .i64 P.pages, .int .i64 P.mst, .slice P.A P.n P.c, P.cv, .pointer (some ⟨P.p, 0, none⟩), .pointer (some ⟨P.rp, 0, none⟩), .int .i64 (fuel : Int), vs, vc]
structure Eg (P : EP) (W : World) (vs vc : Value) (s : EgV) : Prop where
  rec_ : Whole W P.g 89 (wkC P s.fuel vs vc)
  stk : W.ownsRow P.B 2 1 vs s.st.length (nms s.st)
  cal : W.ownsRow P.B 117 28 vc s.cs.length (clCs s.cs)
  mem : ∃ gC gD X Y, Mm W P.p gC gD s.L X s.V Y P.most ∧ P.K gC ∧ P.K gD
  row : ∃ a q, Rq W P.rp P.rs s.qs a q ∧ ∀ i, q.ownBlock = some i → P.K i
  cod : Cods W P.cv P.xs
  fns : Fnr W P.A P.n P.c P.us
  foff : ∀ ad, P.A = some ad → ¬ P.K ad.block
  gB : P.B ≤ P.g
  room : P.B ≤ W.heap.size
  pK : P.K P.p
  rK : P.K P.rp
  loc : Loc26 s.cs
  fuelb : s.fuel ≤ 1048576
  stkb : s.st.length + s.fuel ≤ 3000000
  calb : s.cs.length ≤ 32
  qsb : s.qs.length + s.fuel ≤ 900000000
theorem EP.new (P : EP) {k : Nat} (h : P.B ≤ k) : P.K k := .inl h
theorem Src.fe {K : Nat → Prop} {TS : List TypeId} {W W' : World} {A : Option Addr} {xs : List Value} (h : Src W A xs) (hf : Fe K TS W W') (hA : ∀ ad, A = some ad → ¬ K ad.block) : Src W' A xs := by
  intro h0
  obtain ⟨ad, rfl, hlt, hx⟩ := h h0
  have hb := hf.block ad.block hlt (.inl (hA ad rfl))
  refine ⟨ad, rfl, Nat.lt_of_lt_of_le hlt hf.size, fun j u hj => ?_⟩
  have := hx j u hj
  rw [← this]
  have e2 : (ad.add j).block = ad.block := by unfold Addr.add; split <;> rfl
  refine World.cell?_of_block (w := W) ?_
  rw [e2]
  exact hb
section
variable {P : EP} {W W' : World} {vs vc : Value} {s : EgV}
theorem Eg.keep (h : Eg P W vs vc s) (hc : Chg [] W W') : Eg P W' vs vc s := by
  obtain ⟨gC, gD, X, Y, hM, h1, h2⟩ := h.mem
  obtain ⟨a, q, hR, h3⟩ := h.row
  exact { h with rec_ := h.rec_.keep hc, stk := rown_keep h.stk hc, cal := rown_keep h.cal hc, mem := ⟨gC, gD, X, Y, hM.keep hc, h1, h2⟩, row := ⟨a, q, hR.keep hc, h3⟩, cod := h.cod.keep hc, fns := h.fns.keep hc, room := Nat.le_trans h.room hc.size }
theorem Eg.kg (h : Eg P W vs vc s) : P.K P.g := .inl h.gB
theorem Fnr.fe {K : Nat → Prop} {TS : List TypeId} {A : Option Addr} {n c : Nat} {l : List FnV} (h : Fnr W A n c l) (hf : Fe K TS W W') (hA : ∀ ad, A = some ad → ¬ K ad.block) : Fnr W' A n c l := { h with src := h.src.fe hf hA }
theorem Eg.sslice (h : Eg P W vs vc s) : ∃ A n c, vs = .slice A n c ∧ n = s.st.length ∧ n ≤ c := by
  obtain ⟨A, c, e, hc, _⟩ := rown_slice h.stk
  exact ⟨A, _, c, e, rfl, hc⟩
theorem Eg.cslice (h : Eg P W vs vc s) : ∃ A n c, vc = .slice A n c ∧ n = s.cs.length ∧ n ≤ c := by
  obtain ⟨A, c, e, hc, _⟩ := rown_slice h.cal
  exact ⟨A, _, c, e, rfl, hc⟩
/-- The struct, the stack or the calls are written: all else stays. -/
theorem Eg.upd {vs' vc' : Value} {fuel : Nat} {st : List Int} {cs : List CallV} {TS : List TypeId} (h : Eg P W vs vc s) (hf : Fe P.K TS W W') (hT : ∀ t ∈ TS, t = 89 ∨ t = 2 ∨ t = 117)
    (h1 : Whole W' P.g 89 (wkC P fuel vs' vc')) (h2 : W'.ownsRow P.B 2 1 vs' st.length (nms st)) (h3 : W'.ownsRow P.B 117 28 vc' cs.length (clCs cs)) (h4 : Loc26 cs) (h5 : fuel ≤ s.fuel) (h6 : st.length + fuel ≤ 3000000) (h7 : cs.length ≤ 32) :
    Eg P W' vs' vc' ⟨fuel, st, cs, s.L, s.V, s.qs⟩ := by
  obtain ⟨gC, gD, X, Y, hM, k1, k2⟩ := h.mem
  obtain ⟨a, q, hR, k3⟩ := h.row
  have no : ∀ t : TypeId, t ≠ 89 → t ≠ 2 → t ≠ 117 → t ∉ TS := fun t a b c hm => by
    rcases hT t hm with h | h | h
    · exact a h
    · exact b h
    · exact c h
  exact { rec_ := h1, stk := h2, cal := h3, mem := ⟨gC, gD, X, Y, hf.mm hM (no _ (by decide) (by decide) (by decide)) (no _ (by decide) (by decide) (by decide)) (no _ (by decide) (by decide) (by decide)), k1, k2⟩,
          row := ⟨a, q, hR.fe hf (no _ (by decide) (by decide) (by decide)) (no _ (by decide) (by decide) (by decide)) (no _ (by decide) (by decide) (by decide)), k3⟩,
          cod := h.cod.fe hf (no _ (by decide) (by decide) (by decide)) (no _ (by decide) (by decide) (by decide)) (no _ (by decide) (by decide) (by decide)),
          fns := h.fns.fe hf h.foff, foff := h.foff, gB := h.gB, room := Nat.le_trans h.room hf.size, pK := h.pK, rK := h.rK, loc := h4, fuelb := by have := h.fuelb; show fuel ≤ _; omega, stkb := h6, calb := h7, qsb := by have := h.qsb; show s.qs.length + fuel ≤ _; omega }
end
end Go.Proofs.Ytnohfdojcdhfoaa
namespace Go.Proofs.Ytnohfdojcdhfoaa
open Go.RowKit
abbrev eg3 : List TypeId := [89, 2, 117]
theorem eg3_sub : ∀ t : TypeId, t ∈ eg3 → t ∈ egT := by intro t h; simp only [List.mem_cons, List.not_mem_nil, or_false] at h ⊢; rcases h with h | h | h <;> subst h <;> simp
theorem eg3_is : ∀ t : TypeId, t ∈ eg3 → t = 89 ∨ t = 2 ∨ t = 117 := by intro t h; simpa using h
theorem rown_lay' {W : World} {B n k g j : Nat} {e t : TypeId} {v u : Value} {xs cs : List Value} (h : W.ownsRow B e k v n xs) (hp : Whole W g t cs) (hne : e ≠ t) : (W.setCell ⟨g, j, none⟩ u).ownsRow B e k v n xs := rown_lay h hp hne
def EgPost (P : EP) (W : World) (s' : EgV) (r : Value) (e : Ending) (w' : World) : Prop := e = .returned r ∧ (∃ vs' vc', Eg P w' vs' vc' s') ∧ Fe P.K egT W w'
section
variable {P : EP} {W W' : World} {vs vc : Value} {s : EgV}
theorem Eg.kstk (h : Eg P W vs vc s) : ∀ i, vs.ownBlock = some i → P.K i := fun i hi => .inl (h.stk.lt i hi).1
theorem Eg.kcal (h : Eg P W vs vc s) : ∀ i, vc.ownBlock = some i → P.K i := fun i hi => .inl (h.cal.lt i hi).1
theorem Eg.pushed (h : Eg P W vs vc s) {W2 w3 : World} (hc : Chg [] W W2) {x : Int} {v' : Value} {n1 : Nat} (hn1 : n1 = s.st.length + 1) (hroom : s.st.length + s.fuel ≤ 2999999)
    (ho : w3.ownsRow P.B 2 1 v' n1 (nms s.st ++ [.int .i64 x])) (hg : W2.grownBy w3 vs.ownBlock) :
    Eg P (w3.setCell ⟨P.g, 7, none⟩ v') v' vc (s.push x) ∧ Fe P.K egT W (w3.setCell ⟨P.g, 7, none⟩ v') := by
  subst hn1
  have h2 := h.keep hc
  have hr3 := whole_grown h2.rec_ h2.stk (by decide) hg
  have hc3 := rown_grown h2.cal h2.stk (by decide) hg
  have hf : Fe P.K eg3 W (w3.setCell ⟨P.g, 7, none⟩ v') := ((Fe.of_chg hc).grown h2.stk h2.kstk (by simp [eg3]) hg).setw hr3 h.kg (by simp [eg3]) _
  refine ⟨h.upd hf eg3_is (hr3.set_ 7 v') ?_ (rown_lay hc3 hr3 (by decide)) h.loc (Nat.le_refl _) (by rw [List.length_append, List.length_singleton]; omega) h.calb, hf.sub eg3_sub⟩
  have := rown_lay (j := 7) (u := v') ho hr3 (by decide)
  rw [List.length_append, List.length_singleton, nms_app]
  exact this
theorem Eg.popped (h : Eg P W vs vc s) {A : Option Addr} {n c : Nat} (hv : vs = .slice A (n + 1) c) {W2 : World} (hc : Chg [] W W2) {st : List Int} {x : Int} (hst : s.st = st ++ [x]) :
    Eg P (W2.setCell ⟨P.g, 7, none⟩ (.slice A n c)) (.slice A n c) vc ⟨s.fuel, st, s.cs, s.L, s.V, s.qs⟩ ∧ Fe P.K egT W (W2.setCell ⟨P.g, 7, none⟩ (.slice A n c)) := by
  subst hv
  have h2 := h.keep hc
  have hl : s.st.length = st.length + 1 := by rw [hst]; simp
  have hq : n + 1 = s.st.length := by
    rcases h.stk.2 with ⟨e, e2⟩ | ⟨_, _, _, e, _⟩
    · injection e with _ e _; omega
    · injection e
  have hA : A ≠ none := by
    rintro rfl
    rcases h.stk.2 with ⟨e, _⟩ | ⟨_, _, _, e, _⟩
    · injection e with _ e _; simp at e
    · injection e with e _; cases e
  have ho := h2.stk
  rw [← hq] at ho
  have ht := rown_take (q' := n) ho (by omega) hA
  have e2 : (nms s.st).take (n * 1) = nms st := by rw [hst, nms_app, List.take_left' (by rw [nms_len]; omega)]
  rw [e2] at ht
  have hf : Fe P.K eg3 W (W2.setCell ⟨P.g, 7, none⟩ (.slice A n c)) := (Fe.of_chg hc).setw h2.rec_ h.kg (by simp [eg3]) _
  refine ⟨h.upd hf eg3_is (h2.rec_.set_ 7 _) ?_ (rown_lay h2.cal h2.rec_ (by decide)) h.loc (Nat.le_refl _) (by have := h.stkb; omega) h.calb, hf.sub eg3_sub⟩
  have := rown_lay (j := 7) (u := .slice A n c) ht h2.rec_ (by decide)
  rw [show st.length = n from by omega]
  exact this
/-- The stack's last cell. -/
theorem Eg.top (h : Eg P W vs vc s) {st : List Int} {x : Int} (hst : s.st = st ++ [x]) : ∃ g c, vs = .slice (some ⟨g, 0, none⟩) (st.length + 1) c ∧ st.length + 1 ≤ c ∧ W.cell? ⟨g, st.length, none⟩ = some (.int .i64 x) := by
  have hl : s.st.length = st.length + 1 := by rw [hst]; simp
  obtain ⟨A, n, c, rfl, hn, hc⟩ := h.sslice
  obtain ⟨g, rfl, hx⟩ := rown_cell (j := st.length) (u := .int .i64 x) h.stk (by rw [hn]) (by rw [hst, nms_app, List.getElem?_append_right (by rw [nms_len]; exact Nat.le_refl _), nms_len, Nat.sub_self]; rfl)
  exact ⟨g, c, by rw [hn, hl], by omega, hx⟩
theorem pop_some {x : Int} {s' : EgV} (h : s.pop = some (x, s')) : ∃ st, s.st = st ++ [x] ∧ s' = ⟨s.fuel, st, s.cs, s.L, s.V, s.qs⟩ := by
  unfold EgV.pop at h
  split at h
  · cases h
  · rename_i y hy
    injection h with h
    injection h with h1 h2
    subst h1
    refine ⟨s.st.dropLast, ?_, h2.symm⟩
    rcases List.eq_nil_or_concat s.st with e | ⟨l, z, e⟩
    · rw [e] at hy; simp at hy
    · rw [List.concat_eq_append] at e
      rw [e] at hy ⊢
      simp at hy
      subst hy
      simp
set_option maxHeartbeats 4000000 in
set_option maxRecDepth 100000 in
theorem push_any (h : Eg P W vs vc s) (x : Int) (hroom : s.st.length + s.fuel ≤ 2999999) : Calls Try.prog 85 #[.pointer (some ⟨P.g, 0, none⟩), .int .i64 x] W (EgPost P W (s.push x) (.tuple #[])) := by
  obtain ⟨i0, hi0, hz0, hz1, hz2⟩ := info_parts info_i64
  obtain ⟨A, n, c, rfl, hn, hc⟩ := h.sslice
  have H := Lib.hid h
  have HN := Lib.hid hn
  have k7 : W.cell? ⟨P.g, 7, none⟩ = some (.slice A n c) := h.rec_.cell 7
  have hal : Chg [] W (W.alloc (.cells #[.int .i64 x] 2)) := (Chg.refl [] W).alloc _
  have HAL := Lib.hid hal
  have HOW := Lib.hid (show (W.alloc (.cells #[.int .i64 x] 2)).ownsRow P.B 2 1 (.slice A n c) n (nms s.st) from by have := rown_keep h.stk hal; rw [← hn] at this; exact this)
  have HB := Lib.hid (show P.B ≤ (W.alloc (.cells #[.int .i64 x] 2)).heap.size from Nat.le_trans h.room hal.size)
  have hn9 : n ≤ 3000000 := by omega
  generalize hPg : P.g = g at k7 ⊢
  have HPG := Lib.hid hPg
  clear h hn hal hPg
  go_enter Try.func85, Try.ntmps85
  go_wp2_with (at_builtin
               refine wpList_append_own _ rfl (.tmp 8) (.tmp 10) _ rfl P.B 2 i0 _ 1 8 Try.underlying22 hi0 hz0 hz1 hz2 rfl (by decide) (.slice A n c) n (nms s.st) rfl HOW.out ⟨W.heap.size, 0, none⟩ 1 1 [.int .i64 x] rfl rfl (cells_new _ _ _) (by simp [Value.oneCell']) (by simp only [maxLen]; omega) (by omega) HB.out ?_
               intro v' w3 ho hg hb
               have HO := Lib.hid ho
               have HG := Lib.hid hg
               have HR3 := Lib.hid (show Whole w3 g _ _ from by have := whole_grown (H.out.keep HAL.out).rec_ (H.out.keep HAL.out).stk (by decide) hg; rw [HPG.out] at this; exact this)
               obtain ⟨A3, c3, rfl, _⟩ := rown_slice ho
               have d7 := HR3.out.cell 7
               have e7 := HR3.out.frozen 7
               clear ho hg hb)
  have HP := Lib.hid (H.out.pushed (x := x) HAL.out (by have := HN.out; omega) hroom HO.out HG.out)
  rw [HPG.out] at HP
  go_end0
  exact ⟨rfl, ⟨_, _, HP.out.1⟩, HP.out.2⟩
set_option maxHeartbeats 4000000 in
set_option maxRecDepth 100000 in
theorem epop_any {x : Int} {s' : EgV} (h : Eg P W vs vc s) (hp : s.pop = some (x, s')) : Calls Try.prog 53 #[.pointer (some ⟨P.g, 0, none⟩)] W (EgPost P W s' (.int .i64 x)) := by
  obtain ⟨st, hst, rfl⟩ := pop_some hp
  obtain ⟨gs, c, rfl, hc, hx⟩ := h.top hst
  have k7 : W.cell? ⟨P.g, 7, none⟩ = some (.slice (some ⟨gs, 0, none⟩) (st.length + 1) c) := h.rec_.cell 7
  have f7 := h.rec_.frozen 7
  have hb := h.stkb
  have hl : s.st.length = st.length + 1 := by rw [hst]; simp
  have HQ := Lib.hid (h.popped rfl (Chg.refl [] W) hst)
  have HQ2 := Lib.hid (h.popped rfl ((Chg.refl [] W).drew) hst)
  obtain ⟨n, hn⟩ : ∃ n, n = st.length := ⟨_, rfl⟩
  rw [← hn] at HQ HQ2 k7 hx hc hl
  have hn9 : n ≤ 3000000 := by omega
  generalize P.g = g at k7 f7 HQ HQ2 ⊢
  clear h hp hst hn hb
  have hsub : IntKind.i64.wrap (((n + 1 : Nat) : Int) - 1) = (n : Int) := by rw [IntWalk.i64_in _ (by omega)]; omega
  have hq0 : (0 : Int) ≤ (n : Int) := by omega
  have hq1 : (n : Int) < ((n + 1 : Nat) : Int) := by omega
  have hq2 : (n : Int) ≤ (c : Int) := by omega
  go_enter Try.func53, Try.ntmps53
  go_wp2_with fail
  go_ret
  exact ⟨rfl, ⟨_, _, HQ.out.1⟩, HQ.out.2⟩
end
end Go.Proofs.Ytnohfdojcdhfoaa
namespace Go.Proofs.Ytnohfdojcdhfoaa
open Go.RowKit
theorem last_some {cs : List CallV} {c : CallV} (h : cs.getLast? = some c) : ∃ ys, cs = ys ++ [c] ∧ cs.dropLast = ys := by
  rcases List.eq_nil_or_concat cs with e | ⟨l, z, e⟩
  · rw [e] at h; simp at h
  · rw [List.concat_eq_append] at e
    rw [e] at h ⊢
    simp at h
    subst h
    exact ⟨l, rfl, by simp⟩
section
variable {P : EP} {W W' : World} {vs vc : Value} {s : EgV}
/-- Where the call that runs lies. -/
theorem Eg.cur (h : Eg P W vs vc s) {ys : List CallV} {c : CallV} (hcs : s.cs = ys ++ [c]) : ∃ g cap, vc = .slice (some ⟨g, 0, none⟩) (ys.length + 1) cap ∧ ys.length + 1 ≤ cap ∧ ys.length ≤ 31 ∧ c.loc.length = 26 ∧
    (∀ j u, (clC c)[j]? = some u → W.cell? ⟨g, ys.length * 28 + j, none⟩ = some u) ∧ ∀ j, W.frozen? ⟨g, j, none⟩ = false := by
  have hl : s.cs.length = ys.length + 1 := by rw [hcs]; simp
  have hb := h.calb
  have hloc := h.loc
  rw [hcs] at hloc
  obtain ⟨A, n, cap, rfl, hn, hc⟩ := h.cslice
  have k : ∀ j u, (clC c)[j]? = some u → ∃ g, A = some ⟨g, 0, none⟩ ∧ W.cell? ⟨g, ys.length * 28 + j, none⟩ = some u := fun j u hu => rown_cell h.cal (by rw [hn]) (by rw [hcs, clCs_last hloc]; exact hu)
  obtain ⟨g, rfl, _⟩ := k 0 _ rfl
  refine ⟨g, cap, by rw [hn, hl], by omega, by omega, (Loc26.app.1 hloc).2, fun j u hu => ?_, fun j => rown_frozen (by have := h.cal; rw [← hn] at this; exact this)⟩
  obtain ⟨_, e, hx⟩ := k j u hu
  injection e with e; injection e with e; subst e
  exact hx
/-- A cell of the call that runs is written. -/
theorem Eg.callset (h : Eg P W vs vc s) {ys : List CallV} {c c' : CallV} (hcs : s.cs = ys ++ [c]) {g n cap j : Nat} (hv : vc = .slice (some ⟨g, 0, none⟩) n cap) {W2 : World} (hc : Chg [] W W2) (u : Value) (hu : (clC c).set j u = clC c') (hl : c'.loc.length = 26) :
    Eg P (W2.setCell ⟨g, ys.length * 28 + j, none⟩ u) vs vc (s.calls (ys ++ [c'])) ∧ Fe P.K egT W (W2.setCell ⟨g, ys.length * 28 + j, none⟩ u) := by
  subst hv
  have h2 := h.keep hc
  have hloc := h.loc
  rw [hcs] at hloc
  have hq : n = s.cs.length := by
    rcases h.cal.2 with ⟨e, e2⟩ | ⟨_, _, _, e, _⟩
    · cases e
    · injection e with _ e _
  have hgB := (h.cal.lt g rfl).1
  have ho := h2.cal
  rw [← hq] at ho
  have hf : Fe P.K eg3 W (W2.setCell ⟨g, ys.length * 28 + j, none⟩ u) := (Fe.of_chg hc).seto ho (.inl hgB) (by simp [eg3]) _
  have hne : P.g ≠ g := by
    intro e
    rcases ho.2 with ⟨e', _⟩ | ⟨g', _, cur, e', _, hg, _⟩
    · cases e'
    · injection e' with e1 _ _
      injection e1 with e1
      injection e1 with e1
      subst e1
      have hr := h2.rec_
      rw [e] at hr
      unfold Whole at hr
      rw [hr] at hg
      injection hg with hg
      injection hg with _ hg _
      exact absurd hg (by decide)
  have hst : (W2.setCell ⟨g, ys.length * 28 + j, none⟩ u).ownsRow P.B 2 1 vs s.st.length (nms s.st) := rown_far h2.stk (own_ne ho h2.stk (by decide) rfl)
  refine ⟨h.upd hf eg3_is (h2.rec_.far (by simpa using hne) _) hst ?_ (Loc26.app.2 ⟨(Loc26.app.1 hloc).1, hl⟩) (Nat.le_refl _) h.stkb (by have := h.calb; rw [hcs] at this; simpa using this), hf.sub eg3_sub⟩
  have := rown_set (j := ys.length * 28 + j) (u := u) ho
  rw [hcs, clCs_set hloc j u hu] at this
  rw [show (ys ++ [c']).length = n from by rw [hq, hcs]; simp]
  exact this
theorem clC_next (c : CallV) (go : Int) (h : 0 ≤ go) : (clC c).set 1 (.int .i64 go) = clC (c.at_ go.toNat) := by
  unfold clC CallV.at_
  simp only [List.cons_append, List.nil_append, List.set_cons_succ, List.set_cons_zero]
  rw [Int.toNat_of_nonneg h]
theorem clC_local (c : CallV) (i : Nat) (x : Int) : (clC c).set (2 + i) (.int .i64 x) = clC ⟨c.fn, c.next, c.loc.set i x⟩ := by
  unfold clC
  rw [show 2 + i = i + 1 + 1 from by omega]
  simp only [List.cons_append, List.nil_append, List.set_cons_succ]
  rw [nms_set]
theorem clC_get (c : CallV) (i : Nat) (x : Int) (h : c.loc[i]? = some x) : (clC c)[2 + i]? = some (.int .i64 x) := by
  unfold clC
  rw [show 2 + i = i + 1 + 1 from by omega]
  simp only [List.cons_append, List.nil_append, List.getElem?_cons_succ]
  simp [nms, h]
def NowPost (p : Addr) (W : World) (e : Ending) (w' : World) : Prop := e = .returned (.pointer (some p)) ∧ Chg [] W w'
set_option maxHeartbeats 4000000 in
set_option maxRecDepth 100000 in
theorem now_any {g k cap : Nat} (h : Eg P W vs vc s) (hv : vc = .slice (some ⟨g, 0, none⟩) (k + 1) cap) (hk : k ≤ 31) : Calls Try.prog 71 #[.pointer (some ⟨P.g, 0, none⟩)] W (NowPost ⟨g, k * 28, none⟩ W) := by
  subst hv
  have k8 : W.cell? ⟨P.g, 8, none⟩ = some (.slice (some ⟨g, 0, none⟩) (k + 1) cap) := h.rec_.cell 8
  generalize P.g = gp at k8 ⊢
  clear h
  have hsub : IntKind.i64.wrap (((k + 1 : Nat) : Int) - 1) = (k : Int) := by rw [IntWalk.i64_in _ (by omega)]; omega
  have hq0 : (0 : Int) ≤ (k : Int) := by omega
  have hq1 : (k : Int) < ((k + 1 : Nat) : Int) := by omega
  go_enter Try.func71, Try.ntmps71
  go_wp2_with fail
  go_quiet (fail)
  have HP := Lib.hid (show NowPost ⟨g, k * 28, none⟩ W (.returned (.pointer (some ⟨g, k * 28, none⟩))) (W.drewN nq) from ⟨rfl, (Chg.refl [] W).drewN nq⟩)
  go_wp2_with fail
  go_ret
  exact HP.out
set_option maxHeartbeats 4000000 in
set_option maxRecDepth 100000 in
theorem turn_go {s' : EgV} {go sg : Int} (h : Eg P W vs vc s) (hj : s.jump go = some s') (hs : sg = 58 ∨ sg = 93 ∨ sg = 126) : Calls Try.prog 86 #[.pointer (some ⟨P.g, 0, none⟩), .int .i32 sg, .int .i64 go] W (EgPost P W s' (.tuple #[])) := by
  unfold EgV.jump at hj
  cases hl : s.cs.getLast? with
  | none => rw [hl] at hj; cases hj
  | some c =>
    rw [hl] at hj
    simp only at hj
    by_cases h0 : go < 0
    · rw [if_pos h0] at hj; cases hj
    rw [if_neg h0] at hj
    injection hj with hj
    obtain ⟨ys, hcs, hdl⟩ := last_some hl
    rw [hdl] at hj
    subst hj
    obtain ⟨g, cap, hv, hcap, hk, hlen, hcell, hfro⟩ := h.cur hcs
    have HSET := Lib.hid (fun (W2 : World) (hc : Chg [] W W2) => h.callset hcs hv hc (j := 1) (.int .i64 go) (clC_next c go (by omega)) hlen)
    have HNOW := Lib.hid (now_any h hv hk)
    have n1 : W.cell? ⟨g, ys.length * 28 + 1, none⟩ = some (.int .i64 (c.next : Int)) := hcell 1 _ rfl
    have HF := Lib.hid (fun (W2 : World) (hc : Chg [] W W2) => show W2.frozen? ⟨g, ys.length * 28 + 1, none⟩ = false from by
      obtain ⟨_, _, hv2, _, _, _, _, hf2⟩ := (h.keep hc).cur hcs
      rw [hv] at hv2
      injection hv2 with e _ _; injection e with e; injection e with e
      rw [e]
      exact hf2 _)
    generalize ys.length = k at *
    generalize P.g = gp at *
    clear h hl hcs hv hcell hfro h0
    rcases hs with rfl | rfl | rfl <;>
    · go_enter Try.func86, Try.ntmps86
      go_wp2_with fail
      refine HNOW.out.mono ?_
      rintro e w1 ⟨rfl, hc1⟩
      have m1 := cell_keep n1 hc1
      have fm := HF.out w1 hc1
      have HP := Lib.hid (HSET.out w1 hc1)
      clear hc1
      go_wp2_with fail
      go_end0
      exact ⟨rfl, ⟨_, _, HP.out.1⟩, HP.out.2⟩
end
end Go.Proofs.Ytnohfdojcdhfoaa
namespace Go.Proofs.Ytnohfdojcdhfoaa
open Go.RowKit
section
variable {P : EP} {W W' : World} {vs vc : Value} {s : EgV}
theorem EgPost.of_chg {r : Value} {w' : World} (h : Eg P W vs vc s) (hc : Chg [] W w') : EgPost P W s r (.returned r) w' := ⟨rfl, ⟨_, _, h.keep hc⟩, Fe.of_chg hc⟩
set_option maxHeartbeats 4000000 in
set_option maxRecDepth 100000 in
theorem turn_not {go sg : Int} (h : Eg P W vs vc s) (hs : sg = 59 ∨ sg = 91) : Calls Try.prog 86 #[.pointer (some ⟨P.g, 0, none⟩), .int .i32 sg, .int .i64 go] W (EgPost P W s (.tuple #[])) := by
  have HP := Lib.hid (EgPost.of_chg (r := .tuple #[]) h (Chg.refl [] W))
  generalize P.g = gp at *
  clear h
  rcases hs with rfl | rfl <;>
  · go_enter Try.func86, Try.ntmps86
    go_wp2_with fail
    go_end0
    exact HP.out
set_option maxHeartbeats 4000000 in
set_option maxRecDepth 100000 in
theorem turn_ask {go x : Int} {s1 s' : EgV} (h : Eg P W vs vc s) (hp : s.pop = some (x, s1)) (hj : (if x = 0 then s1.jump go else some s1) = some s') : Calls Try.prog 86 #[.pointer (some ⟨P.g, 0, none⟩), .int .i32 63, .int .i64 go] W (EgPost P W s' (.tuple #[])) := by
  have HPOP := Lib.hid (epop_any h hp)
  by_cases hx : x = 0
  · rw [if_pos hx] at hj
    subst hx
    unfold EgV.jump at hj
    cases hl : s1.cs.getLast? with
    | none => rw [hl] at hj; cases hj
    | some c =>
      rw [hl] at hj
      simp only at hj
      by_cases h0 : go < 0
      · rw [if_pos h0] at hj; cases hj
      rw [if_neg h0] at hj
      injection hj with hj
      obtain ⟨ys, hcs, hdl⟩ := last_some hl
      rw [hdl] at hj
      subst hj
      have HCS := Lib.hid hcs
      have hg0 : 0 ≤ go := by omega
      obtain ⟨gp, hgp⟩ : ∃ gp, gp = P.g := ⟨_, rfl⟩
      rw [← hgp] at HPOP ⊢
      have HGP := Lib.hid hgp
      clear h hl hp hcs h0 hgp
      go_enter Try.func86, Try.ntmps86
      go_wp2_with fail
      refine HPOP.out.mono ?_
      rintro e w1 ⟨rfl, ⟨vs1, vc1, h1⟩, hf1⟩
      obtain ⟨g, cap, hv, hcap, hk, hlen, hcell, hfro⟩ := h1.cur HCS.out
      have HSET := Lib.hid (fun (W2 : World) (hc : Chg [] w1 W2) => h1.callset HCS.out hv hc (j := 1) (.int .i64 go) (clC_next c go hg0) hlen)
      have HNOW := Lib.hid (now_any h1 hv hk)
      rw [← HGP.out] at HNOW
      have n1 : w1.cell? ⟨g, ys.length * 28 + 1, none⟩ = some (.int .i64 (c.next : Int)) := hcell 1 _ rfl
      have HF := Lib.hid (fun (W2 : World) (hc : Chg [] w1 W2) => show W2.frozen? ⟨g, ys.length * 28 + 1, none⟩ = false from by
        obtain ⟨_, _, hv2, _, _, _, _, hf2⟩ := (h1.keep hc).cur HCS.out
        rw [hv] at hv2
        injection hv2 with e _ _; injection e with e; injection e with e
        rw [e]
        exact hf2 _)
      have HF1 := Lib.hid hf1
      generalize ys.length = k at *
      clear h1 hv hcell hfro hf1
      go_wp2_with fail
      refine HNOW.out.mono ?_
      rintro e w2 ⟨rfl, hc2⟩
      have m1 := cell_keep n1 hc2
      have fm := HF.out w2 hc2
      have HP := Lib.hid (HSET.out w2 hc2)
      clear hc2
      go_wp2_with fail
      go_end0
      exact ⟨rfl, ⟨_, _, HP.out.1⟩, HF1.out.trans HP.out.2⟩
  · rw [if_neg hx] at hj
    injection hj with hj
    subst hj
    have hxb : (x == 0) = false := by simpa using hx
    generalize P.g = gp at *
    clear h hp hx
    go_enter Try.func86, Try.ntmps86
    go_wp2_with fail
    refine HPOP.out.mono ?_
    rintro e w1 ⟨rfl, h1, hf1⟩
    have HP := Lib.hid (show EgPost P W s1 (.tuple #[]) (.returned (.tuple #[])) w1 from ⟨rfl, h1, hf1⟩)
    clear h1 hf1
    go_wp2_with fail
    go_end0
    exact HP.out
/-- The row is asked. -/
theorem Eg.asked (h : Eg P W vs vc s) {a q : Value} {qs : List (Int × Int)} (hq : qs.length + s.fuel ≤ 900000000) (hR : Rq W' P.rp P.rs qs a q) (hK : ∀ i, q.ownBlock = some i → P.K i) (hf : Fe P.K rqT W W') : Eg P W' vs vc ⟨s.fuel, s.st, s.cs, s.L, s.V, qs⟩ := by
  obtain ⟨gC, gD, X, Y, hM, k1, k2⟩ := h.mem
  exact { rec_ := hf.whole h.rec_ (by decide), stk := hf.own h.stk (by decide), cal := hf.own h.cal (by decide), mem := ⟨gC, gD, X, Y, hf.mm hM (by decide) (by decide) (by decide), k1, k2⟩, row := ⟨a, q, hR, hK⟩,
          cod := h.cod.fe hf (by decide) (by decide) (by decide), fns := h.fns.fe hf h.foff, foff := h.foff, gB := h.gB, room := Nat.le_trans h.room hf.size, pK := h.pK, rK := h.rK, loc := h.loc, fuelb := h.fuelb, stkb := h.stkb, calb := h.calb, qsb := hq }
/-- The memory is turned. -/
theorem Eg.memd (h : Eg P W vs vc s) {L : List UInt8} {V : List Bool} {gC gD : Nat} {X Y : List Value} {TS : List TypeId} (hM : Mm W' P.p gC gD L X V Y P.most) (k1 : P.K gC) (k2 : P.K gD) (hf : Fe P.K TS W W') (hT : ∀ t ∈ TS, t = 83 ∨ t = 5 ∨ t = 4) : Eg P W' vs vc ⟨s.fuel, s.st, s.cs, L, V, s.qs⟩ := by
  obtain ⟨a, q, hR, k3⟩ := h.row
  have no : ∀ t : TypeId, t ≠ 83 → t ≠ 5 → t ≠ 4 → t ∉ TS := fun t a b c hm => by
    rcases hT t hm with h | h | h
    · exact a h
    · exact b h
    · exact c h
  exact { rec_ := hf.whole h.rec_ (no _ (by decide) (by decide) (by decide)), stk := hf.own h.stk (no _ (by decide) (by decide) (by decide)), cal := hf.own h.cal (no _ (by decide) (by decide) (by decide)), mem := ⟨gC, gD, X, Y, hM, k1, k2⟩,
          row := ⟨a, q, hR.fe hf (no _ (by decide) (by decide) (by decide)) (no _ (by decide) (by decide) (by decide)) (no _ (by decide) (by decide) (by decide)), k3⟩,
          cod := h.cod.fe hf (no _ (by decide) (by decide) (by decide)) (no _ (by decide) (by decide) (by decide)) (no _ (by decide) (by decide) (by decide)), fns := h.fns.fe hf h.foff, foff := h.foff, gB := h.gB, room := Nat.le_trans h.room hf.size, pK := h.pK, rK := h.rK, loc := h.loc, fuelb := h.fuelb, stkb := h.stkb, calb := h.calb, qsb := h.qsb }
end
end Go.Proofs.Ytnohfdojcdhfoaa
namespace Go.Proofs.Ytnohfdojcdhfoaa
open Go.RowKit
def askO (o : Option Int) (nm x : Int) (s1 : EgV) : Int × EgV := match o with
  | none => (7, ⟨s1.fuel, s1.st, s1.cs, s1.L, s1.V, s1.qs ++ [(nm, x)]⟩)
  | some n => (0, ⟨s1.fuel, s1.st ++ [n], s1.cs, s1.L, s1.V, s1.qs ++ [(nm, x)]⟩)
def askS (rs : List (Option Int)) (nm x : Int) (s1 : EgV) : Int × EgV := askO (ansR rs s1.qs.length) nm x s1
section
variable {P : EP} {W W' : World} {vs vc : Value} {s : EgV}
set_option maxHeartbeats 8000000 in
set_option maxRecDepth 100000 in
theorem eask_any {x : Int} {s1 : EgV} (h : Eg P W vs vc s) (hp : s.pop = some (x, s1)) (nm : Int) (hroom : s.qs.length + s.fuel ≤ 899999999) : Calls Try.prog 89 #[.pointer (some ⟨P.g, 0, none⟩), .int .i32 nm] W (EgPost P W (askS P.rs nm x s1).2 (.int .i64 (askS P.rs nm x s1).1)) := by
  have HPOP := Lib.hid (epop_any (h.keep ((Chg.refl [] W).drew)) hp)
  obtain ⟨st, hst, hs1⟩ := pop_some hp
  have HS1 := Lib.hid (show s1.fuel = s.fuel ∧ s1.qs = s.qs ∧ s1.st.length + s1.fuel ≤ 2999999 from by
    have hb := h.stkb
    rw [hst, List.length_append, List.length_singleton] at hb
    subst hs1
    exact ⟨rfl, rfl, by show st.length + s.fuel ≤ _; omega⟩)
  have k5 : W.cell? ⟨P.g, 5, none⟩ = some (.pointer (some ⟨P.rp, 0, none⟩)) := h.rec_.cell 5
  have hASK : ∀ (w1 : World) (vs1 vc1 : Value), Eg P w1 vs1 vc1 s1 → Fe P.K egT W w1 → Calls Try.prog 109 #[.pointer (some ⟨P.rp, 0, none⟩), .int .i32 nm, .int .i64 x] w1 (fun e w2 => e = .returned (.tuple #[.int .i64 ((ansR P.rs s1.qs.length).getD 0), .bool (ansR P.rs s1.qs.length).isSome]) ∧ Hid (Eg P w2 vs1 vc1 ⟨s1.fuel, s1.st, s1.cs, s1.L, s1.V, s1.qs ++ [(nm, x)]⟩) ∧ Hid (Fe P.K egT W w2)) := by
    intro w1 vs1 vc1 h1 hf1
    obtain ⟨a, q, hR, hK⟩ := h1.row
    have hl := HS1.out
    refine (ask_any hR h1.rK hK (fun i hi => .inl (Nat.le_trans h1.room hi)) (by rw [hl.2.1]; omega) nm x).mono ?_
    rintro e w2 ⟨a', q', he, hR', hF', hK'⟩
    refine ⟨he, Lib.hid (h1.asked (by rw [List.length_append, List.length_singleton, hl.1, hl.2.1]; omega) hR' hK' hF'), Lib.hid (hf1.trans (hF'.sub (by intro t ht; simp only [List.mem_cons, List.not_mem_nil, or_false] at ht ⊢; rcases ht with ht | ht <;> subst ht <;> simp)))⟩
  have HASK := Lib.hid hASK
  obtain ⟨R, hR⟩ : ∃ R, R = askS P.rs nm x s1 := ⟨_, rfl⟩
  have HR := Lib.hid hR
  rw [← hR]
  obtain ⟨o, ho⟩ : ∃ o, o = ansR P.rs s1.qs.length := ⟨_, rfl⟩
  rw [← ho] at HASK
  have HRO := Lib.hid (show R = askO o nm x s1 from by rw [hR, ho]; rfl)
  have HPUSH := Lib.hid (fun (w : World) (vs2 vc2 : Value) (sx : EgV) (hx : Eg P w vs2 vc2 sx) (n : Int) (hr : sx.st.length + sx.fuel ≤ 2999999) => push_any hx n hr)
  obtain ⟨gp, hgp⟩ : ∃ gp, gp = P.g := ⟨_, rfl⟩
  have HGP := Lib.hid hgp
  rw [← hgp] at HPOP HPUSH k5 ⊢
  clear h hp hst hs1 hASK hR ho hgp
  go_enter Try.func89, Try.ntmps89
  go_upto_region 3 with fail
  go_region_with (first
    | (go_at_call 53
       refine HPOP.out.mono ?_
       rintro e w1 ⟨rfl, ⟨vs1, vc1, h1⟩, hf1⟩
       have m5 : w1.cell? ⟨gp, 5, none⟩ = some (.pointer (some ⟨P.rp, 0, none⟩)) := by rw [HGP.out]; exact h1.rec_.cell 5
       have H1 := Lib.hid h1
       have HF1 := Lib.hid ((Fe.of_chg ((Chg.refl [] W).drew)).trans hf1)
       clear h1 hf1)
    | (go_at_call 109
       refine (HASK.out w1 vs1 vc1 H1.out HF1.out).mono ?_
       rintro e w2 ⟨rfl, H2, HF2⟩))
  all_goals
    cases o with
    | none =>
      have HP := Lib.hid (show EgPost P W R.2 (.int .i64 R.1) (.returned (.int .i64 7)) w2 from by rw [HRO.out]; exact ⟨rfl, ⟨_, _, H2.out⟩, HF2.out⟩)
      simp only [Option.getD_none, Option.isSome_none]
      go_wp2_with fail
      go_ret
      exact HP.out
    | some n =>
      have HPU := Lib.hid (HPUSH.out w2 _ _ _ H2.out n (by have := HS1.out; exact this.2.2))
      simp only [Option.getD_some, Option.isSome_some]
      go_wp2_with fail
      refine HPU.out.mono ?_
      rintro e w3 ⟨rfl, h3, hf3⟩
      have HP := Lib.hid (show EgPost P W R.2 (.int .i64 R.1) (.returned (.int .i64 0)) w3 from by rw [HRO.out]; exact ⟨rfl, h3, HF2.out.trans hf3⟩)
      clear h3 hf3
      go_wp2_with fail
      go_ret
      exact HP.out
end
end Go.Proofs.Ytnohfdojcdhfoaa
namespace Go.Proofs.Ytnohfdojcdhfoaa
open Go.RowKit
section
variable {P : Program} {ops : Array Oper} {rest : List Oper} {o : Oper} {a : Act} {w : World} {Q : Exit → Act → World → Prop}
theorem wpList_build_is (hg : o.guard = none) (t : TypeId) (parts : Array (Nat × Operand)) (ho : o.op = .build t parts) (C : Array Value) (hf : P.built t (parts.map fun (i, x) => (i, a.eval x)).toList = some C)
    (h : wpList P ops Q rest (a.put o.dst (.agg C)) w) : wpList P ops Q (o :: rest) a w :=
  wpList_build hg t parts ho (by rw [hf]; rfl) (by rw [hf]; exact h)
theorem wpList_alloc_is (hg : o.guard = none) (t : TypeId) (ho : o.op = .alloc t) {i : TypeInfo} {z : Value} (hi : P.info? t = some i) (hz : i.zero = some z) (N : Nat) (hN : w.heap.size = N)
    (h : wpList P ops Q rest (a.put o.dst (.pointer (some ⟨N, 0, none⟩))) (w.alloc (.cells z.cells t))) : wpList P ops Q (o :: rest) a w := by
  subst hN
  refine wpList_plain hg fun K hK => ?_
  unfold Oper.wp execOp
  simp [ho, go_sem, zeroValue, typeInfo, hi, hz]
  exact hK _ _ h
end
section
variable {P : Program} {ops : Array Oper} {o : Oper} {a : Act} {w : World} {K : Act → World → Prop} {Q : Exit → Act → World → Prop} {E : Prop}
theorem step_of (hgd : o.guard = none) (h : Oper.wp P o a w K Q) : if Region.wanted o (yielded ops a.tmps) = true then Oper.wp P o a w K Q else E := by
  have hw : Region.wanted o (yielded ops a.tmps) = true := by simp [Region.wanted, hgd]
  rw [if_pos hw]
  exact h
theorem step_load_row (hgd : o.guard = none) (ty : TypeId) (x : Operand) (ho : o.op = .load ty x)
    (g : Nat) (hx : a.eval x = .pointer (some ⟨g, 0, none⟩)) (t : TypeId) (cs : Array Value) (fr : Nat × Nat) (d : TypeDesc) (hg : w.heap[g]? = some (.cells cs t fr))
    (hu : P.underlying ty = some d) (hd : (match d with | .struct _ | .array _ _ => true | _ => false) = true) (hi : (P.info? ty).map (·.size) = some cs.size)
    (h : K (a.put o.dst (.agg cs)) w) : if Region.wanted o (yielded ops a.tmps) = true then Oper.wp P o a w K Q else E :=
  step_of hgd (wp_load_row ty x ho g hx t cs fr d hg hu hd hi h)
/-- '[]T{v}' of a struct. -/
theorem step_build_one (hgd : o.guard = none) (t e : TypeId) (x : Operand) (ho : o.op = .buildSlice t 1 #[(0, x)]) (cells : Array Value) (hx : a.eval x = .agg cells) {i : TypeInfo} {z : Value} (s : Nat)
    (hu : P.underlying t = some (.slice e)) (hi : P.info? e = some i) (hz : i.zero = some z) (hs : i.size = s) (hzs : z.cells.size = s) (hpos : 0 < s) (hbig : s ≤ 1000) (hc : cells.size = s) (N : Nat) (hN : w.heap.size = N)
    (h : K (a.put o.dst (.slice (some ⟨N, 0, none⟩) 1 1)) (w.alloc (.cells cells e))) : if Region.wanted o (yielded ops a.tmps) = true then Oper.wp P o a w K Q else E := by
  subst hN
  refine step_of hgd (Go.wp_buildSlice t e 1 #[(0, x)] ho cells i z hu hi hz (by rw [hs]; omega) (by rw [hs]; omega) ?_ h)
  have := Go.Great.fill_whole hpos [.agg cells] ((Array.range (1 * i.size)).map (z.cells[· % z.cells.size]!)) (by intro v hv; rw [List.mem_singleton] at hv; subst hv; exact hc) (by simp [hs])
  simp only [List.map_toArray, List.map_cons, List.map_nil, hx, hs] at this ⊢
  rw [show ([(Value.agg cells)].zipIdx 0).map (fun x => (x.2, x.1)) = [(0, Value.agg cells)] from rfl] at this
  rw [this]
  simp [Value.cells]
end
theorem setRow_whole {w : World} {g t : Nat} {old cs : List Value} (h : Whole w g t old) : Whole (w.setRow g cs.toArray) g t cs := by
  have := Go.setRow_heap w g old.toArray cs.toArray t (0, 0) h
  exact this
theorem setRow_chg {w : World} {g : Nat} {cs : Array Value} {T : List Nat} {a : World} (h : Chg T a w) (hg : a.heap.size ≤ g) : Chg T a (w.setRow g cs) := by
  refine ⟨h.os, h.tape, h.output, ?_, fun k hk hn => ?_⟩
  · have := h.size
    simpa [World.setRow] using this
  · exact (Go.setRow_other w g k cs (by omega)).trans (h.block k hk hn)
end Go.Proofs.Ytnohfdojcdhfoaa
namespace Go.Proofs.Ytnohfdojcdhfoaa
open Go.RowKit
theorem info_call : (Try.prog.info? 117).map (fun i => (i.zero.map (fun v => v.cells.size), i.size, i.bytes)) = some (some 28, 28, 224) := by kernel_rfl
def EP.cd (P : EP) : List CodeV := P.xs.map (·.c)
theorem call_some {P : EP} {k : Nat} {s s' : EgV} (h : eCall P.cd k s = some s') : ∃ x, P.xs[k]? = some x ∧ x.c.args ≤ s.st.length ∧ x.c.args ≤ 26 ∧
    s' = ⟨s.fuel, s.st.take (s.st.length - x.c.args), s.cs ++ [⟨k, 0, s.st.drop (s.st.length - x.c.args) ++ List.replicate (26 - x.c.args) 0⟩], s.L, s.V, s.qs⟩ := by
  unfold eCall EP.cd at h
  rw [List.getElem?_map] at h
  cases hx : P.xs[k]? with
  | none => rw [hx] at h; cases h
  | some x =>
    rw [hx] at h
    simp only [Option.map_some] at h
    by_cases hc : s.st.length < x.c.args ∨ 26 < x.c.args
    · rw [if_pos hc] at h; cases h
    · rw [if_neg hc] at h
      injection h with h
      exact ⟨x, rfl, by omega, by omega, h.symm⟩
def zc (k : Nat) : CallV := ⟨k, 0, List.replicate 26 0⟩
theorem built_call (k : Int) : Try.prog.built 117 [(0, .int .i64 k)] = some #[.int .i64 k, .int .i64 0, .int .i64 0, .int .i64 0, .int .i64 0, .int .i64 0, .int .i64 0, .int .i64 0, .int .i64 0, .int .i64 0, .int .i64 0, .int .i64 0, .int .i64 0, .int .i64 0, .int .i64 0, .int .i64 0, .int .i64 0, .int .i64 0, .int .i64 0, .int .i64 0, .int .i64 0, .int .i64 0, .int .i64 0, .int .i64 0, .int .i64 0, .int .i64 0, .int .i64 0, .int .i64 0] := by kernel_rfl
theorem built_zc (k : Nat) : Try.prog.built 117 [(0, .int .i64 (k : Int))] = some (clC (zc k)).toArray := (built_call k).trans rfl
theorem zero_call : (Try.prog.info? 117).map (fun i => (i.zero.map (·.cells), i.size, i.bytes)) = some (some (clC (zc 0)).toArray, 28, 224) := by kernel_rfl
theorem size_call : (Try.prog.info? 117).map (·.size) = some 28 := by kernel_rfl
theorem info_parts2 {P : Program} {t : TypeId} {c : Array Value} {n b : Nat} (h : (P.info? t).map (fun i => (i.zero.map (·.cells), i.size, i.bytes)) = some (some c, n, b)) : ∃ i z, P.info? t = some i ∧ i.zero = some z ∧ z.cells = c ∧ i.size = n ∧ i.bytes = b := by
  cases hi : P.info? t with
  | none => rw [hi] at h; cases h
  | some i =>
    rw [hi] at h
    simp only [Option.map_some, Option.some.injEq, Prod.mk.injEq] at h
    obtain ⟨h1, h2, h3⟩ := h
    cases hz : i.zero with
    | none => rw [hz] at h1; cases h1
    | some z => rw [hz] at h1; simp only [Option.map_some, Option.some.injEq] at h1; exact ⟨i, z, rfl, hz, h1, h2, h3⟩
theorem all_one (l : List Value) (h : ∀ v ∈ l, v.oneCell' = true) : l.toArray.all (·.oneCell') = true := by simpa using h
theorem clC_one (c : CallV) : ∀ v ∈ clC c, v.oneCell' = true := by
  intro v hv
  unfold clC at hv
  simp only [List.cons_append, List.nil_append, List.mem_cons] at hv
  rcases hv with rfl | rfl | hv
  · rfl
  · rfl
  · exact nms_one _ v hv
theorem src_drop {w : World} {B e n c q : Nat} {A : Option Addr} {xs : List Value} (h : w.ownsRow B e 1 (.slice A n c) n xs) (hq : q ≤ n) : Src w (if c = q then A else Option.map (fun x => x.add q) A) (xs.drop q) := by
  obtain ⟨A', c', e', hl, hc, hs, hA⟩ := own_slice h
  injection e' with e1 _ e3
  subst e1
  subst e3
  intro h0
  rw [List.length_drop] at h0
  obtain ⟨ad, rfl, hlt, hx⟩ := hs (by omega)
  obtain ⟨b, o, sp⟩ := ad
  obtain rfl : sp = none := (hA _ rfl).1
  rw [if_neg (by omega)]
  refine ⟨⟨b, o + q, none⟩, by simp [add_plain], hlt, fun j u hj => ?_⟩
  have := hx (q + j) u (by rw [List.getElem?_drop] at hj; exact hj)
  rw [add_plain] at this ⊢
  rw [Nat.add_assoc]
  exact this
theorem splice_call (k ar : Nat) (l : List Int) (hl : l.length = ar) : splice (clC (zc k)) 2 (nms l) = clC ⟨k, 0, l ++ List.replicate (26 - ar) 0⟩ := by
  unfold splice clC zc
  simp only [List.cons_append, List.nil_append, List.take_succ_cons, List.take_zero, nms_len, hl]
  rw [show 2 + ar = ar + 1 + 1 from by omega]
  simp only [List.drop_succ_cons]
  rw [nms_app]
  congr 3
  show List.drop ar (nms (List.replicate 26 0)) = nms (List.replicate (26 - ar) 0)
  unfold nms
  rw [List.map_replicate, List.map_replicate, List.drop_replicate]
section
variable {P : EP} {W W' : World} {vs vc : Value} {s : EgV}
theorem Eg.cut (h : Eg P W vs vc s) {A : Option Addr} {n c q : Nat} (hv : vs = .slice A n c) (hn : n = s.st.length) (hq : q ≤ n) {W2 : World} (hc : Chg [] W W2) :
    Eg P (W2.setCell ⟨P.g, 7, none⟩ (.slice A q c)) (.slice A q c) vc ⟨s.fuel, s.st.take q, s.cs, s.L, s.V, s.qs⟩ ∧ Fe P.K egT W (W2.setCell ⟨P.g, 7, none⟩ (.slice A q c)) := by
  subst hv
  have h2 := h.keep hc
  have ho := h2.stk
  rw [← hn] at ho
  have ht : W2.ownsRow P.B 2 1 (.slice A q c) q (nms (s.st.take q)) := by
    by_cases hA : A = none
    · subst hA
      rcases ho.2 with ⟨e, e2⟩ | ⟨_, _, _, e, _⟩
      · injection e with _ _ e3
        subst e3
        obtain rfl : q = 0 := by omega
        simpa [nms] using World.ownsRow_nil W2 P.B 2 1
      · injection e with e _; cases e
    · have := rown_take (q' := q) ho hq hA
      rw [Nat.mul_one] at this
      rwa [show nms (s.st.take q) = (nms s.st).take q from by simp [nms, List.map_take]]
  have hf : Fe P.K eg3 W (W2.setCell ⟨P.g, 7, none⟩ (.slice A q c)) := (Fe.of_chg hc).setw h2.rec_ h.kg (by simp [eg3]) _
  have hql : (s.st.take q).length = q := by rw [List.length_take]; omega
  refine ⟨h.upd hf eg3_is (h2.rec_.set_ 7 _) ?_ (rown_lay h2.cal h2.rec_ (by decide)) h.loc (Nat.le_refl _) (by have := h.stkb; omega) h.calb, hf.sub eg3_sub⟩
  rw [hql]
  exact rown_lay (j := 7) (u := .slice A q c) ht h2.rec_ (by decide)
theorem Eg.called (h : Eg P W vs vc s) {W2 w3 : World} (hc : Chg [] W W2) {x : CallV} (hx : x.loc.length = 26) {v' : Value} {n1 : Nat} (hn1 : n1 = s.cs.length + 1) (hroom : s.cs.length ≤ 31)
    (ho : w3.ownsRow P.B 117 28 v' n1 (clCs s.cs ++ clC x)) (hg : W2.grownBy w3 vc.ownBlock) :
    Eg P (w3.setCell ⟨P.g, 8, none⟩ v') vs v' (s.calls (s.cs ++ [x])) ∧ Fe P.K egT W (w3.setCell ⟨P.g, 8, none⟩ v') := by
  subst hn1
  have h2 := h.keep hc
  have hr3 := whole_grown h2.rec_ h2.cal (by decide) hg
  have hs3 := rown_grown h2.stk h2.cal (by decide) hg
  have hf : Fe P.K eg3 W (w3.setCell ⟨P.g, 8, none⟩ v') := ((Fe.of_chg hc).grown h2.cal h2.kcal (by simp [eg3]) hg).setw hr3 h.kg (by simp [eg3]) _
  refine ⟨h.upd hf eg3_is (hr3.set_ 8 v') (rown_lay hs3 hr3 (by decide)) ?_ (Loc26.app.2 ⟨h.loc, hx⟩) (Nat.le_refl _) h.stkb (by rw [List.length_append, List.length_singleton]; omega), hf.sub eg3_sub⟩
  have := rown_lay (j := 8) (u := v') ho hr3 (by decide)
  rw [List.length_append, List.length_singleton, clCs_app, clCs_one]
  exact this
set_option maxHeartbeats 8000000 in
set_option maxRecDepth 100000 in
theorem ecall_any {k : Nat} {s' : EgV} (h : Eg P W vs vc s) (hc : eCall P.cd k s = some s') (hcs : s.cs.length ≤ 31) : Calls Try.prog 51 #[.pointer (some ⟨P.g, 0, none⟩), .int .i64 (k : Int)] W (EgPost P W s' (.tuple #[])) := by
  obtain ⟨x, hx, ha, ha26, rfl⟩ := call_some hc
  obtain ⟨A, n, c, rfl, hn, hnc⟩ := h.sslice
  obtain ⟨i0, z0, hi0, hz0, hzc, hz1, hz2⟩ := info_parts2 zero_call
  have hal := (Chg.refl [] W).alloc (.cells (clC (zc 0)).toArray 117)
  have hN := Whole.new W 117 (clC (zc 0))
  have hS := setRow_whole (cs := clC (zc k)) hN
  have hC1 := setRow_chg (cs := (clC (zc k)).toArray) hal (Nat.le_refl _)
  have HBC := Lib.hid (built_zc k)
  have HH := Lib.hid h
  have HX := Lib.hid hx
  have HN := Lib.hid hn
  obtain ⟨ar, har⟩ : ∃ ar, ar = x.c.args := ⟨_, rfl⟩
  rw [← har] at ha ha26
  rw [← hn] at ha
  have HAR := Lib.hid har
  obtain ⟨s', hs'⟩ : ∃ s', s' = (⟨s.fuel, s.st.take (s.st.length - x.c.args), s.cs ++ [⟨k, 0, s.st.drop (s.st.length - x.c.args) ++ List.replicate (26 - x.c.args) 0⟩], s.L, s.V, s.qs⟩ : EgV) := ⟨_, rfl⟩
  rw [← hs']
  have HS' := Lib.hid hs'
  have hn9 : n ≤ 3000000 := by have := h.stkb; omega
  obtain ⟨gp, hgp⟩ : ∃ gp, gp = P.g := ⟨_, rfl⟩
  have HGP := Lib.hid hgp
  rw [← hgp]
  clear h hx hn har hc hs' hgp
  go_enter Try.func51, Try.ntmps51
  go_upto_region 1 with (first
    | (refine wpList_build_is rfl 117 #[(0, .tmp 6)] rfl (clC (zc k)).toArray HBC.out ?_)
    | (refine wpList_alloc_is rfl 117 rfl hi0 hz0 _ rfl ?_; rw [hzc])
    | (refine wpList_store_row rfl 117 (.tmp 4) (.tmp 7) rfl W.heap.size (clC (zc k)).toArray rfl rfl 117 (clC (zc 0)).toArray hN ?_ ?_ ?_ ?_
       · rw [size_call]; rfl
       · rfl
       · exact all_one _ (clC_one _)))
  generalize (W.alloc (.cells (clC (zc 0)).toArray 117)).setRow W.heap.size (clC (zc k)).toArray = w1 at hS hC1 ⊢
  have HC1 := Lib.hid hC1
  have HG4 := Lib.hid (show W.heap.size ≤ W.heap.size from Nat.le_refl _)
  generalize hg4 : W.heap.size = g4 at hS hN HG4 ⊢
  have HG5 := Lib.hid hg4
  have HS1 := Lib.hid hS
  clear hS hC1 hN hal hg4 HG4
  have H1 := Lib.hid (HH.out.keep HC1.out)
  have k7 : w1.cell? ⟨gp, 7, none⟩ = some (.slice A n c) := by rw [HGP.out]; exact H1.out.rec_.cell 7
  have k3 : w1.cell? ⟨gp, 3, none⟩ = some P.cv := by rw [HGP.out]; exact H1.out.rec_.cell 3
  obtain ⟨Av, cv, hcv, _⟩ := rown_slice H1.out.cod.own
  have hkx : k < P.xs.length := (List.getElem?_eq_some_iff.1 HX.out).1
  have hx32 := H1.out.cod.lenb
  obtain ⟨gv, rfl, c0⟩ := rown_cell H1.out.cod.own hcv ((cdCs_get P.xs k x 0 HX.out (by omega)).trans rfl)
  rw [← HAR.out, Nat.add_zero] at c0
  rw [hcv] at k3
  generalize P.xs.length = nx at *
  have hk0 : (0 : Int) ≤ (k : Int) := by omega
  have hk1 : (k : Int) < (nx : Int) := by omega
  have hsub : IntKind.i64.wrap ((n : Int) - (ar : Int)) = ((n - ar : Nat) : Int) := by rw [IntWalk.i64_in _ (by omega)]; omega
  clear hcv
  go_wp2_with fail
  go_quiet (fail)
  have hc2 : Chg [] w1 (w1.drewN nq) := (Chg.refl [] w1).drewN nq
  generalize w1.drewN nq = w2 at hc2 ⊢
  have H2 := Lib.hid (H1.out.keep hc2)
  have HS2 := Lib.hid (HS1.out.keep hc2)
  have HC2 := Lib.hid (HC1.out.new hc2)
  clear hc2 k7 k3 c0 H1 HS1 HC1
  have k7 : w2.cell? ⟨gp, 7, none⟩ = some (.slice A n c) := by rw [HGP.out]; exact H2.out.rec_.cell 7
  obtain ⟨q, hq⟩ : ∃ q, q = n - ar := ⟨_, rfl⟩
  rw [← hq] at hsub
  have hq0 : (0 : Int) ≤ (q : Int) := by omega
  have hq1 : (q : Int) ≤ (n : Int) := by omega
  have hq2 : q ≤ n := by omega
  have hqa : n - q = ar := by omega
  have HQ := Lib.hid hq
  clear hq
  go_wp2_with fail
  go_still_tail 8, (by kernel_rfl)
  change wpList _ _ _ _ _ w2.drew
  rw [← HQ.out]
  have hst : (nms (s.st.drop q)).length = ar := by rw [nms_len, List.length_drop, ← HN.out]; omega
  have hsr : Src w2.drew (if c = q then A else Option.map (fun x => x.add q) A) (nms (s.st.drop q)) := by
    have ho := H2.out.stk
    rw [← HN.out] at ho
    have := src_drop (q := q) (rown_keep ho ((Chg.refl [] w2).drew)) hq2
    rwa [show nms (s.st.drop q) = (nms s.st).drop q from by simp [nms, List.map_drop]]
  have hfit : 2 + (nms (s.st.drop q)).length ≤ (clC (zc k)).length := by rw [hst, clC_len (by simp [zc])]; omega
  have HSZ := Lib.hid (show (Try.prog.info? 2).map (·.size) = some 1 from by kernel_rfl)
  have HST := Lib.hid hst
  have HSR := Lib.hid hsr
  have HFT := Lib.hid hfit
  have HS3 := Lib.hid (HS2.out.keep ((Chg.refl [] w2).drew))
  clear hst hsr hfit HS2
  refine wpList_copy_chg rfl (.tmp 23) (.tmp 29) _ _ rfl 2 Try.underlying22 HSZ.out (some ⟨g4, 2, none⟩) (if c = q then A else Option.map (fun x => x.add q) A) 26 26 (n - q) (c - q) rfl rfl g4 2 117 (clC (zc k)) (nms (s.st.drop q)) HS3.out ?_ (fun _ => rfl) HSR.out HFT.out (nms_one _) ?_
  · rw [HST.out, hqa]; exact (Nat.min_eq_left ha26).symm
  intro w3 hW3 hc3
  rw [splice_call k ar _ (by have := HST.out; rwa [nms_len] at this)] at hW3
  have HC3 := Lib.hid (show Chg [] W w3 from (HC2.out.drew).then_ hc3 (fun i hi hl => by
    have := HG5.out
    simp only [List.mem_cons, List.not_mem_nil, or_false] at hi
    omega))
  have HW3 := Lib.hid hW3
  have H3 := Lib.hid (HH.out.keep HC3.out)
  clear hc3 hW3 k7 H2 HS3 HSR HC2
  obtain ⟨cx, hcx⟩ : ∃ cx : CallV, cx = ⟨k, 0, s.st.drop q ++ List.replicate (26 - ar) 0⟩ := ⟨_, rfl⟩
  have HCX := Lib.hid hcx
  rw [← hcx] at HW3
  have HCL := Lib.hid (show cx.loc.length = 26 from by rw [hcx]; simp only [List.length_append, List.length_replicate]; have := HST.out; rw [nms_len] at this; omega)
  clear hcx HST HFT
  have k7 : w3.cell? ⟨gp, 7, none⟩ = some (.slice A n c) := by rw [HGP.out]; exact H3.out.rec_.cell 7
  have f7 : w3.frozen? ⟨gp, 7, none⟩ = false := by rw [HGP.out]; exact H3.out.rec_.frozen 7
  have hqc : (q : Int) ≤ (c : Int) := by omega
  have HGG := Lib.hid (show g4 ≠ gp from by
    have h1 := HH.out.rec_.lt
    have h2 := HGP.out
    have h3 := HG5.out
    omega)
  go_upto_region 4 with fail
  have HCUT := Lib.hid (show Eg P (w3.setCell ⟨gp, 7, none⟩ (.slice A q c)) (.slice A q c) vc ⟨s.fuel, s.st.take q, s.cs, s.L, s.V, s.qs⟩ ∧ Fe P.K egT W (w3.setCell ⟨gp, 7, none⟩ (.slice A q c)) from by rw [HGP.out]; exact HH.out.cut rfl HN.out hq2 HC3.out)
  have HW4 := Lib.hid (HW3.out.far (p := ⟨gp, 7, none⟩) (by simpa using HGG.out) (.slice A q c))
  generalize w3.setCell ⟨gp, 7, none⟩ (.slice A q c) = w4 at HCUT HW4 ⊢
  have H4 := Lib.hid HCUT.out.1
  have HF4 := Lib.hid HCUT.out.2
  clear k7 f7 H3 HW3 HC3 HCUT
  obtain ⟨A8, n8, c8, rfl, hn8, hc8⟩ := H4.out.cslice
  have k8 : w4.cell? ⟨gp, 8, none⟩ = some (.slice A8 n8 c8) := by rw [HGP.out]; exact H4.out.rec_.cell 8
  have hn8' : n8 ≤ 31 := by rw [hn8]; exact hcs
  have hcs8 : n8 = s.cs.length := hn8
  have HN8 := Lib.hid hcs8
  clear hn8
  obtain ⟨i1, z1, hi1, hz1, hzc1, hs1, hb1⟩ := info_parts2 zero_call
  have hzs1 : z1.cells.size = 28 := by rw [hzc1]; simp [clC_len (show (zc 0).loc.length = 26 from rfl)]
  have hcx : (clC cx).toArray.size = 28 := by simp [clC_len HCL.out]
  have hcx2 : (clC cx).length = 1 * 28 := by simp [clC_len HCL.out]
  have HSC := Lib.hid (show (Try.prog.info? 117).map (·.size) = some (clC cx).toArray.size from by rw [size_call, hcx])
  have hal4 : Chg [] w4 ((w4.alloc (.cells (clC cx).toArray 117)).drew) := ((Chg.refl [] w4).alloc _).drew
  have HOW := Lib.hid (show ((w4.alloc (.cells (clC cx).toArray 117)).drew).ownsRow P.B 117 28 (.slice A8 n8 c8) n8 (clCs s.cs) from by
    have := rown_keep H4.out.cal hal4
    rw [show (⟨s.fuel, s.st.take q, s.cs, s.L, s.V, s.qs⟩ : EgV).cs = s.cs from rfl, ← hcs8] at this
    exact this)
  have HAL4 := Lib.hid hal4
  have HBW := Lib.hid (show P.B ≤ ((w4.alloc (.cells (clC cx).toArray 117)).drew).heap.size from Nat.le_trans H4.out.room hal4.size)
  have HCELL := Lib.hid (cells_new w4.drew (clC cx) 117)
  have HW5 := Lib.hid (HW4.out.keep ((Chg.refl [] w4).drew))
  have HW6 := Lib.hid (HW4.out.keep hal4)
  have HONE := Lib.hid (clC_one cx)
  have HCXL := Lib.hid hcx
  have HCXM := Lib.hid hcx2
  generalize hCX : clC cx = CX at HW4 HW5 HW6 HSC HOW HAL4 HBW HCELL HONE HCXL HCXM
  have HCXX := Lib.hid hCX
  have q8 : ((w4.alloc (.cells CX.toArray 117)).drew).cell? ⟨gp, 8, none⟩ = some (.slice A8 n8 c8) := cell_keep (by simpa using k8) HAL4.out
  clear hal4 hcx hcx2 hCX hzc1 hcs8
  refine wp_region_any (by kernel_rfl) ?_
  change wpAny _ _ _ _ _ _ _ w4.drew
  refine wpAny_take (i := 0) (v := .pointer (some ⟨gp, 0, none⟩)) rfl (by kernel_rfl) (by kernel_rfl) (by kernel_rfl) (fun _ _ _ h => h) (Or.inl ⟨by rfl, fun w => by go_simp⟩) ?_
  refine wpAny_take (i := 1) (v := .pointer (some ⟨gp, 0, none⟩)) rfl (by kernel_rfl) (by kernel_rfl) (by kernel_rfl) (fun _ _ _ h => h) (Or.inl ⟨by rfl, fun w => by go_simp⟩) ?_
  refine wpAny_take (i := 2) (v := .pointer (some ⟨gp, 0, none⟩)) rfl (by kernel_rfl) (by kernel_rfl) (by kernel_rfl) (fun _ _ _ h => h) (Or.inl ⟨by rfl, fun w => by go_simp⟩) ?_
  refine wpAny_take (i := 3) (v := .pointer (some ⟨gp, 8, none⟩)) rfl (by kernel_rfl) (by kernel_rfl) (by kernel_rfl) (fun _ _ _ h => h) (Or.inl ⟨by rfl, fun w => by go_simp⟩) ?_
  refine wpAny_ready (rs := [4, 5]) (by kernel_rfl) (by simp) (AllReady.cons rfl (fun K hK => ?_) (AllReady.cons rfl (fun K hK => ?_) AllReady.nil))
  · go_simp
    refine hK _ _ ?_
    clear hK K
    refine wpAny_ready (rs := [5]) (by kernel_rfl) (by simp) (AllReady.cons rfl (fun K hK => ?_) AllReady.nil)
    refine step_load_row rfl 117 (.tmp 4) rfl g4 rfl 117 CX.toArray (0, 0) _ (by first | exact HW5.out | exact HW4.out) Try.underlying117 rfl HSC.out ?_
    refine hK _ _ ?_
    clear hK K
    refine wpAny_ready (rs := [6]) (by kernel_rfl) (by simp) (AllReady.cons rfl (fun K hK => ?_) AllReady.nil)
    refine step_build_one rfl 87 117 (.tmp 45) rfl CX.toArray rfl 28 Try.underlying87 hi1 hz1 hs1 hzs1 (by decide) (by decide) HCXL.out w4.heap.size rfl ?_
    refine hK _ _ ?_
    clear hK K
    change wpAny _ _ _ _ _ _ _ (w4.alloc (.cells CX.toArray 117)).drew
    refine wpAny_ready (rs := [7]) (by kernel_rfl) (by simp) (AllReady.cons rfl (fun K hK => ?_) AllReady.nil)
    refine step_append_n rfl (.tmp 44) (.tmp 46) 87 rfl P.B 117 i1 _ 28 224 Try.underlying87 hi1 hz1 hs1 hb1 hzs1 (by decide) (.slice A8 n8 c8) n8 (clCs s.cs) rfl HOW.out ⟨w4.heap.size, 0, none⟩ 1 1 CX rfl HCXM.out HCELL.out HONE.out (by unfold maxLen; omega) (by omega) HBW.out ?_
    intro v' w' ho hg
    obtain ⟨A6, k6, rfl, _⟩ := rown_slice ho
    have HO := Lib.hid ho
    have HG := Lib.hid hg
    have HR6 := Lib.hid (show Whole w' gp _ _ from by have := whole_grown (H4.out.keep HAL4.out).rec_ (H4.out.keep HAL4.out).cal (by decide) hg; rw [HGP.out]; exact this)
    have f8 := HR6.out.frozen 8
    have j8 := HR6.out.cell 8
    clear ho hg
    refine hK _ _ ?_
    clear hK K
    refine wpAny_ready (rs := [8]) (by kernel_rfl) (by simp) (AllReady.cons rfl (fun K hK => ?_) AllReady.nil)
    go_simp
    refine hK _ _ ?_
    clear hK K
    refine wpAny_ready (rs := [9]) (by kernel_rfl) (by simp) (AllReady.cons rfl (fun K hK => ?_) AllReady.nil)
    go_simp
    refine hK _ _ ?_
    clear hK K
    refine wpAny_ready (rs := [10]) (by kernel_rfl) (by simp) (AllReady.cons rfl (fun K hK => ?_) AllReady.nil)
    go_simp
    refine hK _ _ ?_
    clear hK K
    refine wpAny_done (by kernel_rfl) ?_ _
    obtain ⟨hP, hF⟩ := H4.out.called HAL4.out HCL.out (by have := HN8.out; show n8 + 1 = s.cs.length + 1; omega) hcs (by have := HO.out; rw [← HCXX.out] at this; exact this) HG.out
    have HPP := Lib.hid (show EgPost P W s' (.tuple #[]) (.returned (.tuple #[])) _ from ⟨rfl, ⟨_, _, by
      rw [HS'.out, ← HAR.out, ← HN.out, ← HQ.out]
      rw [HCX.out] at hP
      exact hP⟩, HF4.out.trans hF⟩)
    rw [← HGP.out] at HPP
    clear hP hF
    go_wp2_with fail
    all_goals go_end0
    all_goals exact HPP.out
  · refine step_load_row rfl 117 (.tmp 4) rfl g4 rfl 117 CX.toArray (0, 0) _ (by first | exact HW5.out | exact HW4.out) Try.underlying117 rfl HSC.out ?_
    refine hK _ _ ?_
    clear hK K
    refine wpAny_ready (rs := [4, 6]) (by kernel_rfl) (by simp) (AllReady.cons rfl (fun K hK => ?_) (AllReady.cons rfl (fun K hK => ?_) AllReady.nil))
    · go_simp
      refine hK _ _ ?_
      clear hK K
      refine wpAny_ready (rs := [6]) (by kernel_rfl) (by simp) (AllReady.cons rfl (fun K hK => ?_) AllReady.nil)
      refine step_build_one rfl 87 117 (.tmp 45) rfl CX.toArray rfl 28 Try.underlying87 hi1 hz1 hs1 hzs1 (by decide) (by decide) HCXL.out w4.heap.size rfl ?_
      refine hK _ _ ?_
      clear hK K
      change wpAny _ _ _ _ _ _ _ (w4.alloc (.cells CX.toArray 117)).drew
      refine wpAny_ready (rs := [7]) (by kernel_rfl) (by simp) (AllReady.cons rfl (fun K hK => ?_) AllReady.nil)
      refine step_append_n rfl (.tmp 44) (.tmp 46) 87 rfl P.B 117 i1 _ 28 224 Try.underlying87 hi1 hz1 hs1 hb1 hzs1 (by decide) (.slice A8 n8 c8) n8 (clCs s.cs) rfl HOW.out ⟨w4.heap.size, 0, none⟩ 1 1 CX rfl HCXM.out HCELL.out HONE.out (by unfold maxLen; omega) (by omega) HBW.out ?_
      intro v' w' ho hg
      obtain ⟨A6, k6, rfl, _⟩ := rown_slice ho
      have HO := Lib.hid ho
      have HG := Lib.hid hg
      have HR6 := Lib.hid (show Whole w' gp _ _ from by have := whole_grown (H4.out.keep HAL4.out).rec_ (H4.out.keep HAL4.out).cal (by decide) hg; rw [HGP.out]; exact this)
      have f8 := HR6.out.frozen 8
      have j8 := HR6.out.cell 8
      clear ho hg
      refine hK _ _ ?_
      clear hK K
      refine wpAny_ready (rs := [8]) (by kernel_rfl) (by simp) (AllReady.cons rfl (fun K hK => ?_) AllReady.nil)
      go_simp
      refine hK _ _ ?_
      clear hK K
      refine wpAny_ready (rs := [9]) (by kernel_rfl) (by simp) (AllReady.cons rfl (fun K hK => ?_) AllReady.nil)
      go_simp
      refine hK _ _ ?_
      clear hK K
      refine wpAny_ready (rs := [10]) (by kernel_rfl) (by simp) (AllReady.cons rfl (fun K hK => ?_) AllReady.nil)
      go_simp
      refine hK _ _ ?_
      clear hK K
      refine wpAny_done (by kernel_rfl) ?_ _
      obtain ⟨hP, hF⟩ := H4.out.called HAL4.out HCL.out (by have := HN8.out; show n8 + 1 = s.cs.length + 1; omega) hcs (by have := HO.out; rw [← HCXX.out] at this; exact this) HG.out
      have HPP := Lib.hid (show EgPost P W s' (.tuple #[]) (.returned (.tuple #[])) _ from ⟨rfl, ⟨_, _, by
        rw [HS'.out, ← HAR.out, ← HN.out, ← HQ.out]
        rw [HCX.out] at hP
        exact hP⟩, HF4.out.trans hF⟩)
      rw [← HGP.out] at HPP
      clear hP hF
      go_wp2_with fail
      all_goals go_end0
      all_goals exact HPP.out
    · refine step_build_one rfl 87 117 (.tmp 45) rfl CX.toArray rfl 28 Try.underlying87 hi1 hz1 hs1 hzs1 (by decide) (by decide) HCXL.out w4.heap.size rfl ?_
      refine hK _ _ ?_
      clear hK K
      change wpAny _ _ _ _ _ _ _ (w4.alloc (.cells CX.toArray 117)).drew
      refine wpAny_ready (rs := [4]) (by kernel_rfl) (by simp) (AllReady.cons rfl (fun K hK => ?_) AllReady.nil)
      go_simp
      refine hK _ _ ?_
      clear hK K
      refine wpAny_ready (rs := [7]) (by kernel_rfl) (by simp) (AllReady.cons rfl (fun K hK => ?_) AllReady.nil)
      refine step_append_n rfl (.tmp 44) (.tmp 46) 87 rfl P.B 117 i1 _ 28 224 Try.underlying87 hi1 hz1 hs1 hb1 hzs1 (by decide) (.slice A8 n8 c8) n8 (clCs s.cs) rfl HOW.out ⟨w4.heap.size, 0, none⟩ 1 1 CX rfl HCXM.out HCELL.out HONE.out (by unfold maxLen; omega) (by omega) HBW.out ?_
      intro v' w' ho hg
      obtain ⟨A6, k6, rfl, _⟩ := rown_slice ho
      have HO := Lib.hid ho
      have HG := Lib.hid hg
      have HR6 := Lib.hid (show Whole w' gp _ _ from by have := whole_grown (H4.out.keep HAL4.out).rec_ (H4.out.keep HAL4.out).cal (by decide) hg; rw [HGP.out]; exact this)
      have f8 := HR6.out.frozen 8
      have j8 := HR6.out.cell 8
      clear ho hg
      refine hK _ _ ?_
      clear hK K
      refine wpAny_ready (rs := [8]) (by kernel_rfl) (by simp) (AllReady.cons rfl (fun K hK => ?_) AllReady.nil)
      go_simp
      refine hK _ _ ?_
      clear hK K
      refine wpAny_ready (rs := [9]) (by kernel_rfl) (by simp) (AllReady.cons rfl (fun K hK => ?_) AllReady.nil)
      go_simp
      refine hK _ _ ?_
      clear hK K
      refine wpAny_ready (rs := [10]) (by kernel_rfl) (by simp) (AllReady.cons rfl (fun K hK => ?_) AllReady.nil)
      go_simp
      refine hK _ _ ?_
      clear hK K
      refine wpAny_done (by kernel_rfl) ?_ _
      obtain ⟨hP, hF⟩ := H4.out.called HAL4.out HCL.out (by have := HN8.out; show n8 + 1 = s.cs.length + 1; omega) hcs (by have := HO.out; rw [← HCXX.out] at this; exact this) HG.out
      have HPP := Lib.hid (show EgPost P W s' (.tuple #[]) (.returned (.tuple #[])) _ from ⟨rfl, ⟨_, _, by
        rw [HS'.out, ← HAR.out, ← HN.out, ← HQ.out]
        rw [HCX.out] at hP
        exact hP⟩, HF4.out.trans hF⟩)
      rw [← HGP.out] at HPP
      clear hP hF
      go_wp2_with fail
      all_goals go_end0
      all_goals exact HPP.out
end
end Go.Proofs.Ytnohfdojcdhfoaa
namespace Go.Proofs.Ytnohfdojcdhfoaa
open Go.RowKit

/-- Do's answer as a result. -/
def DoPost (s a b : Int) (w : World) (e : Ending) (w' : World) : Prop := e = .returned (.tuple #[.int .i64 (doR s a b).1, .int .i64 (doR s a b).2]) ∧ w = w'
theorem do_post {s a b x y : Int} {w : World} (h : doR s a b = (x, y)) : DoPost s a b w (.returned (.tuple #[.int .i64 x, .int .i64 y])) w := by unfold DoPost; rw [h]; exact ⟨rfl, rfl⟩
theorem doR_43 (a b : Int) : doR 43 a b = (wrap64 (a + b), 0) := by simp [doR]
theorem doR_45 (a b : Int) : doR 45 a b = (wrap64 (a - b), 0) := by simp [doR]
theorem doR_42 (a b : Int) : doR 42 a b = (wrap64 (a * b), 0) := by simp [doR]
theorem doR_38 (a b : Int) : doR 38 a b = (bits .and .i64 a b, 0) := by simp [doR]
theorem doR_124 (a b : Int) : doR 124 a b = (bits .or .i64 a b, 0) := by simp [doR]
theorem doR_94 (a b : Int) : doR 94 a b = (bits .xor .i64 a b, 0) := by simp [doR]
theorem doR_60 (a b : Int) : doR 60 a b = (if a < b then 1 else 0, 0) := by simp [doR]
theorem doR_61 (a b : Int) : doR 61 a b = (if a = b then 1 else 0, 0) := by simp [doR]
theorem doR_171 (a b : Int) : doR 171 a b = (wrap64 (a * 2 ^ (b % 64).toNat), 0) := by simp [doR]
theorem doR_187 (a b : Int) : doR 187 a b = (a / 2 ^ (b % 64).toNat, 0) := by simp [doR]
theorem doR_33 (a b : Int) : doR 33 a b = (if a = 0 then 1 else 0, 0) := by simp [doR]
theorem doR_47 (a b : Int) : doR 47 a b = (if b = 0 then (0, 3) else if a = -9223372036854775808 ∧ b = -1 then (0, 4) else (wrap64 (a.tdiv b), 0)) := by simp [doR]
theorem doR_37 (a b : Int) : doR 37 a b = (if b = 0 then (0, 3) else (a.tmod b, 0)) := by simp [doR]
theorem tup2 {x y : Int} {u v : Int} (h : x = u) (k : y = v) : ((x, y) : Int × Int) = (u, v) := by rw [h, k]
section
variable {w : World}

set_option maxHeartbeats 400000 in
theorem truth_any (b : Bool) : Calls Try.prog 123 #[.bool b] w fun e w' => e = .returned (.int .i64 (if b then 1 else 0)) ∧ w = w' := by
  cases b <;>
  · go_enter Try.func123, Try.ntmps123
    go_wp2_with fail
    go_ret
    exact ⟨rfl, rfl⟩
set_option maxHeartbeats 400000 in
theorem do_add (a b : Int) : Calls Try.prog 110 #[.int .i32 43, .int .i64 a, .int .i64 b] w (DoPost 43 a b w) := by
  go_enter Try.func110, Try.ntmps110
  go_wp2_with fail
  go_ret2
  exact do_post (doR_43 a b)
set_option maxHeartbeats 400000 in
theorem do_sub (a b : Int) : Calls Try.prog 110 #[.int .i32 45, .int .i64 a, .int .i64 b] w (DoPost 45 a b w) := by
  go_enter Try.func110, Try.ntmps110
  go_wp2_with fail
  go_ret2
  exact do_post (doR_45 a b)
set_option maxHeartbeats 400000 in
theorem do_mul (a b : Int) : Calls Try.prog 110 #[.int .i32 42, .int .i64 a, .int .i64 b] w (DoPost 42 a b w) := by
  go_enter Try.func110, Try.ntmps110
  go_wp2_with fail
  go_ret2
  exact do_post (doR_42 a b)
set_option maxHeartbeats 400000 in
theorem do_and (a b : Int) : Calls Try.prog 110 #[.int .i32 38, .int .i64 a, .int .i64 b] w (DoPost 38 a b w) := by
  go_enter Try.func110, Try.ntmps110
  go_wp2_with fail
  go_ret2
  exact do_post (doR_38 a b)
set_option maxHeartbeats 400000 in
theorem do_or (a b : Int) : Calls Try.prog 110 #[.int .i32 124, .int .i64 a, .int .i64 b] w (DoPost 124 a b w) := by
  go_enter Try.func110, Try.ntmps110
  go_wp2_with fail
  go_ret2
  exact do_post (doR_124 a b)
set_option maxHeartbeats 400000 in
theorem do_xor (a b : Int) : Calls Try.prog 110 #[.int .i32 94, .int .i64 a, .int .i64 b] w (DoPost 94 a b w) := by
  go_enter Try.func110, Try.ntmps110
  go_wp2_with fail
  go_ret2
  exact do_post (doR_94 a b)
set_option maxHeartbeats 400000 in
theorem do_lt (a b : Int) : Calls Try.prog 110 #[.int .i32 60, .int .i64 a, .int .i64 b] w (DoPost 60 a b w) := by
  have HR := Lib.hid (doR_60 a b)
  by_cases h : a < b
  · have HH := Lib.hid h
    have hd : decide (a < b) = true := by simpa using h
    clear h
    go_enter Try.func110, Try.ntmps110
    go_wp2_with (go_at_call 123; refine (truth_any _).mono ?_; rintro e w' ⟨rfl, rfl⟩)
    go_ret2
    exact do_post (by rw [HR.out]; exact tup2 (by simp [HH.out]) rfl)
  · have HH := Lib.hid h
    have hd : decide (a < b) = false := by simpa using h
    clear h
    go_enter Try.func110, Try.ntmps110
    go_wp2_with (go_at_call 123; refine (truth_any _).mono ?_; rintro e w' ⟨rfl, rfl⟩)
    go_ret2
    exact do_post (by rw [HR.out]; exact tup2 (by simp [HH.out]) rfl)
set_option maxHeartbeats 400000 in
theorem do_eq (a b : Int) : Calls Try.prog 110 #[.int .i32 61, .int .i64 a, .int .i64 b] w (DoPost 61 a b w) := by
  have HR := Lib.hid (doR_61 a b)
  by_cases h : a = b
  · have HH := Lib.hid h
    have hd : (a == b) = true := by simpa using h
    clear h
    go_enter Try.func110, Try.ntmps110
    go_wp2_with (go_at_call 123; refine (truth_any _).mono ?_; rintro e w' ⟨rfl, rfl⟩)
    go_ret2
    exact do_post (by rw [HR.out]; exact tup2 (by simp [HH.out]) rfl)
  · have HH := Lib.hid h
    have hd : (a == b) = false := by simpa using h
    clear h
    go_enter Try.func110, Try.ntmps110
    go_wp2_with (go_at_call 123; refine (truth_any _).mono ?_; rintro e w' ⟨rfl, rfl⟩)
    go_ret2
    exact do_post (by rw [HR.out]; exact tup2 (by simp [HH.out]) rfl)
set_option maxHeartbeats 400000 in
theorem do_not (a b : Int) : Calls Try.prog 110 #[.int .i32 33, .int .i64 a, .int .i64 b] w (DoPost 33 a b w) := by
  have HR := Lib.hid (doR_33 a b)
  by_cases h : a = 0
  · have HH := Lib.hid h
    have hd : (a == 0) = true := by simpa using h
    clear h
    go_enter Try.func110, Try.ntmps110
    go_wp2_with (go_at_call 123; refine (truth_any _).mono ?_; rintro e w' ⟨rfl, rfl⟩)
    go_ret2
    exact do_post (by rw [HR.out]; exact tup2 (by simp [HH.out]) rfl)
  · have HH := Lib.hid h
    have hd : (a == 0) = false := by simpa using h
    clear h
    go_enter Try.func110, Try.ntmps110
    go_wp2_with (go_at_call 123; refine (truth_any _).mono ?_; rintro e w' ⟨rfl, rfl⟩)
    go_ret2
    exact do_post (by rw [HR.out]; exact tup2 (by simp [HH.out]) rfl)
set_option maxHeartbeats 400000 in
theorem do_shl (a b : Int) : Calls Try.prog 110 #[.int .i32 171, .int .i64 a, .int .i64 b] w (DoPost 171 a b w) := by
  have H6 := i64_and63 b
  have h0 : 0 ≤ b % 64 := by omega
  have h1 : b % 64 ≤ 64 := by omega
  go_enter Try.func110, Try.ntmps110
  go_wp2_with fail
  go_ret2
  exact do_post (doR_171 a b)
set_option maxHeartbeats 400000 in
theorem do_shr (a b : Int) : Calls Try.prog 110 #[.int .i32 187, .int .i64 a, .int .i64 b] w (DoPost 187 a b w) := by
  have H6 := i64_and63 b
  have h0 : 0 ≤ b % 64 := by omega
  have h1 : b % 64 ≤ 64 := by omega
  go_enter Try.func110, Try.ntmps110
  go_wp2_with fail
  go_ret2
  exact do_post (doR_187 a b)
end
end Go.Proofs.Ytnohfdojcdhfoaa
namespace Go.Proofs.Ytnohfdojcdhfoaa
open Go.RowKit
section
variable {w : World}
set_option maxHeartbeats 400000 in
theorem part_any (s a b : Int) (hs : s = 47 ∨ s = 37) : Calls Try.prog 122 #[.int .i32 s, .int .i64 a, .int .i64 b] w (DoPost s a b w) := by
  by_cases hb : b = 0
  · subst hb
    have HR : Hid (doR s a 0 = (0, 3)) := Lib.hid (by rcases hs with rfl | rfl; (rw [doR_47]; rfl); (rw [doR_37]; rfl))
    clear hs
    go_enter Try.func122, Try.ntmps122
    go_wp2_with fail
    go_ret2
    exact do_post HR.out
  have HB := Lib.hid hb
  have hb0 : (b == 0) = false := by simpa using hb
  clear hb
  rcases hs with rfl | rfl
  · by_cases ha : a = -9223372036854775808
    · subst ha
      by_cases h1 : b = -1
      · subst h1
        have HR : Hid (doR 47 (-9223372036854775808) (-1) = (0, 4)) := Lib.hid (by rw [doR_47]; rfl)
        go_enter Try.func122, Try.ntmps122
        go_wp2_with fail
        go_ret2
        exact do_post HR.out
      · have HR : Hid (doR 47 (-9223372036854775808) b = (wrap64 ((-9223372036854775808 : Int).tdiv b), 0)) := Lib.hid (by rw [doR_47, if_neg HB.out, if_neg (fun h => h1 h.2)])
        have hb1 : (b == -1) = false := by simpa using h1
        clear h1
        go_enter Try.func122, Try.ntmps122
        go_wp2_with fail
        go_ret2
        exact do_post (by rw [HR.out, Int.neg_tdiv])
    · have HR : Hid (doR 47 a b = (wrap64 (a.tdiv b), 0)) := Lib.hid (by rw [doR_47, if_neg HB.out, if_neg (fun h => ha h.1)])
      have ha1 : (a == -9223372036854775808) = false := by simpa using ha
      clear ha
      go_enter Try.func122, Try.ntmps122
      go_wp2_with fail
      go_ret2
      exact do_post HR.out
  · have HR : Hid (doR 37 a b = (a.tmod b, 0)) := Lib.hid (by rw [doR_37, if_neg HB.out])
    go_enter Try.func122, Try.ntmps122
    go_wp2_with fail
    go_ret2
    exact do_post HR.out
set_option maxHeartbeats 400000 in
theorem do_div (s a b : Int) (hs : s = 47 ∨ s = 37) : Calls Try.prog 110 #[.int .i32 s, .int .i64 a, .int .i64 b] w (DoPost s a b w) := by
  rcases hs with rfl | rfl
  · go_enter Try.func110, Try.ntmps110
    go_wp2_with (go_at_call 122; refine (part_any 47 a b (.inl rfl)).mono ?_; rintro e w' ⟨rfl, rfl⟩)
    go_ret2
    exact ⟨rfl, rfl⟩
  · go_enter Try.func110, Try.ntmps110
    go_wp2_with (go_at_call 122; refine (part_any 37 a b (.inr rfl)).mono ?_; rintro e w' ⟨rfl, rfl⟩)
    go_ret2
    exact ⟨rfl, rfl⟩
theorem beq_f {a b : Int} (h : a ≠ b) : (a == b) = false := by simpa using h
/-- A sign that is none. -/
def NoSign (s : Int) : Prop := s ≠ 43 ∧ s ≠ 45 ∧ s ≠ 42 ∧ s ≠ 47 ∧ s ≠ 37 ∧ s ≠ 38 ∧ s ≠ 124 ∧ s ≠ 94 ∧ s ≠ 60 ∧ s ≠ 61 ∧ s ≠ 171 ∧ s ≠ 187 ∧ s ≠ 33
set_option maxHeartbeats 400000 in
theorem do_none (s a b : Int) (hs : NoSign s) : Calls Try.prog 110 #[.int .i32 s, .int .i64 a, .int .i64 b] w (DoPost s a b w) := by
  have HR := Lib.hid (doR_none a b hs)
  obtain ⟨h1, h2, h3, h4, h5, h6, h7, h8, h9, h10, h11, h12, h13⟩ := hs
  have k1 := beq_f h1; have k2 := beq_f h2; have k3 := beq_f h3; have k4 := beq_f h4; have k5 := beq_f h5; have k6 := beq_f h6; have k7 := beq_f h7
  have k8 := beq_f h8; have k9 := beq_f h9; have k10 := beq_f h10; have k11 := beq_f h11; have k12 := beq_f h12; have k13 := beq_f h13
  clear h1 h2 h3 h4 h5 h6 h7 h8 h9 h10 h11 h12 h13
  go_enter Try.func110, Try.ntmps110
  go_wp2_with fail
  go_ret2
  exact do_post HR.out
theorem do_any (s a b : Int) : Calls Try.prog 110 #[.int .i32 s, .int .i64 a, .int .i64 b] w (DoPost s a b w) := by
  by_cases h1 : s = 43; · subst h1; exact do_add a b
  by_cases h2 : s = 45; · subst h2; exact do_sub a b
  by_cases h3 : s = 42; · subst h3; exact do_mul a b
  by_cases h4 : s = 47; · exact do_div s a b (.inl h4)
  by_cases h5 : s = 37; · exact do_div s a b (.inr h5)
  by_cases h6 : s = 38; · subst h6; exact do_and a b
  by_cases h7 : s = 124; · subst h7; exact do_or a b
  by_cases h8 : s = 94; · subst h8; exact do_xor a b
  by_cases h9 : s = 60; · subst h9; exact do_lt a b
  by_cases h10 : s = 61; · subst h10; exact do_eq a b
  by_cases h11 : s = 171; · subst h11; exact do_shl a b
  by_cases h12 : s = 187; · subst h12; exact do_shr a b
  by_cases h13 : s = 33; · subst h13; exact do_not a b
  exact do_none s a b ⟨h1, h2, h3, h4, h5, h6, h7, h8, h9, h10, h11, h12, h13⟩
end
end Go.Proofs.Ytnohfdojcdhfoaa
namespace Go.Proofs.Ytnohfdojcdhfoaa
open Go.RowKit
theorem pop_cs {s s1 : EgV} {x : Int} (h : s.pop = some (x, s1)) : s1.cs = s.cs := by
  unfold EgV.pop at h
  split at h
  · cases h
  · injection h with h; injection h with _ h; subst h; rfl
theorem jump_cs {s s1 : EgV} {v : Int} (h : s.jump v = some s1) : s1.cs.length = s.cs.length := by
  unfold EgV.jump at h
  split at h
  · cases h
  · rename_i c hc
    split at h
    · cases h
    · injection h with h
      subst h
      have : 0 < s.cs.length := List.length_pos_iff.2 (fun e => by rw [e] at hc; simp at hc)
      simp [EgV.calls]
      omega
theorem call_cs {cd : List CodeV} {k : Nat} {s s1 : EgV} (h : eCall cd k s = some s1) : s1.cs.length = s.cs.length + 1 := by
  unfold eCall at h
  split at h
  · cases h
  · split at h
    · cases h
    · injection h with h
      subst h
      simp
theorem mem_cs {most : Nat} {sg tr : Int} {s s1 : EgV} (h : eMem most sg s = some (tr, s1)) : s1.cs = s.cs := by
  unfold eMem at h
  split at h
  · injection h with h; injection h with _ h; subst h; rfl
  · split at h
    · cases h
    · rename_i x s2 hp
      have e := pop_cs hp
      split at h
      · split at h <;> (injection h with h; injection h with _ h; subst h; exact e)
      · split at h
        · split at h <;> (injection h with h; injection h with _ h; subst h; exact e)
        · split at h
          · cases h
          · rename_i k s3 hp3
            have e3 := pop_cs hp3
            by_cases hc : 0 ≤ k ∧ k + (if sg = 36 then 8 else 1) ≤ (s3.L.length : Int)
            · rw [if_pos hc] at h
              injection h with h; injection h with _ h; subst h; exact e3.trans e
            · rw [if_neg hc] at h
              injection h with h; injection h with _ h; subst h; exact e3.trans e
end Go.Proofs.Ytnohfdojcdhfoaa
namespace Go.Proofs.Ytnohfdojcdhfoaa
open Go.RowKit
def EgPostC (P : EP) (W : World) (vc : Value) (s' : EgV) (r : Value) (e : Ending) (w' : World) : Prop := e = .returned r ∧ (∃ vs', Eg P w' vs' vc s') ∧ Fe P.K egT W w'
section
variable {P : EP} {W W' : World} {vs vc : Value} {s : EgV}
set_option maxHeartbeats 4000000 in
set_option maxRecDepth 100000 in
theorem epop_c {x : Int} {s' : EgV} (h : Eg P W vs vc s) (hp : s.pop = some (x, s')) : Calls Try.prog 53 #[.pointer (some ⟨P.g, 0, none⟩)] W (EgPostC P W vc s' (.int .i64 x)) := by
  obtain ⟨st, hst, rfl⟩ := pop_some hp
  obtain ⟨gs, c, rfl, hc, hx⟩ := h.top hst
  have k7 : W.cell? ⟨P.g, 7, none⟩ = some (.slice (some ⟨gs, 0, none⟩) (st.length + 1) c) := h.rec_.cell 7
  have f7 := h.rec_.frozen 7
  have hb := h.stkb
  have hl : s.st.length = st.length + 1 := by rw [hst]; simp
  have HQ := Lib.hid (h.popped rfl (Chg.refl [] W) hst)
  have HQ2 := Lib.hid (h.popped rfl ((Chg.refl [] W).drew) hst)
  obtain ⟨n, hn⟩ : ∃ n, n = st.length := ⟨_, rfl⟩
  rw [← hn] at HQ HQ2 k7 hx hc hl
  have hn9 : n ≤ 3000000 := by omega
  generalize P.g = g at k7 f7 HQ HQ2 ⊢
  clear h hp hst hn hb
  have hsub : IntKind.i64.wrap (((n + 1 : Nat) : Int) - 1) = (n : Int) := by rw [IntWalk.i64_in _ (by omega)]; omega
  have hq0 : (0 : Int) ≤ (n : Int) := by omega
  have hq1 : (n : Int) < ((n + 1 : Nat) : Int) := by omega
  have hq2 : (n : Int) ≤ (c : Int) := by omega
  go_enter Try.func53, Try.ntmps53
  go_wp2_with fail
  go_ret
  exact ⟨rfl, ⟨_, HQ.out.1⟩, HQ.out.2⟩
set_option maxHeartbeats 4000000 in
set_option maxRecDepth 100000 in
theorem enter_deep (h : Eg P W vs vc s) (hd : 32 ≤ s.cs.length) (f : Int) : Calls Try.prog 88 #[.pointer (some ⟨P.g, 0, none⟩), .int .i64 f] W (EgPost P W s (.int .i64 6)) := by
  obtain ⟨A8, n8, c8, rfl, hn8, _⟩ := h.cslice
  have k8 : W.cell? ⟨P.g, 8, none⟩ = some (.slice A8 n8 c8) := h.rec_.cell 8
  have HP := Lib.hid (EgPost.of_chg (r := .int .i64 6) h (Chg.refl [] W))
  have hd8 : (32 : Int) ≤ (n8 : Int) := by omega
  generalize P.g = gp at *
  clear h hn8 hd
  go_enter Try.func88, Try.ntmps88
  go_wp2_with fail
  go_ret
  exact HP.out
set_option maxHeartbeats 4000000 in
set_option maxRecDepth 100000 in
theorem enter_go {k : Nat} {s' : EgV} (h : Eg P W vs vc s) (hc : eCall P.cd k s = some s') (hcs : s.cs.length ≤ 31) : Calls Try.prog 88 #[.pointer (some ⟨P.g, 0, none⟩), .int .i64 (k : Int)] W (EgPost P W s' (.int .i64 0)) := by
  obtain ⟨A8, n8, c8, rfl, hn8, _⟩ := h.cslice
  have k8 : W.cell? ⟨P.g, 8, none⟩ = some (.slice A8 n8 c8) := h.rec_.cell 8
  have HC := Lib.hid (ecall_any h hc hcs)
  have hd8 : (n8 : Int) < 32 := by omega
  generalize P.g = gp at *
  clear h hn8 hc
  go_enter Try.func88, Try.ntmps88
  go_wp2_with fail
  refine HC.out.mono ?_
  rintro e w1 ⟨rfl, h1, hf1⟩
  have HP := Lib.hid (show EgPost P W s' (.int .i64 0) (.returned (.int .i64 0)) w1 from ⟨rfl, h1, hf1⟩)
  clear h1 hf1
  go_wp2_with fail
  go_ret
  exact HP.out
set_option maxHeartbeats 4000000 in
set_option maxRecDepth 100000 in
theorem reck_low {sg : Int} {tr : Int} {s' : EgV} (h : Eg P W vs vc s) (hs : 97 ≤ sg ∧ sg ≤ 122) (hr : eReckon sg s = some (tr, s')) (hroom : s.st.length + s.fuel ≤ 2999999) : Calls Try.prog 90 #[.pointer (some ⟨P.g, 0, none⟩), .int .i32 sg] W (EgPost P W s' (.int .i64 tr)) := by
  unfold eReckon at hr
  rw [if_pos hs] at hr
  cases hl : s.cs.getLast? with
  | none => rw [hl] at hr; cases hr
  | some c =>
    rw [hl] at hr
    simp only at hr
    cases hx : c.loc[(sg - 97).toNat]? with
    | none => rw [hx] at hr; cases hr
    | some x =>
      rw [hx] at hr
      simp only at hr
      injection hr with hr
      injection hr with hr1 hr2
      subst hr1
      subst hr2
      obtain ⟨i, hi⟩ : ∃ i : Nat, i = (sg - 97).toNat := ⟨_, rfl⟩
      rw [← hi] at hx
      have hiI : sg - 97 = (i : Int) := by omega
      have hi26 : i ≤ 25 := by omega
      obtain ⟨ys, hcs, hdl⟩ := last_some hl
      obtain ⟨g, cap, hv, hcap, hk, hlen, hcell, hfro⟩ := h.cur hcs
      have HNOW := Lib.hid (now_any h hv hk)
      have n1 : W.cell? ⟨g, ys.length * 28 + 2 + i, none⟩ = some (.int .i64 x) := by rw [Nat.add_assoc]; exact hcell (2 + i) _ (clC_get c i x hx)
      have HPUSH := Lib.hid (fun (W1 : World) (hc : Chg [] W W1) => push_any (h.keep hc) x hroom)
      have hsub : IntKind.i32.wrap (sg - 97) = (i : Int) := by rw [hiI]; exact IntWalk.i32_in _ (by omega)
      have hd1 : decide (97 ≤ sg) = true := by simpa using hs.1
      have hd2 : decide (sg ≤ 122) = true := by simpa using hs.2
      have hi0 : (0 : Int) ≤ (i : Int) := by omega
      have hi1 : (i : Int) < 26 := by omega
      generalize ys.length = k at *
      generalize P.g = gp at *
      clear h hl hcs hv hcell hfro hx hi hdl
      go_enter Try.func90, Try.ntmps90
      go_wp2_with fail
      refine HNOW.out.mono ?_
      rintro e w1 ⟨rfl, hc1⟩
      have m1 := cell_keep n1 hc1
      have HPU := Lib.hid (HPUSH.out w1 hc1)
      have HC1 := Lib.hid hc1
      clear hc1
      go_wp2_with fail
      refine HPU.out.mono ?_
      rintro e w2 ⟨rfl, h2, hf2⟩
      have HP := Lib.hid (show EgPost P W (s.push x) (.int .i64 0) (.returned (.int .i64 0)) w2 from ⟨rfl, h2, (Fe.of_chg HC1.out).trans hf2⟩)
      clear h2 hf2
      go_wp2_with fail
      go_ret
      exact HP.out
theorem Eg.cellC (h : Eg P W vs vc s) {ys : List CallV} {c : CallV} (hcs : s.cs = ys ++ [c]) {g n cap : Nat} (hv : vc = .slice (some ⟨g, 0, none⟩) n cap) (i : Nat) (hi : i < c.loc.length) : (∃ y, W.cell? ⟨g, ys.length * 28 + (2 + i), none⟩ = some (.int .i64 y)) ∧ W.frozen? ⟨g, ys.length * 28 + (2 + i), none⟩ = false := by
  obtain ⟨g', cap', hv', _, _, _, hcell, hfro⟩ := h.cur hcs
  rw [hv] at hv'
  injection hv' with e _ _; injection e with e; injection e with e
  subst e
  exact ⟨⟨c.loc[i], hcell (2 + i) _ (clC_get c i _ (List.getElem?_eq_getElem hi))⟩, hfro _⟩
set_option maxHeartbeats 8000000 in
set_option maxRecDepth 100000 in
theorem reck_up {sg : Int} {tr : Int} {s' : EgV} (h : Eg P W vs vc s) (hs : 65 ≤ sg ∧ sg ≤ 90) (hr : eReckon sg s = some (tr, s')) : Calls Try.prog 90 #[.pointer (some ⟨P.g, 0, none⟩), .int .i32 sg] W (EgPost P W s' (.int .i64 tr)) := by
  unfold eReckon at hr
  rw [if_neg (by omega), if_pos hs] at hr
  cases hp : s.pop with
  | none => rw [hp] at hr; cases hr
  | some q =>
    obtain ⟨x, s1⟩ := q
    rw [hp] at hr
    simp only at hr
    cases hl : s1.cs.getLast? with
    | none => rw [hl] at hr; cases hr
    | some c =>
      rw [hl] at hr
      simp only at hr
      injection hr with hr
      injection hr with hr1 hr2
      subst hr1
      obtain ⟨i, hi⟩ : ∃ i : Nat, i = (sg - 65).toNat := ⟨_, rfl⟩
      rw [← hi] at hr2
      have hiI : sg - 65 = (i : Int) := by omega
      have hi26 : i ≤ 25 := by omega
      obtain ⟨ys, hcs1, hdl⟩ := last_some hl
      rw [hdl] at hr2
      have hcs : s.cs = ys ++ [c] := by rw [← pop_cs hp]; exact hcs1
      obtain ⟨g, cap, hv, hcap, hk, hlen, hcell, hfro⟩ := h.cur hcs
      have HNOW := Lib.hid (fun (W1 : World) (hc : Chg [] W W1) => now_any (h.keep hc) hv hk)
      have HPOP := Lib.hid (fun (W1 : World) (hc : Chg [] W W1) => epop_c (h.keep hc) hp)
      have HCS := Lib.hid hcs1
      have HS' := Lib.hid hr2
      have HLEN := Lib.hid hlen
      have hsub : IntKind.i32.wrap (sg - 65) = (i : Int) := by rw [hiI]; exact IntWalk.i32_in _ (by omega)
      have hd0 : decide (97 ≤ sg) = false := by simp; omega
      have hd1 : decide (65 ≤ sg) = true := by simpa using hs.1
      have hd2 : decide (sg ≤ 90) = true := by simpa using hs.2
      have hi0 : (0 : Int) ≤ (i : Int) := by omega
      have hi1 : (i : Int) < 26 := by omega
      have hwi : IntKind.i32.wrap (i : Int) = (i : Int) := IntWalk.i32_in _ (by omega)
      obtain ⟨k, hkk⟩ : ∃ k, k = ys.length := ⟨_, rfl⟩
      rw [← hkk] at HNOW
      have HK := Lib.hid hkk
      have HV := Lib.hid hv
      obtain ⟨gp, hgp⟩ : ∃ gp, gp = P.g := ⟨_, rfl⟩
      have HGP := Lib.hid hgp
      rw [← hgp] at HNOW HPOP ⊢
      clear h hl hcs hcs1 hv hcell hfro hi hdl hp hr2 hkk hgp hlen
      go_enter Try.func90, Try.ntmps90
      go_wp2_with fail
      go_region_with (first
        | (go_at_call 71
           refine (HNOW.out _ ((Chg.refl [] W).drew)).mono ?_
           rintro e w1 ⟨rfl, hc1⟩
           have HC1 := Lib.hid (((Chg.refl [] W).drew).new hc1)
           clear hc1)
        | (go_at_call 53
           refine (HPOP.out w1 HC1.out).mono ?_
           rintro e w2 ⟨rfl, ⟨vs2, h2⟩, hf2⟩
           have HSET := Lib.hid (h2.callset HCS.out HV.out (Chg.refl [] w2) (j := 2 + i) (.int .i64 x) (clC_local c i x) (by rw [List.length_set]; exact HLEN.out))
           have HF2 := Lib.hid ((Fe.of_chg HC1.out).trans hf2)
           rw [← HK.out, ← Nat.add_assoc] at HSET
           obtain ⟨⟨y2, m2⟩, fm2⟩ := h2.cellC HCS.out HV.out i (by have := HLEN.out; omega)
           rw [← HK.out, ← Nat.add_assoc] at m2 fm2
           clear h2 hf2))
      all_goals
        have HP := Lib.hid (show EgPost P W s' (.int .i64 0) (.returned (.int .i64 0)) _ from ⟨rfl, ⟨_, _, by rw [← HS'.out]; exact HSET.out.1⟩, HF2.out.trans HSET.out.2⟩)
        go_wp2_with fail
        go_ret
        exact HP.out
end
end Go.Proofs.Ytnohfdojcdhfoaa
namespace Go.Proofs.Ytnohfdojcdhfoaa
open Go.RowKit
section
variable {P : EP} {W W' : World} {vs vc : Value} {s : EgV}
set_option maxHeartbeats 8000000 in
set_option maxRecDepth 100000 in
theorem reck_word {sg : Int} {tr : Int} {s' : EgV} (h : Eg P W vs vc s) (h1 : ¬ (97 ≤ sg ∧ sg ≤ 122)) (h2 : ¬ (65 ≤ sg ∧ sg ≤ 90)) (hr : eReckon sg s = some (tr, s')) : Calls Try.prog 90 #[.pointer (some ⟨P.g, 0, none⟩), .int .i32 sg] W (EgPost P W s' (.int .i64 tr)) := by
  unfold eReckon at hr
  rw [if_neg h1, if_neg h2] at hr
  have fin : ∀ (b : Int) (s1 : EgV) (w1 : World) (vs1 vc1 : Value), Eg P w1 vs1 vc1 s1 → Fe P.K egT W w1 → ∀ (a : Int) (s2 : EgV), s1.pop = some (a, s2) → tr = (doR sg a b).2 → s' = (if (doR sg a b).2 = 0 then s2.push (doR sg a b).1 else s2) →
      Hid (Calls Try.prog 53 #[.pointer (some ⟨P.g, 0, none⟩)] w1 (fun e w2 => e = .returned (.int .i64 a) ∧ Hid (Fe P.K egT W w2) ∧ Hid (∃ vs2 vc2, Eg P w2 vs2 vc2 s2))) := by
    intro b s1 w1 vs1 vc1 k1 kf a s2 hp _ _
    refine Lib.hid ((epop_any k1 hp).mono ?_)
    rintro e w2 ⟨he, hv, hf⟩
    exact ⟨he, Lib.hid (kf.trans hf), Lib.hid hv⟩
  have hpush : ∀ (a b : Int) (s2 : EgV) (w2 : World), (∃ vs2 vc2, Eg P w2 vs2 vc2 s2) → Fe P.K egT W w2 → s2.st.length + s2.fuel ≤ 2999999 → (doR sg a b).2 = 0 → tr = (doR sg a b).2 → s' = (if (doR sg a b).2 = 0 then s2.push (doR sg a b).1 else s2) →
      Hid (Calls Try.prog 85 #[.pointer (some ⟨P.g, 0, none⟩), .int .i64 (doR sg a b).1] w2 (fun e w3 => e = .returned (.tuple #[]) ∧ Hid (EgPost P W s' (.int .i64 tr) (.returned (.int .i64 0)) w3))) := by
    intro a b s2 w2 ⟨vs2, vc2, k2⟩ kf hroom h0 htr hs
    refine Lib.hid ((push_any k2 _ hroom).mono ?_)
    rintro e w3 ⟨he, hv, hf⟩
    refine ⟨he, Lib.hid ?_⟩
    rw [if_pos h0] at hs
    subst hs
    rw [htr, h0]
    exact ⟨rfl, hv, kf.trans hf⟩
  have hstop : ∀ (a b : Int) (s2 : EgV) (w2 : World), (∃ vs2 vc2, Eg P w2 vs2 vc2 s2) → Fe P.K egT W w2 → (doR sg a b).2 ≠ 0 → tr = (doR sg a b).2 → s' = (if (doR sg a b).2 = 0 then s2.push (doR sg a b).1 else s2) →
      Hid (EgPost P W s' (.int .i64 tr) (.returned (.int .i64 (doR sg a b).2)) w2) := by
    intro a b s2 w2 hv kf h0 htr hs
    rw [if_neg h0] at hs
    subst hs
    subst htr
    exact Lib.hid ⟨rfl, hv, kf⟩
  have stl : ∀ {x : Int} {t t' : EgV}, t.pop = some (x, t') → t'.st.length + t'.fuel + 1 = t.st.length + t.fuel := by
    intro x t t' hp
    obtain ⟨st, e1, e2⟩ := pop_some hp
    subst e2
    rw [e1]
    simp
    omega
  have FIN := Lib.hid fin
  have HPU := Lib.hid hpush
  have HSTOP := Lib.hid hstop
  have hsb := h.stkb
  by_cases h33 : sg = 33
  · subst h33
    rw [if_pos rfl] at hr
    simp only at hr
    cases hp : s.pop with
    | none => rw [hp] at hr; cases hr
    | some q =>
      obtain ⟨a, s2⟩ := q
      rw [hp] at hr
      simp only at hr
      injection hr with hr
      injection hr with hr1 hr2
      have HR1 := Lib.hid hr1.symm
      have HR2 := Lib.hid hr2.symm
      have hst2 : s2.st.length + s2.fuel ≤ 2999999 := by have := stl hp; omega
      have HPOP := FIN.out 0 s W _ _ h (Fe.refl _ _ _) a s2 hp hr1.symm hr2.symm
      obtain ⟨D, hD⟩ : ∃ D, D = doR 33 a 0 := ⟨_, rfl⟩
      have HD := Lib.hid hD
      have HDO := Lib.hid (fun w => do_any (w := w) 33 a 0)
      unfold DoPost at HDO
      rw [← hD] at HDO
      generalize P.g = gp at *
      clear h hp hr1 hr2 fin hpush hstop hD h1 h2
      go_enter Try.func90, Try.ntmps90
      go_wp2_with fail
      refine HPOP.out.mono ?_
      rintro e w2 ⟨rfl, HF2, HV2⟩
      go_wp2_with fail
      refine (HDO.out _).mono ?_
      rintro e w3 ⟨rfl, rfl⟩
      by_cases h0 : D.2 = 0
      · have hz : (D.2 == 0) = true := by simpa using h0
        have HPX := HPU.out a 0 s2 w2 HV2.out HF2.out hst2 (by rw [← HD.out]; exact h0) HR1.out HR2.out
        rw [← HD.out] at HPX
        have HZ := Lib.hid h0
        rw [h0]
        clear h0 hz
        go_wp2_with fail
        refine HPX.out.mono ?_
        rintro e w4 ⟨rfl, HP⟩
        go_wp2_with fail
        go_ret
        exact HP.out
      · have hz : (D.2 == 0) = false := by simpa using h0
        have HP := HSTOP.out a 0 s2 w2 HV2.out HF2.out (by rw [← HD.out]; exact h0) HR1.out HR2.out
        rw [← HD.out] at HP
        generalize D.2 = d2' at *
        clear h0
        go_wp2_with fail
        go_ret
        exact HP.out
  · rw [if_neg h33] at hr
    cases hq : s.pop with
    | none => rw [hq] at hr; cases hr
    | some q =>
    obtain ⟨b, s1⟩ := q
    rw [hq] at hr
    simp only at hr
    cases hp : s1.pop with
    | none => rw [hp] at hr; cases hr
    | some q =>
      obtain ⟨a, s2⟩ := q
      rw [hp] at hr
      simp only at hr
      injection hr with hr
      injection hr with hr1 hr2
      have HR1 := Lib.hid hr1.symm
      have HR2 := Lib.hid hr2.symm
      have hst2 : s2.st.length + s2.fuel ≤ 2999999 := by have := stl hp; have := stl hq; omega
      have HPOP1 := Lib.hid (epop_any h hq)
      have HPOP := Lib.hid (fun w1 vs1 vc1 k1 kf => FIN.out b s1 w1 vs1 vc1 k1 kf a s2 hp hr1.symm hr2.symm)
      obtain ⟨D, hD⟩ : ∃ D, D = doR sg a b := ⟨_, rfl⟩
      have HD := Lib.hid hD
      have HDO := Lib.hid (fun w => do_any (w := w) sg a b)
      unfold DoPost at HDO
      rw [← hD] at HDO
      have hb33 : (sg != 33) = true := by simpa using h33
      generalize P.g = gp at *
      have hk : (decide (97 ≤ sg) = false ∧ decide (sg ≤ 122) = true ∧ decide (65 ≤ sg) = false ∧ decide (sg ≤ 90) = true) ∨ (decide (97 ≤ sg) = false ∧ decide (sg ≤ 122) = true ∧ decide (65 ≤ sg) = true ∧ decide (sg ≤ 90) = false) ∨ (decide (97 ≤ sg) = true ∧ decide (sg ≤ 122) = false ∧ decide (65 ≤ sg) = true ∧ decide (sg ≤ 90) = false) := by
        simp only [decide_eq_true_eq, decide_eq_false_iff_not]
        omega
      clear h hp hq hr1 hr2 fin hpush hstop hD h1 h2 h33
      rcases hk with ⟨k1, k2, k3, k4⟩ | ⟨k1, k2, k3, k4⟩ | ⟨k1, k2, k3, k4⟩ <;>
      · go_enter Try.func90, Try.ntmps90
        go_wp2_with fail
        refine HPOP1.out.mono ?_
        rintro e w1 ⟨rfl, ⟨vs1, vc1, kk⟩, kf⟩
        have HPP := HPOP.out w1 vs1 vc1 kk kf
        clear kk kf
        go_wp2_with fail
        refine HPP.out.mono ?_
        rintro e w2 ⟨rfl, HF2, HV2⟩
        go_wp2_with fail
        refine (HDO.out _).mono ?_
        rintro e w3 ⟨rfl, rfl⟩
        by_cases h0 : D.2 = 0
        · have hz : (D.2 == 0) = true := by simpa using h0
          have HPX := HPU.out a b s2 w2 HV2.out HF2.out hst2 (by rw [← HD.out]; exact h0) HR1.out HR2.out
          rw [← HD.out] at HPX
          have HZ := Lib.hid h0
          rw [h0]
          clear h0 hz
          go_wp2_with fail
          refine HPX.out.mono ?_
          rintro e w4 ⟨rfl, HP⟩
          go_wp2_with fail
          go_ret
          exact HP.out
        · have hz : (D.2 == 0) = false := by simpa using h0
          have HP := HSTOP.out a b s2 w2 HV2.out HF2.out (by rw [← HD.out]; exact h0) HR1.out HR2.out
          rw [← HD.out] at HP
          generalize D.2 = d2' at *
          clear h0
          go_wp2_with fail
          go_ret
          exact HP.out
end
end Go.Proofs.Ytnohfdojcdhfoaa
namespace Go.Proofs.Ytnohfdojcdhfoaa
open Go.RowKit
abbrev mmT : List TypeId := [83, 5, 4]
theorem mmT_is : ∀ t : TypeId, t ∈ mmT → t = 83 ∨ t = 5 ∨ t = 4 := by intro t h; simpa using h
theorem mmT_sub : ∀ t : TypeId, t ∈ mmT → t ∈ egT := by intro t h; simp only [List.mem_cons, List.not_mem_nil, or_false] at h ⊢; rcases h with h | h | h <;> subst h <;> simp
theorem Mm.fe {K : Nat → Prop} {w w' : World} {p gC gD : Nat} {L : List UInt8} {X : List Value} {V : List Bool} {Y : List Value} {most : Nat} (h : Mm w p gC gD L X V Y most) (hc : Chg [p, gC, gD] w w') (hp : K p) (h1 : K gC) (h2 : K gD) : Fe K mmT w w' := by
  refine Fe.of_chgT hc (fun i hi => ?_) (fun i hi => ?_)
  · simp only [List.mem_cons, List.not_mem_nil, or_false] at hi
    rcases hi with rfl | rfl | rfl
    · exact ⟨hp, fun cs t fz e => by have := h.rec_; unfold Whole at this; rw [this] at e; injection e with e; injection e with _ e _; subst e; simp [mmT]⟩
    · exact ⟨h1, fun cs t fz e => by have := h.cel; unfold Whole at this; rw [this] at e; injection e with e; injection e with _ e _; subst e; simp [mmT]⟩
    · exact ⟨h2, fun cs t fz e => by have := h.dir; unfold Whole at this; rw [this] at e; injection e with e; injection e with _ e _; subst e; simp [mmT]⟩
  · simp only [List.mem_cons, List.not_mem_nil, or_false] at hi
    rcases hi with rfl | rfl | rfl
    · exact ⟨_, _, _, h.rec_⟩
    · exact ⟨_, _, _, h.cel⟩
    · exact ⟨_, _, _, h.dir⟩
section
variable {P : EP} {W W' : World} {vs vc : Value} {s : EgV}
def growS (most : Nat) (x : Int) (s : EgV) : Int × EgV := if x < 0 ∨ (most : Int) - s.V.length < x then (-1, s)
  else ((s.V.length : Int), ⟨s.fuel, s.st, s.cs, s.L ++ List.replicate (64 * x.toNat) 0, s.V ++ List.replicate x.toNat true, s.qs⟩)
theorem egrow_any (h : Eg P W vs vc s) (x : Int) : Calls Try.prog 108 #[.pointer (some ⟨P.p, 0, none⟩), .int .i64 x] W (fun e w' => e = .returned (.int .i64 (growS P.most x s).1) ∧ Hid (Eg P w' vs vc (growS P.most x s).2) ∧ Hid (Fe P.K egT W w')) := by
  obtain ⟨gC, gD, X, Y, hM, k1, k2⟩ := h.mem
  by_cases hx : x < 0 ∨ (P.most : Int) - s.V.length < x
  · have e : growS P.most x s = (-1, s) := if_pos hx
    rw [e]
    refine (grow_no hM x hx).mono ?_
    rintro e w' ⟨rfl, rfl⟩
    exact ⟨rfl, Lib.hid h, Lib.hid (Fe.refl _ _ _)⟩
  · have e : growS P.most x s = ((s.V.length : Int), ⟨s.fuel, s.st, s.cs, s.L ++ List.replicate (64 * x.toNat) 0, s.V ++ List.replicate x.toNat true, s.qs⟩) := if_neg hx
    rw [e]
    obtain ⟨k, rfl⟩ := Int.eq_ofNat_of_zero_le (show 0 ≤ x by omega)
    refine (grow_yes hM k (by omega)).mono ?_
    rintro e w' ⟨gC', gD', X', Y', rfl, hM', hc, hC, hD⟩
    have hf := hM.fe hc h.pK k1 k2
    have kC : P.K gC' := by
      rcases hC with rfl | hC
      · exact k1
      · exact .inl (Nat.le_trans h.room hC)
    have kD : P.K gD' := by
      rcases hD with rfl | hD
      · exact k2
      · exact .inl (Nat.le_trans h.room hD)
    exact ⟨rfl, Lib.hid (h.memd hM' kC kD hf mmT_is), Lib.hid (hf.sub mmT_sub)⟩
theorem eload_any (h : Eg P W vs vc s) (x : Int) (wide : Bool) : Calls Try.prog 45 #[.pointer (some ⟨P.p, 0, none⟩), .int .i64 x, .bool wide] W (fun e w' => e = .returned (.tuple #[.int .i64 ((loadR s.L x (if wide then 8 else 1)).getD 0), .bool (loadR s.L x (if wide then 8 else 1)).isSome]) ∧ W = w') := by
  obtain ⟨gC, gD, X, Y, hM, k1, k2⟩ := h.mem
  obtain ⟨sz, hs⟩ : ∃ sz : Nat, sz = if wide then 8 else 1 := ⟨_, rfl⟩
  rw [← hs]
  unfold loadR
  by_cases hx : 0 ≤ x ∧ x + sz ≤ s.L.length
  · rw [if_pos hx]
    obtain ⟨k, rfl⟩ := Int.eq_ofNat_of_zero_le hx.1
    exact load_yes hM k wide sz hs (by omega)
  · rw [if_neg hx]
    exact load_no hM x wide sz hs (by omega)
def storeS (wide : Bool) (k x : Int) (s : EgV) : Bool × EgV := if 0 ≤ k ∧ k + (if wide then 8 else 1) ≤ s.L.length then
  (true, ⟨s.fuel, s.st, s.cs, stL s.L k.toNat x (if wide then 8 else 1), stV s.V k.toNat (if wide then 8 else 1), s.qs⟩) else (false, s)
theorem estore_any (h : Eg P W vs vc s) (k x : Int) (wide : Bool) : Calls Try.prog 44 #[.pointer (some ⟨P.p, 0, none⟩), .int .i64 k, .int .i64 x, .bool wide] W (fun e w' => e = .returned (.bool (storeS wide k x s).1) ∧ Hid (Eg P w' vs vc (storeS wide k x s).2) ∧ Hid (Fe P.K egT W w')) := by
  obtain ⟨gC, gD, X, Y, hM, k1, k2⟩ := h.mem
  obtain ⟨sz, hs⟩ : ∃ sz : Nat, sz = if wide then 8 else 1 := ⟨_, rfl⟩
  have hsI : (if wide then (8 : Int) else 1) = (sz : Int) := by rw [hs]; cases wide <;> rfl
  by_cases hx : 0 ≤ k ∧ k + (if wide then 8 else 1) ≤ s.L.length
  · have e : storeS wide k x s = (true, ⟨s.fuel, s.st, s.cs, stL s.L k.toNat x (if wide then 8 else 1), stV s.V k.toNat (if wide then 8 else 1), s.qs⟩) := if_pos hx
    rw [e]
    rw [hsI] at hx
    obtain ⟨j, rfl⟩ := Int.eq_ofNat_of_zero_le hx.1
    refine (store_yes hM j x wide sz hs (by omega)).mono ?_
    rintro e w' ⟨rfl, hM', hc⟩
    have hf := hM.fe (hc.sub (T' := [P.p, gC, gD]) (by simp)) h.pK k1 k2
    rw [hs] at hM'
    exact ⟨rfl, Lib.hid (h.memd hM' k1 k2 hf mmT_is), Lib.hid (hf.sub mmT_sub)⟩
  · have e : storeS wide k x s = (false, s) := if_neg hx
    rw [e]
    rw [hsI] at hx
    refine (store_no hM k x wide sz hs (by omega)).mono ?_
    rintro e w' ⟨rfl, rfl⟩
    exact ⟨rfl, Lib.hid h, Lib.hid (Fe.refl _ _ _)⟩
theorem epages_any (h : Eg P W vs vc s) : Calls Try.prog 107 #[.pointer (some ⟨P.p, 0, none⟩)] W (fun e w' => e = .returned (.int .i64 (s.V.length : Int)) ∧ W = w') := by
  obtain ⟨gC, gD, X, Y, hM, k1, k2⟩ := h.mem
  exact pages_any hM
end
end Go.Proofs.Ytnohfdojcdhfoaa
