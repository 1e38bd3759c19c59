/-
  EC: GlTok, EngPure, EgMem, EngCs, EngCs2, EgCodes.
-/
import Derived.Test.YtfhgnoajfipjdaaZEC1
import Derived.Test.YtfhgnoajfipjdaaZEC5
import Derived.Test.YtfhgnoajfipjdaaZEC7
import Derived.Test.YtfhgnoajfipjdaaZEC11
import Derived.Test.YtfhgnoajfipjdaaZEC12
import Derived.Test.YtfhgnoajfipjdaaZEC21
import Derived.Test.YtfhgnoajfipjdaaZEC23
import Derived.Test.YtfhgnoajfipjdaaZEC24
import Derived.Test.YtfhgnoajfipjdaaZEC25
import Derived.StillTailTactics
namespace Go.Proofs.Ytfhgnoajfipjdaa
open Go.RowKit
theorem gRun_next {rs : List Nat} {r : Nat} {ys ys' : List TkV} {ph ph' : GPh} (h : gTake ys ph r = some (ys', ph')) : gRun (r :: rs) ys ph = gRun rs ys' ph' := by rw [gRun, h]
theorem gRun_stop {rs : List Nat} {r : Nat} {ys : List TkV} {ph : GPh} (h : gTake ys ph r = none) : gRun (r :: rs) ys ph = none := by rw [gRun, h]
theorem rown_apart {w w' : World} {B n k : Nat} {e : TypeId} {v : Value} {xs : List Value} {T : List Nat} (h : w.ownsRow B e k v n xs) (hc : Chg T w w') (hT : ∀ g, v.ownBlock = some g → g ∉ T) : w'.ownsRow B e k v n xs := by
  refine ⟨h.1, ?_⟩
  rcases h.2 with h1 | ⟨g, cap, cur, rfl, hb, hg, r⟩
  · exact .inl h1
  · refine .inr ⟨g, cap, cur, rfl, hb, ?_, r⟩
    have hlt : g < w.heap.size := by
      rcases Nat.lt_or_ge g w.heap.size with h | h
      · exact h
      · rw [Array.getElem?_eq_none h] at hg; cases hg
    exact (hc.block g hlt (hT g rfl)).trans hg
theorem own_not_iter {w : World} {B n k b : Nat} {e : TypeId} {v : Value} {xs : List Value} {s : ByteArray} {pos : Nat} (h : w.ownsRow B e k v n xs) (hb : w.heap[b]? = some (.stringIter s pos)) : v.ownBlock ≠ some b := by
  intro hv
  rcases h.2 with ⟨rfl, _⟩ | ⟨g, cap, cur, rfl, _, hg, _⟩
  · simp [Value.ownBlock] at hv
  · simp [Value.ownBlock] at hv
    subst hv
    rw [hg] at hb
    injection hb with hb
    cases hb
theorem Gl.chg {W W' : World} {g : Nat} {v : Value} {ys : List TkV} {ph : GPh} {T : List Nat} (h : Gl W g v ys ph) (hc : Chg T W W') (hg : g ∉ T) (hv : ∀ b, v.ownBlock = some b → b ∉ T) : Gl W' g v ys ph := ⟨h.rec_.chg hc hg, rown_apart h.own hc hv, h.few, h.big⟩
section
variable {w : World}
set_option maxHeartbeats 4000000 in
set_option maxRecDepth 100000 in
theorem gtokens_any (s : ByteArray) (hs : s.size ≤ 9223372036854775807) : Calls Try.prog 59 #[.string s] w (TokPost s w) := by
  by_cases hlong : 512 < s.size
  · have hlI : (512 : Int) < (s.size : Int) := by omega
    have HPO := Lib.hid (show TokPost s w (.returned (.tuple #[.slice none 0 0, .int .i64 3])) w from ⟨Chg.refl _ _, .inr ⟨by unfold tokR; rw [if_pos hlong], by unfold tokE; rw [if_pos hlong]⟩⟩)
    go_enter Try.func59, Try.ntmps59
    go_wp2_with fail
    go_ret2
    exact HPO.out
  have hlI : ¬ (512 : Int) < (s.size : Int) := by omega
  have HRT := Lib.hid (gRun_is s hlong)
  have HE := Lib.hid (show tokE s = 12 from by unfold tokE; rw [if_neg hlong])
  have hsz : s.size ≤ 512 := by omega
  clear hlong
  go_enter Try.func59, Try.ntmps59
  go_upto_region 5 with fail
  have hr1 := Whole.new w 180 [.slice none 0 0, .bool false, .bool false]
  have hc1 := (Chg.refl [] w).alloc (.cells #[.slice none 0 0, .bool false, .bool false] 180)
  have hz1 : (w.alloc (.cells #[.slice none 0 0, .bool false, .bool false] 180)).heap.size = w.heap.size + 1 := Array.size_push _
  obtain ⟨g, hg⟩ : ∃ g, g = w.heap.size := ⟨_, rfl⟩
  rw [← hg] at hr1 hz1 ⊢
  generalize w.alloc (.cells #[.slice none 0 0, .bool false, .bool false] 180) = w1 at hr1 hc1 hz1 ⊢
  have hI : (w1.iter s 0).heap[w1.heap.size]? = some (.stringIter s 0) := World.iter_heap w1 s 0
  have hc0 : Chg [] w1 (w1.iter s 0) := (Chg.refl [] w1).alloc _
  rw [hz1] at hI
  obtain ⟨kI, hkI⟩ : ∃ k, k = g + 1 := ⟨_, rfl⟩
  have HK := Lib.hid (show g < kI from by omega)
  have HGW := Lib.hid (show w.heap.size = g from hg.symm)
  have HG1 := Lib.hid (show Gl (w1.iter s 0) g (.slice none 0 0) [] .idle from ⟨hr1.keep hc0, World.ownsRow_nil _ _ _ _, by simp, fun m e => by cases e⟩)
  rw [← hkI] at hI ⊢
  have HC0 := Lib.hid (hc1.new hc0)
  generalize w1.iter s 0 = w2 at hI hc0 HG1 HC0 ⊢
  have HI := Lib.hid hI
  clear hI hc0 hkI hr1 hc1 hz1 hg
  go_loopw [6] (fun _ wr => (∃ (pos f : Nat) (v : Value) (ys : List TkV) (ph : GPh), Hid (wr.heap[kI]? = some (.stringIter s pos)) ∧ s.size - pos ≤ f ∧ Hid (Gl wr g v ys ph) ∧ Hid (tokR s = gRun (runesAt s f pos) ys ph) ∧ ys.length + (pend ph).length + f ≤ s.size) ∧ Hid (Chg [] w wr)) (fun _ wr => s.size - wr.iterPos kI)
  case atStart => exact ⟨⟨0, s.size, _, _, _, HI, by omega, HG1, Lib.hid (by rw [HRT.out]; rfl), by simp [pend]⟩, HC0⟩
  case round =>
    obtain ⟨⟨pos, f, v, ys, ph, HIr, hf, HG, HR, hyl⟩, HC⟩ := hrel
    by_cases hlt : pos < s.size
    · obtain ⟨f', rfl⟩ : ∃ f', f = f' + 1 := ⟨f - 1, by omega⟩
      have hnx := fun ty => Lib.run_next_any_at (P := Try.prog) wr kI s pos ty HIr.out hlt
      go_upto_region 7 with fail
      obtain ⟨d, hd⟩ : ∃ d, d = (Utf8.decode s pos).2 := ⟨_, rfl⟩
      obtain ⟨x, hx⟩ : ∃ r, r = (Utf8.decode s pos).1 := ⟨_, rfl⟩
      have hw := width_pos s pos hlt
      have hxm : x ≤ 2147483647 := by rw [hx]; exact decode_le s pos
      rw [← hd] at hw
      have HR2 := Lib.hid (show tokR s = gRun (x :: runesAt s f' (pos + d)) ys ph from by rw [HR.out, runesAt, if_pos hlt, ← hd, ← hx])
      have hci : Chg [kI] wr (wr.iterAt kI s (pos + d)) := ⟨rfl, rfl, rfl, by rw [Lib.iterAt_size]; exact Nat.le_refl _, fun i _ hn => Lib.iterAt_other wr kI i s (pos + d) (by simpa using hn)⟩
      have HI2 := Lib.hid (Lib.iterAt_heap wr kI s pos (pos + d) HIr.out)
      have HC2 := Lib.hid (show Chg [] w (wr.iterAt kI s (pos + d)) from HC.out.then_ hci (fun i hi hl => by have := HK.out; have := HGW.out; simp only [List.mem_cons, List.not_mem_nil, or_false] at hi; omega))
      have HG2 := Lib.hid (show Gl (wr.iterAt kI s (pos + d)) g v ys ph from HG.out.chg hci (by have := HK.out; simp; omega) (fun b hb => by
        have := own_not_iter HG.out.own HIr.out
        intro hm
        simp only [List.mem_cons, List.not_mem_nil, or_false] at hm
        subst hm
        exact this hb))
      rw [← hd, ← hx]
      have HMP := Lib.hid (show wr.iterPos kI = pos from by unfold World.iterPos; rw [HIr.out])
      have HP2 := Lib.hid (show (wr.iterAt kI s (pos + d)).iterPos kI = pos + d from by unfold World.iterPos; rw [HI2.out])
      generalize wr.iterAt kI s (pos + d) = w3 at HI2 HC2 HP2 HG2 ⊢
      clear hx hd hnx hci
      go_wp2_with fail
      refine (gtake_any HG2.out x hxm (by omega)).mono ?_
      rintro e w4 ⟨hfr, ho⟩
      have HI4 := Lib.hid (hfr.obj HI2.out (by intro _ _ _ h; cases h))
      have HP4 := Lib.hid (show w4.iterPos kI = pos + d from by unfold World.iterPos; rw [HI4.out])
      have HC4 := Lib.hid (show Chg [] w w4 from (Fr.chg (B := g) (TS := glT) ((Fr.of_chg HC2.out).trans hfr) (by have := HGW.out; omega)))
      clear hfr
      rcases ho with ⟨ho, rfl⟩ | ⟨ys', ph', v', ho, rfl, hG⟩
      · have HPO := Lib.hid (show TokPost s w (.returned (.tuple #[.slice none 0 0, .int .i64 12])) w4 from ⟨HC4.out, .inr ⟨by rw [HR2.out, gRun_stop ho], by rw [HE.out]⟩⟩)
        clear ho
        go_wp2_with fail
        go_ret2
        exact HPO.out
      · have hyl' : ys'.length + (pend ph').length + f' ≤ s.size := by have := gTake_len ho; omega
        have HR4 := Lib.hid (show tokR s = gRun (runesAt s f' (pos + d)) ys' ph' from by rw [HR2.out, gRun_next ho])
        have HG4 := Lib.hid hG
        clear ho hG
        go_wp2_with fail
        go_roundw
        case rel => exact ⟨⟨pos + d, f', v', ys', ph', HI4, by omega, HG4, HR4, hyl'⟩, HC4⟩
        case measure => rw [HP4.out, HMP.out]; omega
    · have hnx := fun ty => Lib.run_next_end_at (P := Try.prog) wr kI s pos ty HIr.out hlt
      have HRE := Lib.hid (show tokR s = gEnd ys ph from by
        rw [HR.out]
        cases f with
        | zero => simp [runesAt, gRun]
        | succ f => rw [runesAt, if_neg hlt, gRun])
      have c2 := HG.out.rec_.cell 2
      have c0 := HG.out.rec_.cell 0
      cases hwt : waits ph with
      | true =>
        have HPO := Lib.hid (show TokPost s w (.returned (.tuple #[.slice none 0 0, .int .i64 12])) wr from ⟨HC.out, .inr ⟨(by
          rw [HRE.out]
          cases ph with
          | wait q => rfl
          | num m => cases hwt
          | idle => cases hwt), by rw [HE.out]⟩⟩)
        rw [hwt] at c2
        clear hwt
        go_wp2_with fail
        go_ret2
        exact HPO.out
      | false =>
        have HPO := Lib.hid (show TokPost s w (.returned (.tuple #[v, .int .i64 0])) wr from ⟨HC.out, .inl ⟨ys ++ pend ph, v, (by
          rw [HRE.out]
          cases ph with
          | wait q => cases hwt
          | num m => rfl
          | idle => rw [pend, List.append_nil]; rfl), by rw [List.length_append]; omega, rfl, by
          have := HG.out.own
          rw [List.length_append]
          exact own_more_n this (by have := HGW.out; omega)⟩⟩)
        rw [hwt] at c2
        obtain ⟨A5, n5, c5, rfl, hn5⟩ := HG.out.slice
        clear hwt hn5
        go_wp2_with fail
        go_ret2
        exact HPO.out
end
end Go.Proofs.Ytfhgnoajfipjdaa
namespace Go.Proofs.Ytfhgnoajfipjdaa
open Go.RowKit
structure CodeV where
  args : Nat
  ts : List TkV
  go : List Int
structure CallV where
  fn : Nat
  next : Nat
  loc : List Int
/-- A run: fuel, one stack for all calls, the calls, the memory's cells and which pages were turned, what was asked. -/
structure EgV where
  fuel : Nat
  st : List Int
  cs : List CallV
  L : List UInt8
  V : List Bool
  qs : List (Int × Int)
def CallV.at_ (c : CallV) (n : Nat) : CallV := ⟨c.fn, n, c.loc⟩
def EgV.pop (s : EgV) : Option (Int × EgV) := match s.st.getLast? with
  | none => none
  | some x => some (x, ⟨s.fuel, s.st.dropLast, s.cs, s.L, s.V, s.qs⟩)
def EgV.push (s : EgV) (n : Int) : EgV := ⟨s.fuel, s.st ++ [n], s.cs, s.L, s.V, s.qs⟩
def EgV.calls (s : EgV) (cs : List CallV) : EgV := ⟨s.fuel, s.st, cs, s.L, s.V, s.qs⟩
def EgV.jump (s : EgV) (go : Int) : Option EgV := match s.cs.getLast? with
  | none => none
  | some c => if go < 0 then none else some (s.calls (s.cs.dropLast ++ [c.at_ go.toNat]))
/-- The answer to the next ask. -/
def ansR (rs : List (Option Int)) (k : Nat) : Option Int := if k < rs.length then rs.getD k none else some 0
def loadR (L : List UInt8) (k : Int) (s : Nat) : Option Int := if 0 ≤ k ∧ k + s ≤ L.length then some (ldI L k.toNat s) else none
/-- A call begins: its args lie on the stack. -/
def eCall (cd : List CodeV) (k : Nat) (s : EgV) : Option EgV := match cd[k]? with
  | none => none
  | some f => if s.st.length < f.args ∨ 26 < f.args then none
    else some ⟨s.fuel, s.st.take (s.st.length - f.args), s.cs ++ [⟨k, 0, s.st.drop (s.st.length - f.args) ++ List.replicate (26 - f.args) 0⟩], s.L, s.V, s.qs⟩
/-- Letters, and what word does. -/
def eReckon (sg : Int) (s : EgV) : Option (Int × EgV) :=
  if 97 ≤ sg ∧ sg ≤ 122 then (match s.cs.getLast? with
    | none => none
    | some c => match c.loc[(sg - 97).toNat]? with
      | none => none
      | some x => some (0, s.push x))
  else if 65 ≤ sg ∧ sg ≤ 90 then (match s.pop with
    | none => none
    | some (x, s') => match s'.cs.getLast? with
      | none => none
      | some c => some (0, s'.calls (s'.cs.dropLast ++ [⟨c.fn, c.next, c.loc.set (sg - 65).toNat x⟩])))
  else match (if sg = 33 then some ((0 : Int), s) else s.pop) with
    | none => none
    | some (b, s1) => match s1.pop with
      | none => none
      | some (a, s2) => some ((doR sg a b).2, if (doR sg a b).2 = 0 then s2.push (doR sg a b).1 else s2)
/-- The memory. -/
def eMem (most : Nat) (sg : Int) (s : EgV) : Option (Int × EgV) :=
  if sg = 35 then some (0, s.push (s.V.length : Int))
  else match s.pop with
    | none => none
    | some (x, s1) =>
      if sg = 164 then (if x < 0 ∨ (most : Int) - s.V.length < x then some (0, s1.push (-1))
        else some (0, ⟨s1.fuel, s1.st ++ [(s.V.length : Int)], s1.cs, s1.L ++ List.replicate (64 * x.toNat) 0, s1.V ++ List.replicate x.toNat true, s1.qs⟩))
      else if sg = 64 ∨ sg = 169 then (match loadR s1.L x (if sg = 64 then 8 else 1) with
        | none => some (5, s1)
        | some n => some (0, s1.push n))
      else match s1.pop with
        | none => none
        | some (k, s2) => if 0 ≤ k ∧ k + (if sg = 36 then 8 else 1) ≤ s2.L.length then
            some (0, ⟨s2.fuel, s2.st, s2.cs, stL s2.L k.toNat x (if sg = 36 then 8 else 1), stV s2.V k.toNat (if sg = 36 then 8 else 1), s2.qs⟩)
          else some (5, s2)
/-- One token: the trap, and what is behind it. -/
def eStep (us : List FnV) (cd : List CodeV) (rs : List (Option Int)) (most : Nat) (t : TkV) (go : Int) (s : EgV) : Option (Int × EgV) :=
  if t.sign = 48 then some (0, s.push t.n)
  else if t.sign = 46 then (match s.st.getLast? with | none => none | some x => some (0, s.push x))
  else if t.sign = 44 then s.pop.map fun q => (0, q.2)
  else if t.sign = 63 then (match s.pop with
    | none => none
    | some (x, s1) => if x = 0 then (s1.jump go).map fun z => (0, z) else some (0, s1))
  else if t.sign = 58 ∨ t.sign = 93 ∨ t.sign = 126 then (s.jump go).map fun z => (0, z)
  else if t.sign = 59 ∨ t.sign = 91 then some (0, s)
  else if t.sign = 35 ∨ t.sign = 164 ∨ t.sign = 64 ∨ t.sign = 169 ∨ t.sign = 36 ∨ t.sign = 174 then eMem most t.sign s
  else if t.sign = 955 then (if 32 ≤ s.cs.length then some (6, s) else if findI us t.name < 0 then none else (eCall cd (findI us t.name).toNat s).map fun z => (0, z))
  else if t.sign = 960 then (match s.pop with
    | none => none
    | some (x, s1) => match ansR rs s1.qs.length with
      | none => some (7, ⟨s1.fuel, s1.st, s1.cs, s1.L, s1.V, s1.qs ++ [(t.name, x)]⟩)
      | some n => some (0, ⟨s1.fuel, s1.st ++ [n], s1.cs, s1.L, s1.V, s1.qs ++ [(t.name, x)]⟩))
  else if t.sign = 161 then some (2, s)
  else eReckon t.sign s
/-- From token to token. -/
def eRun (us : List FnV) (cd : List CodeV) (rs : List (Option Int)) (most : Nat) : Nat → EgV → Option (Int × EgV)
  | 0, _ => none
  | n + 1, s => match s.cs.getLast? with
    | none => some (0, s)
    | some c => match cd[c.fn]? with
      | none => none
      | some f => if c.next = f.ts.length then eRun us cd rs most n (s.calls s.cs.dropLast)
        else if s.fuel = 0 then some (1, s)
        else match f.ts[c.next]?, f.go[c.next]? with
          | some t, some go => (match eStep us cd rs most t go ⟨s.fuel - 1, s.st, s.cs.dropLast ++ [c.at_ (c.next + 1)], s.L, s.V, s.qs⟩ with
            | none => none
            | some (trap, s') => if trap = 0 then eRun us cd rs most n s' else some (trap, s'))
          | _, _ => none
/-- The code of a function of a program that is right. -/
def codeOf (f : FnV) : CodeV := match tokR f.code with
  | none => ⟨f.args.toNat, [], []⟩
  | some ts => match rNest (signs ts) with
    | none => ⟨f.args.toNat, ts, []⟩
    | some R => ⟨f.args.toNat, ts, R.1⟩
/-- What Run answers: the value, the trap, and all behind it. -/
def eDo (us : List FnV) (rs : List (Option Int)) (most k fuel : Nat) (args : List Int) (L : List UInt8) (V : List Bool) (qs : List (Int × Int)) : Option (Int × Int × EgV) :=
  match eCall (us.map codeOf) k ⟨fuel, args, [], L, V, qs⟩ with
  | none => none
  | some s => match eRun us (us.map codeOf) rs most (2 * fuel + 2) s with
    | none => none
    | some (trap, s') => if trap = 0 then s'.pop.map fun q => (q.1, trap, q.2) else some (0, trap, s')
/-- The runs that known knows. -/
def oneU (s : ByteArray) : List FnV := [⟨102, 1, s⟩]
def dig3 (q : Option (Int × Int × EgV)) : Option (Int × Int × Nat) := q.map fun q => (q.1, q.2.1, q.2.2.fuel)
theorem known_a : dig3 (eDo (oneU ⟨#[49, 32, 50, 43]⟩) [] 2 0 9 [5] (List.replicate 64 0) [false] []) = some (3, 0, 6) := by decide +kernel
theorem known_b : dig3 (eDo (oneU ⟨#[49]⟩) [] 2 0 0 [5] (List.replicate 64 0) [false] []) = some (0, 1, 0) := by decide +kernel
theorem known_c : (dig3 (eDo (oneU ⟨#[97, 206, 187, 102]⟩) [] 2 0 999 [5] (List.replicate 64 0) [false] [])).map (fun q => (q.1, q.2.1)) = some (0, 6) := by decide +kernel
end Go.Proofs.Ytfhgnoajfipjdaa
namespace Go.Proofs.Ytfhgnoajfipjdaa
open Go.RowKit
def clC (c : CallV) : List Value := [.int .i64 (c.fn : Int), .int .i64 (c.next : Int)] ++ nms c.loc
def clCs : List CallV → List Value
  | [] => []
  | x :: l => clC x ++ clCs l
def Loc26 (cs : List CallV) : Prop := ∀ c ∈ cs, c.loc.length = 26
theorem clC_len {c : CallV} (h : c.loc.length = 26) : (clC c).length = 28 := by simp [clC, nms_len, h]
theorem Loc26.head {c : CallV} {cs : List CallV} (h : Loc26 (c :: cs)) : c.loc.length = 26 := h c (by simp)
theorem Loc26.tail {c : CallV} {cs : List CallV} (h : Loc26 (c :: cs)) : Loc26 cs := fun x hx => h x (by simp [hx])
theorem Loc26.app {cs : List CallV} {c : CallV} : Loc26 (cs ++ [c]) ↔ Loc26 cs ∧ c.loc.length = 26 :=
  ⟨fun h => ⟨fun x hx => h x (by simp [hx]), h c (by simp)⟩, fun h x hx => by
    rcases List.mem_append.1 hx with hx | hx
    · exact h.1 x hx
    · rw [List.mem_singleton] at hx; subst hx; exact h.2⟩
theorem clCs_len : ∀ {l : List CallV}, Loc26 l → (clCs l).length = l.length * 28
  | [], _ => rfl
  | x :: l, h => by rw [clCs, List.length_append, clCs_len h.tail, clC_len h.head, List.length_cons]; omega
theorem clCs_app : ∀ l m, clCs (l ++ m) = clCs l ++ clCs m
  | [], _ => rfl
  | x :: l, m => by rw [List.cons_append, clCs, clCs, clCs_app l m, List.append_assoc]
theorem clCs_one (x : CallV) : clCs [x] = clC x := by simp [clCs]
theorem clCs_last {ys : List CallV} {x : CallV} (h : Loc26 (ys ++ [x])) (j : Nat) : (clCs (ys ++ [x]))[ys.length * 28 + j]? = (clC x)[j]? := by
  rw [clCs_app, clCs_one, List.getElem?_append_right (by rw [clCs_len (Loc26.app.1 h).1]; omega), clCs_len (Loc26.app.1 h).1]
  congr 1; omega
theorem clCs_set {ys : List CallV} {x y : CallV} (h : Loc26 (ys ++ [x])) (j : Nat) (u : Value) (hu : (clC x).set j u = clC y) : (clCs (ys ++ [x])).set (ys.length * 28 + j) u = clCs (ys ++ [y]) := by
  rw [clCs_app, clCs_one, List.set_append_right _ _ (by rw [clCs_len (Loc26.app.1 h).1]; omega), clCs_len (Loc26.app.1 h).1, show ys.length * 28 + j - ys.length * 28 = j by omega, hu, clCs_app, clCs_one]
/-- A code in memory: how many args, where its tokens lie, where one goes. -/
structure CdV where
  c : CodeV
  tv : Value
  gv : Value
def cdC (x : CdV) : List Value := [.int .i64 (x.c.args : Int), x.tv, x.gv]
def cdCs : List CdV → List Value
  | [] => []
  | x :: l => cdC x ++ cdCs l
theorem cdCs_app : ∀ l m, cdCs (l ++ m) = cdCs l ++ cdCs m
  | [], _ => rfl
  | x :: l, m => by rw [List.cons_append, cdCs, cdCs, cdCs_app l m, List.append_assoc]
theorem cdCs_one (x : CdV) : cdCs [x] = cdC x := by simp [cdCs]
theorem cdCs_get : ∀ (l : List CdV) (k : Nat) (x : CdV) (j : Nat), l[k]? = some x → j < 3 → (cdCs l)[k * 3 + j]? = (cdC x)[j]?
  | [], k, x, j, h, hj => by simp at h
  | y :: l, 0, x, j, h, hj => by
    simp at h; subst h
    rw [cdCs, List.getElem?_append_left (by simp [cdC]; omega)]
    congr 1; omega
  | y :: l, k + 1, x, j, h, hj => by
    simp at h
    rw [cdCs, List.getElem?_append_right (by simp [cdC]; omega)]
    rw [← cdCs_get l k x j h hj]
    congr 1; simp [cdC]; omega
structure Cods (W : World) (v : Value) (xs : List CdV) : Prop where
  own : W.ownsRow 0 170 3 v xs.length (cdCs xs)
  toks : ∀ x ∈ xs, W.ownsRow 0 167 3 x.tv x.c.ts.length (tkCs x.c.ts)
  gos : ∀ x ∈ xs, W.ownsRow 0 3 1 x.gv x.c.go.length (nms x.c.go)
  few : ∀ x ∈ xs, x.c.ts.length ≤ 512 ∧ x.c.go.length = x.c.ts.length
  lenb : xs.length ≤ 32
theorem Cods.keep {W W' : World} {v : Value} {xs : List CdV} (h : Cods W v xs) (hc : Chg [] W W') : Cods W' v xs :=
  ⟨rown_keep h.own hc, fun x hx => rown_keep (h.toks x hx) hc, fun x hx => rown_keep (h.gos x hx) hc, h.few, h.lenb⟩
theorem Cods.fe {W W' : World} {v : Value} {xs : List CdV} {K : Nat → Prop} {TS : List TypeId} (h : Cods W v xs) (hf : Fe K TS W W') (h1 : 170 ∉ TS) (h2 : 167 ∉ TS) (h3 : 3 ∉ TS) : Cods W' v xs :=
  ⟨hf.own h.own h1, fun x hx => hf.own (h.toks x hx) h2, fun x hx => hf.own (h.gos x hx) h3, h.few, h.lenb⟩
/-- What stays through a run. -/
structure EP where
  g : Nat
  us : List FnV
  pages : Int
  mst : Int
  A : Option Addr
  n : Nat
  c : Nat
  cv : Value
  xs : List CdV
  p : Nat
  most : Nat
  rp : Nat
  rs : List (Option Int)
  B : Nat
  T : List Nat
def EP.K (P : EP) : Nat → Prop := fun k => P.B ≤ k ∨ k ∈ P.T
abbrev egT : List TypeId := [104, 2, 174, 109, 5, 4, 112, 53]
/-- The work struct. -/
def wkC (P : EP) (fuel : Nat) (vs vc : Value) : List Value := [.int .i64 P.pages, .int .i64 P.mst, .slice P.A P.n P.c, P.cv, .pointer (some ⟨P.p, 0, none⟩), .pointer (some ⟨P.rp, 0, none⟩), .int .i64 (fuel : Int), vs, vc]
structure Eg (P : EP) (W : World) (vs vc : Value) (s : EgV) : Prop where
  rec_ : Whole W P.g 104 (wkC P s.fuel vs vc)
  stk : W.ownsRow P.B 2 1 vs s.st.length (nms s.st)
  cal : W.ownsRow P.B 174 28 vc s.cs.length (clCs s.cs)
  mem : ∃ gC gD X Y, Mm W P.p gC gD s.L X s.V Y P.most ∧ P.K gC ∧ P.K gD
  row : ∃ a q, Rq W P.rp P.rs s.qs a q ∧ ∀ i, q.ownBlock = some i → P.K i
  cod : Cods W P.cv P.xs
  fns : Fnr W P.A P.n P.c P.us
  foff : ∀ ad, P.A = some ad → ¬ P.K ad.block
  gB : P.B ≤ P.g
  room : P.B ≤ W.heap.size
  pK : P.K P.p
  rK : P.K P.rp
  loc : Loc26 s.cs
  fuelb : s.fuel ≤ 1048576
  stkb : s.st.length + s.fuel ≤ 3000000
  calb : s.cs.length ≤ 32
  qsb : s.qs.length + s.fuel ≤ 900000000
theorem EP.new (P : EP) {k : Nat} (h : P.B ≤ k) : P.K k := .inl h
theorem Src.fe {K : Nat → Prop} {TS : List TypeId} {W W' : World} {A : Option Addr} {xs : List Value} (h : Src W A xs) (hf : Fe K TS W W') (hA : ∀ ad, A = some ad → ¬ K ad.block) : Src W' A xs := by
  intro h0
  obtain ⟨ad, rfl, hlt, hx⟩ := h h0
  have hb := hf.block ad.block hlt (.inl (hA ad rfl))
  refine ⟨ad, rfl, Nat.lt_of_lt_of_le hlt hf.size, fun j u hj => ?_⟩
  have := hx j u hj
  rw [← this]
  have e2 : (ad.add j).block = ad.block := by unfold Addr.add; split <;> rfl
  refine World.cell?_of_block (w := W) ?_
  rw [e2]
  exact hb
section
variable {P : EP} {W W' : World} {vs vc : Value} {s : EgV}
theorem Eg.keep (h : Eg P W vs vc s) (hc : Chg [] W W') : Eg P W' vs vc s := by
  obtain ⟨gC, gD, X, Y, hM, h1, h2⟩ := h.mem
  obtain ⟨a, q, hR, h3⟩ := h.row
  exact { h with rec_ := h.rec_.keep hc, stk := rown_keep h.stk hc, cal := rown_keep h.cal hc, mem := ⟨gC, gD, X, Y, hM.keep hc, h1, h2⟩, row := ⟨a, q, hR.keep hc, h3⟩, cod := h.cod.keep hc, fns := h.fns.keep hc, room := Nat.le_trans h.room hc.size }
theorem Eg.kg (h : Eg P W vs vc s) : P.K P.g := .inl h.gB
theorem Fnr.fe {K : Nat → Prop} {TS : List TypeId} {A : Option Addr} {n c : Nat} {l : List FnV} (h : Fnr W A n c l) (hf : Fe K TS W W') (hA : ∀ ad, A = some ad → ¬ K ad.block) : Fnr W' A n c l := { h with src := h.src.fe hf hA }
theorem Eg.sslice (h : Eg P W vs vc s) : ∃ A n c, vs = .slice A n c ∧ n = s.st.length ∧ n ≤ c := by
  obtain ⟨A, c, e, hc, _⟩ := rown_slice h.stk
  exact ⟨A, _, c, e, rfl, hc⟩
theorem Eg.cslice (h : Eg P W vs vc s) : ∃ A n c, vc = .slice A n c ∧ n = s.cs.length ∧ n ≤ c := by
  obtain ⟨A, c, e, hc, _⟩ := rown_slice h.cal
  exact ⟨A, _, c, e, rfl, hc⟩
/-- The struct, the stack or the calls are written: all else stays. -/
theorem Eg.upd {vs' vc' : Value} {fuel : Nat} {st : List Int} {cs : List CallV} {TS : List TypeId} (h : Eg P W vs vc s) (hf : Fe P.K TS W W') (hT : ∀ t ∈ TS, t = 104 ∨ t = 2 ∨ t = 174)
    (h1 : Whole W' P.g 104 (wkC P fuel vs' vc')) (h2 : W'.ownsRow P.B 2 1 vs' st.length (nms st)) (h3 : W'.ownsRow P.B 174 28 vc' cs.length (clCs cs)) (h4 : Loc26 cs) (h5 : fuel ≤ s.fuel) (h6 : st.length + fuel ≤ 3000000) (h7 : cs.length ≤ 32) :
    Eg P W' vs' vc' ⟨fuel, st, cs, s.L, s.V, s.qs⟩ := by
  obtain ⟨gC, gD, X, Y, hM, k1, k2⟩ := h.mem
  obtain ⟨a, q, hR, k3⟩ := h.row
  have no : ∀ t : TypeId, t ≠ 104 → t ≠ 2 → t ≠ 174 → t ∉ TS := fun t a b c hm => by
    rcases hT t hm with h | h | h
    · exact a h
    · exact b h
    · exact c h
  exact { rec_ := h1, stk := h2, cal := h3, mem := ⟨gC, gD, X, Y, hf.mm hM (no _ (by decide) (by decide) (by decide)) (no _ (by decide) (by decide) (by decide)) (no _ (by decide) (by decide) (by decide)), k1, k2⟩,
          row := ⟨a, q, hR.fe hf (no _ (by decide) (by decide) (by decide)) (no _ (by decide) (by decide) (by decide)) (no _ (by decide) (by decide) (by decide)), k3⟩,
          cod := h.cod.fe hf (no _ (by decide) (by decide) (by decide)) (no _ (by decide) (by decide) (by decide)) (no _ (by decide) (by decide) (by decide)),
          fns := h.fns.fe hf h.foff, foff := h.foff, gB := h.gB, room := Nat.le_trans h.room hf.size, pK := h.pK, rK := h.rK, loc := h4, fuelb := by have := h.fuelb; show fuel ≤ _; omega, stkb := h6, calb := h7, qsb := by have := h.qsb; show s.qs.length + fuel ≤ _; omega }
end
end Go.Proofs.Ytfhgnoajfipjdaa
namespace Go.Proofs.Ytfhgnoajfipjdaa
open Go.RowKit
theorem pop_cs {s s1 : EgV} {x : Int} (h : s.pop = some (x, s1)) : s1.cs = s.cs := by
  unfold EgV.pop at h
  split at h
  · cases h
  · injection h with h; injection h with _ h; subst h; rfl
theorem jump_cs {s s1 : EgV} {v : Int} (h : s.jump v = some s1) : s1.cs.length = s.cs.length := by
  unfold EgV.jump at h
  split at h
  · cases h
  · rename_i c hc
    split at h
    · cases h
    · injection h with h
      subst h
      have : 0 < s.cs.length := List.length_pos_iff.2 (fun e => by rw [e] at hc; simp at hc)
      simp [EgV.calls]
      omega
theorem call_cs {cd : List CodeV} {k : Nat} {s s1 : EgV} (h : eCall cd k s = some s1) : s1.cs.length = s.cs.length + 1 := by
  unfold eCall at h
  split at h
  · cases h
  · split at h
    · cases h
    · injection h with h
      subst h
      simp
theorem mem_cs {most : Nat} {sg tr : Int} {s s1 : EgV} (h : eMem most sg s = some (tr, s1)) : s1.cs = s.cs := by
  unfold eMem at h
  split at h
  · injection h with h; injection h with _ h; subst h; rfl
  · split at h
    · cases h
    · rename_i x s2 hp
      have e := pop_cs hp
      split at h
      · split at h <;> (injection h with h; injection h with _ h; subst h; exact e)
      · split at h
        · split at h <;> (injection h with h; injection h with _ h; subst h; exact e)
        · split at h
          · cases h
          · rename_i k s3 hp3
            have e3 := pop_cs hp3
            by_cases hc : 0 ≤ k ∧ k + (if sg = 36 then 8 else 1) ≤ (s3.L.length : Int)
            · rw [if_pos hc] at h
              injection h with h; injection h with _ h; subst h; exact e3.trans e
            · rw [if_neg hc] at h
              injection h with h; injection h with _ h; subst h; exact e3.trans e
end Go.Proofs.Ytfhgnoajfipjdaa
namespace Go.Proofs.Ytfhgnoajfipjdaa
open Go.RowKit
theorem reckon_cs {sg tr : Int} {s s1 : EgV} (h : eReckon sg s = some (tr, s1)) : s1.cs.length ≤ s.cs.length + 1 := by
  unfold eReckon at h
  split at h
  · split at h
    · cases h
    · split at h
      · cases h
      · injection h with h; injection h with _ h; subst h; simp [EgV.push]
  · split at h
    · split at h
      · cases h
      · rename_i x s2 hp
        have e := pop_cs hp
        split at h
        · cases h
        · injection h with h; injection h with _ h; subst h
          simp [EgV.calls, e]
    · have hb : ∀ b s2, (if sg = 33 then some ((0 : Int), s) else s.pop) = some (b, s2) → s2.cs = s.cs := fun b s2 hh => by
        by_cases h33 : sg = 33
        · rw [if_pos h33] at hh; injection hh with hh; injection hh with _ hh; subst hh; rfl
        · rw [if_neg h33] at hh; exact pop_cs hh
      generalize (if sg = 33 then some ((0 : Int), s) else s.pop) = q at h hb
      cases q with
      | none => cases h
      | some q =>
        obtain ⟨b, s2⟩ := q
        have e := hb b s2 rfl
        simp only at h
        split at h
        · cases h
        · rename_i a s3 hp
          have e3 := pop_cs hp
          injection h with h; injection h with _ h; subst h
          split
          · show s3.cs.length ≤ _
            rw [e3, e]; omega
          · rw [e3, e]; omega
theorem step_cs {us : List FnV} {cd : List CodeV} {rs : List (Option Int)} {most : Nat} {t : TkV} {v tr : Int} {s s1 : EgV} (h : eStep us cd rs most t v s = some (tr, s1)) : s1.cs.length ≤ s.cs.length + 1 := by
  have fin : ∀ {q : Option EgV}, (∀ z, q = some z → z.cs.length ≤ s.cs.length + 1) → q.map (fun z => ((0 : Int), z)) = some (tr, s1) → s1.cs.length ≤ s.cs.length + 1 := fun {q} hq hh => by
    cases q with
    | none => cases hh
    | some z => simp only [Option.map_some] at hh; injection hh with hh; injection hh with _ hh; subst hh; exact hq z rfl
  unfold eStep at h
  by_cases c1 : t.sign = 48
  · rw [if_pos c1] at h
    injection h with h; injection h with _ h; subst h; simp [EgV.push]
  rw [if_neg c1] at h
  by_cases c2 : t.sign = 46
  · rw [if_pos c2] at h
    split at h
    · cases h
    · injection h with h; injection h with _ h; subst h; simp [EgV.push]
  rw [if_neg c2] at h
  by_cases c3 : t.sign = 44
  · rw [if_pos c3] at h
    cases hp : s.pop with
    | none => rw [hp] at h; cases h
    | some q =>
      obtain ⟨x, s2⟩ := q
      rw [hp] at h
      simp only [Option.map_some] at h
      injection h with h; injection h with _ h; subst h
      rw [pop_cs hp]; omega
  rw [if_neg c3] at h
  by_cases c4 : t.sign = 63
  · rw [if_pos c4] at h
    split at h
    · cases h
    · rename_i x s2 hp
      have e := pop_cs hp
      split at h
      · exact fin (fun z hz => by rw [jump_cs hz, e]; omega) h
      · injection h with h; injection h with _ h; subst h; rw [e]; omega
  rw [if_neg c4] at h
  by_cases c5 : t.sign = 58 ∨ t.sign = 93 ∨ t.sign = 126
  · rw [if_pos c5] at h
    exact fin (fun z hz => by rw [jump_cs hz]; omega) h
  rw [if_neg c5] at h
  by_cases c6 : t.sign = 59 ∨ t.sign = 91
  · rw [if_pos c6] at h
    injection h with h; injection h with _ h; subst h; omega
  rw [if_neg c6] at h
  by_cases c7 : t.sign = 35 ∨ t.sign = 164 ∨ t.sign = 64 ∨ t.sign = 169 ∨ t.sign = 36 ∨ t.sign = 174
  · rw [if_pos c7] at h
    rw [mem_cs h]; omega
  rw [if_neg c7] at h
  by_cases c8 : t.sign = 955
  · rw [if_pos c8] at h
    split at h
    · injection h with h; injection h with _ h; subst h; omega
    · split at h
      · cases h
      · exact fin (fun z hz => by rw [call_cs hz]; omega) h
  rw [if_neg c8] at h
  by_cases c9 : t.sign = 960
  · rw [if_pos c9] at h
    split at h
    · cases h
    · rename_i x s2 hp
      have e := pop_cs hp
      split at h
      · injection h with h; injection h with _ h; subst h; simp [e]
      · injection h with h; injection h with _ h; subst h; simp [e]
  rw [if_neg c9] at h
  by_cases c10 : t.sign = 161
  · rw [if_pos c10] at h
    injection h with h; injection h with _ h; subst h; omega
  · rw [if_neg c10] at h
    exact reckon_cs h
end Go.Proofs.Ytfhgnoajfipjdaa
namespace Go.Proofs.Ytfhgnoajfipjdaa
open Go.RowKit
theorem info_code : (Try.prog.info? 170).map (fun i => (i.zero, i.size, i.bytes)) = some (some (.agg #[.int .i64 0, .slice none 0 0, .slice none 0 0]), 3, 56) := by kernel_rfl
/-- Codes that can be read. -/
def Readable (l : List FnV) : Prop := ∀ f ∈ l, 0 ≤ f.args ∧ ∃ ts R, tokR f.code = some ts ∧ rNest (signs ts) = some R
theorem codeOf_is {f : FnV} {ts : List TkV} {R : List Int × Nat} (h1 : tokR f.code = some ts) (h2 : rNest (signs ts) = some R) : codeOf f = ⟨f.args.toNat, ts, R.1⟩ := by
  unfold codeOf
  rw [h1]
  simp only
  rw [h2]
/-- All but the row of codes itself. -/
structure Cdx (W : World) (xs : List CdV) : Prop where
  toks : ∀ x ∈ xs, W.ownsRow 0 167 3 x.tv x.c.ts.length (tkCs x.c.ts)
  gos : ∀ x ∈ xs, W.ownsRow 0 3 1 x.gv x.c.go.length (nms x.c.go)
  few : ∀ x ∈ xs, x.c.ts.length ≤ 512 ∧ x.c.go.length = x.c.ts.length
theorem Cdx.keep {W W' : World} {xs : List CdV} (h : Cdx W xs) (hc : Chg [] W W') : Cdx W' xs := ⟨fun x hx => rown_keep (h.toks x hx) hc, fun x hx => rown_keep (h.gos x hx) hc, h.few⟩
theorem Cdx.nil (W : World) : Cdx W [] := ⟨fun x hx => by simp at hx, fun x hx => by simp at hx, fun x hx => by simp at hx⟩
theorem Cdx.cons {W : World} {xs : List CdV} {x : CdV} (h : Cdx W xs) (h1 : W.ownsRow 0 167 3 x.tv x.c.ts.length (tkCs x.c.ts)) (h2 : W.ownsRow 0 3 1 x.gv x.c.go.length (nms x.c.go)) (h3 : x.c.ts.length ≤ 512 ∧ x.c.go.length = x.c.ts.length) : Cdx W (xs ++ [x]) := by
  refine ⟨fun y hy => ?_, fun y hy => ?_, fun y hy => ?_⟩ <;> rcases List.mem_append.1 hy with hy | hy
  · exact h.toks y hy
  · rw [List.mem_singleton] at hy; subst hy; exact h1
  · exact h.gos y hy
  · rw [List.mem_singleton] at hy; subst hy; exact h2
  · exact h.few y hy
  · rw [List.mem_singleton] at hy; subst hy; exact h3
theorem Cdx.grown {W W' : World} {B : Nat} {v : Value} {n : Nat} {ys : List Value} {xs : List CdV} (h : Cdx W xs) (ho : W.ownsRow B 170 3 v n ys) (hg : W.grownBy W' v.ownBlock) : Cdx W' xs :=
  ⟨fun x hx => rown_grown (h.toks x hx) ho (by decide) hg, fun x hx => rown_grown (h.gos x hx) ho (by decide) hg, h.few⟩
def CodesPost (W : World) (l : List FnV) (e : Ending) (w' : World) : Prop := ∃ v xs, e = .returned v ∧ w'.ownsRow W.heap.size 170 3 v xs.length (cdCs xs) ∧ Cdx w' xs ∧ xs.map (·.c) = l.map codeOf ∧ Chg [] W w'
section
variable {W : World} {A : Option Addr} {n c : Nat} {l : List FnV} {pages most : Int}
set_option maxHeartbeats 8000000 in
set_option maxRecDepth 100000 in
theorem codes_any (h : Fnr W A n c l) (hr : Readable l) (h32 : n ≤ 32) (hsz : ∀ f ∈ l, f.code.size ≤ 1000000) : Calls Try.prog 52 #[unitV pages most A n c] W (CodesPost W l) := by
  unfold unitV
  obtain ⟨i0, hi0, hz0, hz1, hz2⟩ := info_parts info_code
  have H := Lib.hid h
  have HRD := Lib.hid hr
  have HSZ := Lib.hid hsz
  clear h hr hsz
  go_enter Try.func52, Try.ntmps52
  go_upto_region 2 with fail
  have hN := Whole.new W 28 [.int .i64 pages, .int .i64 most, .slice A n c]
  have hal : Chg [] W (W.alloc (.cells #[.int .i64 pages, .int .i64 most, .slice A n c] 28)) := (Chg.refl [] W).alloc _
  have c2 := hN.cell 2
  have HC := Lib.hid hal
  obtain ⟨g, hg⟩ : ∃ g, g = W.heap.size := ⟨_, rfl⟩
  rw [← hg] at c2 ⊢
  have HG := Lib.hid (show W.heap.size = g from hg.symm)
  generalize W.alloc (.cells #[.int .i64 pages, .int .i64 most, .slice A n c] 28) = w1 at c2 HC ⊢
  clear hN hal hg
  go_wp2_with fail
  go_loopw [3, 13] (fun v i wr => ∃ k : Nat, i = .int .i64 (k : Int) ∧ k ≤ n ∧ ∃ xs : List CdV, ∃ m : Nat, m = k ∧ Hid (m = xs.length) ∧ wr.ownsRow g 170 3 v m (cdCs xs) ∧ Hid (Cdx wr xs) ∧ Hid (xs.map (·.c) = (l.take k).map codeOf) ∧ Hid (Chg [] W wr)) (fun _ i _ => n - (intOf i).toNat)
  case atStart => exact ⟨0, rfl, by omega, [], 0, rfl, Lib.hid rfl, World.ownsRow_nil _ _ _ _, Lib.hid (Cdx.nil _), Lib.hid rfl, HC⟩
  case round =>
    obtain ⟨k, rfl, hk, xs, m, hm, HXL, hown, HX, HM, HCr⟩ := hrel
    obtain rfl : k = m := hm.symm
    clear hm
    obtain ⟨Av, cv, rfl, _⟩ := rown_slice hown
    have HOW := Lib.hid hown
    clear hown
    by_cases hkn : k < n
    · have hkI : (k : Int) < (n : Int) := by omega
      obtain ⟨t, htk⟩ : ∃ t, l[k]? = some t := ⟨l[k]'(by rw [H.out.len]; exact hkn), by simp⟩
      have hmem : t ∈ l := List.mem_of_getElem? htk
      obtain ⟨ha0, ts, R, htok, hnest⟩ := HRD.out t hmem
      have hcs := HSZ.out t hmem
      have HT := Lib.hid htk
      have HTK := Lib.hid htok
      have HNE := Lib.hid hnest
      obtain ⟨fb, fo, rfl, hfbl, e0, e1, e2⟩ := (H.out.keep HCr.out).cell htk
      obtain ⟨tn, ta, tc⟩ := t
      simp only at e0 e1 e2 ha0 hcs htok
      have ha : (ta.toNat : Int) = ta := Int.toNat_of_nonneg ha0
      have HA := Lib.hid ha
      clear htk hmem htok hnest ha ha0
      go_upto_region 5 with fail
      have hX := Whole.new wr 51 [.int .i32 tn, .int .i64 ta, .string tc]
      have x1 := hX.cell 1
      have x2 := hX.cell 2
      have hc2 := (Chg.refl [] wr).alloc (.cells #[.int .i32 tn, .int .i64 ta, .string tc] 51)
      have HC2 := Lib.hid hc2
      have HO2 := Lib.hid (rown_keep HOW.out hc2)
      generalize wr.heap.size = gx at x1 x2 ⊢
      generalize wr.alloc (.cells #[.int .i32 tn, .int .i64 ta, .string tc] 51) = w3 at x1 x2 HC2 HO2 ⊢
      clear hX e0 e1 e2 hfbl hc2
      go_wp2_with fail
      refine (gtokens_any tc (by omega)).mono ?_
      rintro e w4 ⟨hc4, ⟨ts', tv, ht', htl, rfl, ho4⟩ | ⟨hno, _⟩⟩
      rotate_left
      · have := HTK.out; rw [this] at hno; cases hno
      obtain rfl : ts = ts' := by have := HTK.out; rw [this] at ht'; injection ht'
      obtain ⟨At, ct, rfl, hTk⟩ := Tks.of_own ho4 (by omega)
      have HO4 := Lib.hid (own_more_n ho4 (Nat.zero_le _))
      have HC4 := Lib.hid (HC2.out.new hc4)
      have y1 := cell_keep x1 hc4
      have HTS := Lib.hid hTk
      have HTL := Lib.hid htl
      clear hc4 x1 x2 ho4 hTk ht'
      go_wp2_with fail
      refine (nof_any HTS.out).mono ?_
      rintro e w5 ⟨hc5, ⟨tl, dd, gt, hto, htol, rfl, hW⟩ | ⟨hno, _⟩⟩
      rotate_left
      · rw [nest_same, HNE.out] at hno; cases hno
      have hRe : R.1 = tl := by rw [nest_same, HNE.out] at hto; injection hto with hto; rw [hto]
      have HW5 := Lib.hid hW
      have z1 := cell_keep y1 hc5
      have HC5 := Lib.hid (HC4.out.new hc5)
      have HO5 := Lib.hid (rown_keep HO4.out hc5)
      obtain ⟨N, hN⟩ : ∃ N, N = ts.length := ⟨_, rfl⟩
      rw [← hN] at HO5 htol htl ⊢
      have HTOK5 := Lib.hid (show w5.ownsRow 0 167 3 (.slice At N ct) N (tkCs ts) from HO5.out)
      obtain ⟨x, hx⟩ : ∃ x : CdV, x = ⟨⟨ta.toNat, ts, tl⟩, .slice At N ct, .slice (some ⟨gt, 0, none⟩) N N⟩ := ⟨_, rfl⟩
      have HCX := Lib.hid (show cdC x = [.int .i64 ta, .slice At N ct, .slice (some ⟨gt, 0, none⟩) N N] from by rw [hx]; simp only [cdC]; rw [HA.out])
      have HGO5 := Lib.hid (show w5.ownsRow 0 3 1 (.slice (some ⟨gt, 0, none⟩) N N) N (nms tl) from by
        have := own_of_whole (B := 0) (n := N) (c := N) HW5.out (Nat.zero_le _) (by rw [nms_len]; exact htol) (Nat.le_refl _) (by unfold maxLen; omega)
        rwa [List.take_of_length_le (by rw [nms_len]; omega)] at this)
      have HXC := Lib.hid (show x.c = codeOf ⟨tn, ta, tc⟩ from by rw [hx, codeOf_is HTK.out HNE.out, hRe])
      have HXX := Lib.hid (show w5.ownsRow 0 167 3 x.tv x.c.ts.length (tkCs x.c.ts) ∧ w5.ownsRow 0 3 1 x.gv x.c.go.length (nms x.c.go) ∧ (x.c.ts.length ≤ 512 ∧ x.c.go.length = x.c.ts.length) from by
        rw [hx]
        refine ⟨by rw [← hN]; exact HTOK5.out, by rw [htol]; exact HGO5.out, by rw [← hN]; exact htl, by rw [htol, hN]⟩)
      clear hc5 y1 hW hto hRe hN hx htol htl HO4 HTOK5 HGO5 HO5 HW5 HTS
      have hal : Chg [] w5 (w5.alloc (.cells #[.int .i64 ta, .slice At N ct, .slice (some ⟨gt, 0, none⟩) N N] 170)) := (Chg.refl [] w5).alloc _
      have hc35 : Chg [] wr w5 := HC5.out
      have HO6 := Lib.hid (rown_keep (rown_keep HOW.out hc35) hal)
      have HBZ := Lib.hid (show g ≤ (w5.alloc (.cells #[.int .i64 ta, .slice At N ct, .slice (some ⟨gt, 0, none⟩) N N] 170)).heap.size from by have := HG.out; have h1 := (HCr.out.new hc35).size; have h2 := hal.size; omega)
      have HAL := Lib.hid hal
      clear hal hc35
      go_wp2_with (at_builtin
                   refine wpList_append_own _ rfl (.tmp 28) (.tmp 34) _ rfl g 170 i0 _ 3 56 Try.underlying100 hi0 hz0 hz1 hz2 rfl (by decide) (.slice Av k cv) k (cdCs xs) rfl HO6.out ⟨w5.heap.size, 0, none⟩ 1 1 [.int .i64 ta, .slice At N ct, .slice (some ⟨gt, 0, none⟩) N N] rfl rfl (cells_new _ _ _) (by simp [Value.oneCell']) (by simp only [maxLen]; omega) (by omega) HBZ.out ?_
                   intro v' w6 ho hg _
                   have HO7 := Lib.hid ho
                   have HG7 := Lib.hid hg
                   obtain ⟨A7, c7, rfl, _⟩ := rown_slice ho
                   clear ho hg)
      go_roundw
      case rel =>
        have hcx := (HX.out.keep (HC5.out)).cons HXX.out.1 HXX.out.2.1 HXX.out.2.2
        refine ⟨k + 1, by go_num, by omega, xs ++ [x], k + 1, rfl, Lib.hid (by rw [List.length_append, List.length_singleton, ← HXL.out]), ?_, Lib.hid ((hcx.keep HAL.out).grown HO6.out HG7.out), Lib.hid ?_, Lib.hid ?_⟩
        · rw [cdCs_app, cdCs_one, HCX.out]; exact HO7.out
        · rw [List.map_append, HM.out, List.take_succ_eq_append_getElem (by rw [H.out.len]; exact hkn), List.map_append]
          congr 1
          have := HT.out
          simp only [List.map_cons, List.map_nil]
          rw [HXC.out]
          congr 2
          rw [List.getElem?_eq_getElem (by rw [H.out.len]; exact hkn)] at this
          injection this with this
          exact this.symm
        · exact chg_grown ((HCr.out.new HC5.out).new HAL.out) HG7.out fun q hq => by have := (HO6.out.lt q hq).1; have := HG.out; omega
      case measure => simp [intOf]; omega
    · have hkI : (n : Int) ≤ (k : Int) := by omega
      have HP := Lib.hid (show CodesPost W l (.returned (.slice Av k cv)) wr from ⟨_, xs, rfl, by rw [← HXL.out, HG.out]; exact HOW.out, HX.out, by rw [HM.out, List.take_of_length_le (by rw [H.out.len]; omega)], HCr.out⟩)
      go_wp2_with fail
      go_ret
      exact HP.out
end
end Go.Proofs.Ytfhgnoajfipjdaa
