/-
  EC: TopEnds, EgFlow, TopRun, TopAwake.
-/
import Derived.Test.YtfhgnoajfipjdaaZEC3
import Derived.Test.YtfhgnoajfipjdaaZEC10
import Derived.Test.YtfhgnoajfipjdaaZEC24
import Derived.Test.YtfhgnoajfipjdaaZEC32
import Derived.Test.YtfhgnoajfipjdaaZEC35
import Derived.BigQuiet
namespace Go.Proofs.Ytfhgnoajfipjdaa
open Go.RowKit
def oneF (code : ByteArray) : List FnV := [⟨102, 2, code⟩]
def OnePost (w : World) (code : ByteArray) (e : Ending) (w' : World) : Prop := ∃ g, e = .returned (.agg #[.int .i64 1, .int .i64 8, .slice (some ⟨g, 0, none⟩) 1 1]) ∧ w.heap.size ≤ g ∧ Whole w' g 51 (fnCs (oneF code)) ∧ Chg [] w w'
/-- What a code of one function says. -/
def EndsAs (code : ByteArray) (a b val trap : Int) : Prop := RightU 1 8 (oneF code) ∧ ∃ s', eDo (oneF code) [] 8 0 100000 [a, b] (List.replicate 64 0) [false] [] = some (val, trap, s')
def EndsPost (w : World) (val trap : Int) (e : Ending) (w' : World) : Prop := e = .returned (.tuple #[.int .i64 val, .int .i64 trap, .bool true]) ∧ Chg [] w w'
section
variable {w : World}
set_option maxHeartbeats 4000000 in
set_option maxRecDepth 100000 in
theorem tone_any (code : ByteArray) : Calls Try.prog 155 #[.string code] w (OnePost w code) := by
  have h1 : Whole (w.alloc (.cells #[.int .i64 1, .int .i64 8, .slice (some ⟨w.heap.size + 1, 0, none⟩) 1 1] 28)) w.heap.size 28 [.int .i64 1, .int .i64 8, .slice (some ⟨w.heap.size + 1, 0, none⟩) 1 1] := Whole.new w _ _
  have hal : Chg [] w (w.alloc (.cells #[.int .i64 1, .int .i64 8, .slice (some ⟨w.heap.size + 1, 0, none⟩) 1 1] 28)) := (Chg.refl [] w).alloc _
  have hsz : (w.alloc (.cells #[.int .i64 1, .int .i64 8, .slice (some ⟨w.heap.size + 1, 0, none⟩) 1 1] 28)).heap.size = w.heap.size + 1 := Array.size_push _
  have h2 := Whole.new (w.alloc (.cells #[.int .i64 1, .int .i64 8, .slice (some ⟨w.heap.size + 1, 0, none⟩) 1 1] 28)) 51 [.int .i32 102, .int .i64 2, .string code]
  rw [hsz] at h2
  have hal2 := (Chg.refl [] (w.alloc (.cells #[.int .i64 1, .int .i64 8, .slice (some ⟨w.heap.size + 1, 0, none⟩) 1 1] 28))).alloc (.cells #[.int .i32 102, .int .i64 2, .string code] 51)
  have h3 := h1.keep hal2
  have HP := Lib.hid (show OnePost w code (.returned (.agg #[.int .i64 1, .int .i64 8, .slice (some ⟨w.heap.size + 1, 0, none⟩) 1 1])) ((w.alloc (.cells #[.int .i64 1, .int .i64 8, .slice (some ⟨w.heap.size + 1, 0, none⟩) 1 1] 28)).alloc (.cells #[.int .i32 102, .int .i64 2, .string code] 51)) from ⟨_, rfl, by omega, h2, hal.new hal2⟩)
  have e0 := h3.cell 0
  have e1 := h3.cell 1
  have e2 := h3.cell 2
  clear h1 h2 h3 hal hal2 hsz
  go_enter Try.func155, Try.ntmps155
  go_wp2_with fail
  generalize (w.alloc (.cells #[.int .i64 1, .int .i64 8, .slice (some ⟨w.heap.size + 1, 0, none⟩) 1 1] 28)).alloc (.cells #[.int .i32 102, .int .i64 2, .string code] 51) = wf at HP e0 e1 e2 ⊢
  simp only [List.getElem?_cons_zero, List.getElem?_cons_succ] at e0 e1 e2
  refine bodyPost_ret (v := .agg #[.int .i64 1, .int .i64 8, .slice (some ⟨w.heap.size + 1, 0, none⟩) 1 1]) (by simp [results, Try.results155, go_sem, e0, e1, e2]) rfl HP.out
set_option maxHeartbeats 8000000 in
set_option maxRecDepth 100000 in
theorem ends_any {code : ByteArray} {a b val trap : Int} (h : EndsAs code a b val trap) : Calls Try.prog 104 #[.string code, .int .i64 a, .int .i64 b] w (EndsPost w val trap) := by
  obtain ⟨hU, s', hdo⟩ := h
  have HU := Lib.hid hU
  have HDO := Lib.hid hdo
  clear hU hdo
  go_enter Try.func104, Try.ntmps104
  go_wp2_with fail
  refine (tone_any code).mono ?_
  rintro e w1 ⟨g, rfl, hg, hW, hc1⟩
  have HW := Lib.hid hW
  have HG := Lib.hid hg
  have HC1 := Lib.hid hc1
  clear hg hW hc1
  go_wp2_with fail
  refine (cnew_yes 1 8 (by omega) (by omega)).mono ?_
  rintro e w2 ⟨p, gC, gD, rfl, hM, hp, hgC, hgD, hc2⟩
  have HM := Lib.hid hM
  have HPB := Lib.hid (And.intro hp (And.intro hgC hgD))
  have HC2 := Lib.hid hc2
  clear hM hp hgC hgD hc2
  go_wp2_with fail
  refine (rnew_any (vs := []) (rs := []) Nums.nil (fun h => absurd h (by simp)) (fun ad h => by cases h) rfl (Nat.le_refl 0) 0 rfl).mono ?_
  rintro e w3 ⟨rp, av, rfl, hR, hrp, hc3⟩
  have HR := Lib.hid hR
  have HRP := Lib.hid hrp
  have HC3 := Lib.hid hc3
  clear hR hrp hc3
  go_wp2_with fail
  have hal : Chg [] w3 (w3.alloc (.cells #[.int .i64 a, .int .i64 b] 2)) := (Chg.refl [] w3).alloc _
  have hc14 := (HC2.out.new HC3.out).new hal
  have hW4 := HW.out.keep hc14
  have hM4 := HM.out.keep (HC3.out.new hal)
  have hR4 := HR.out.keep hal
  have hglt := HW.out.lt
  have hF : Fnr (w3.alloc (.cells #[.int .i64 a, .int .i64 b] 2)) (some ⟨g, 0, none⟩) 1 1 (oneF code) := ⟨rfl, Src.of_all hW4, Nat.le_refl _, by omega, fun _ ad e => by injection e with e; subst e; rfl, fun f hf => by simp only [oneF, List.mem_singleton] at hf; subst hf; exact ⟨by show (-9223372036854775808 : Int) ≤ 2; decide, by show (2 : Int) ≤ 9223372036854775807; decide⟩⟩
  have hRun := engrun_any (T := [p, gC, gD, rp]) (args := [a, b]) (k := 0) (fuel := 100000) (m2 := 2) (c2 := 2) (A2 := some ⟨w3.heap.size, 0, none⟩) (name := 102) (f := ⟨102, 2, code⟩) hM4 hR4 hF HU.out (by simp) (by simp) (by simp) (by simp) (fun i hi => by simp [Value.ownBlock] at hi)
    (fun ad e => by
      injection e with e
      subst e
      refine ⟨hW4.lt, fun hm => ?_⟩
      have h1 := HPB.out
      have h2 := HRP.out
      have h3 := HC2.out.size
      simp only [List.mem_cons, List.not_mem_nil, or_false] at hm
      omega) rfl rfl rfl (by omega) (by simp) rfl (Src.of_all (Whole.new w3 2 [.int .i64 a, .int .i64 b])) HDO.out
  have HRUN := Lib.hid hRun
  have HCW := Lib.hid (show Chg [] w w3 from (HC1.out.new HC2.out).new HC3.out)
  have HALC := Lib.hid hal
  have HTW := Lib.hid (show ∀ i ∈ [p, gC, gD, rp], w.heap.size ≤ i from fun i hi => by
    have h1 := HPB.out
    have h2 := HRP.out
    have h3 := HC2.out.size
    have h4 := HC1.out.size
    simp only [List.mem_cons, List.not_mem_nil, or_false] at hi
    omega)
  clear hal hc14 hW4 hM4 hR4 hF hRun hglt
  unfold unitV at HRUN
  refine HRUN.out.mono ?_
  rintro e w5 ⟨v5, rfl, ⟨Av, cv, rfl, _⟩, _, _, hc5⟩
  generalize (List.drop ([] : List (Int × Int)).length s'.qs).length = m5
  generalize (s'.fuel : Int) = fu5
  have HC5 := Lib.hid (show Chg [] w w5 from (HCW.out.new HALC.out).then_ hc5 (fun i hi hl => by have := HTW.out i hi; omega))
  clear hc5
  go_upto_region 2 with fail
  have hX := Whole.new w5 34 [.int .i64 val, .int .i64 trap, .int .i64 fu5, .slice Av m5 cv]
  have hal := (Chg.refl [] w5).alloc (.cells #[.int .i64 val, .int .i64 trap, .int .i64 fu5, .slice Av m5 cv] 34)
  have HC6 := Lib.hid (HC5.out.new hal)
  generalize w5.heap.size = g5 at hX ⊢
  generalize w5.alloc (.cells #[.int .i64 val, .int .i64 trap, .int .i64 fu5, .slice Av m5 cv] 34) = w6 at hX HC6 ⊢
  have x0 := hX.cell 0
  have x1 := hX.cell 1
  clear hX hal
  go_quiet (fail)
  have HP := Lib.hid (show EndsPost w val trap (.returned (.tuple #[.int .i64 val, .int .i64 trap, .bool true])) (w6.drewN nq) from ⟨rfl, HC6.out.new ((Chg.refl [] w6).drewN nq)⟩)
  go_wp2_with fail
  go_ret3
  exact HP.out
def SaysPost (w : World) (val : Int) (e : Ending) (w' : World) : Prop := e = .returned (.tuple #[.int .i64 val, .bool true]) ∧ Chg [] w w'
set_option maxHeartbeats 4000000 in
set_option maxRecDepth 100000 in
theorem says_any {code : ByteArray} {a b val : Int} (h : EndsAs code a b val 0) : Calls Try.prog 63 #[.string code, .int .i64 a, .int .i64 b] w (SaysPost w val) := by
  go_enter Try.func63, Try.ntmps63
  go_wp2_with fail
  refine (ends_any h).mono ?_
  rintro e w1 ⟨rfl, hc1⟩
  have HP := Lib.hid (show SaysPost w val (.returned (.tuple #[.int .i64 val, .bool true])) w1 from ⟨rfl, hc1⟩)
  clear hc1 h
  go_wp2_with fail
  go_ret2
  exact HP.out
end
end Go.Proofs.Ytfhgnoajfipjdaa
namespace Go.Proofs.Ytfhgnoajfipjdaa
open Go.RowKit
open Go.Proofs.Ytfhgnoajfipjdaa (Fact)
def egTS : List TypeId := [109, 5, 4, 112]
/-- Only blocks that K holds of have turned, of the types of a run, and results; a result's variable stays one, and keeps what it has come to. -/
structure HR (K : Nat → Prop) (P : List Value → Prop) (a b : World) : Prop where
  fe : Fe K (34 :: egTS) a b
  res : ∀ g cs, Whole a g 34 cs → cs.length = 4 → ∃ cs', Whole b g 34 cs' ∧ cs'.length = 4 ∧ (P cs → P cs')
/-- .. of results alone. -/
structure RR (K : Nat → Prop) (P : List Value → Prop) (a b : World) : Prop where
  fe : Fe K [34] a b
  res : ∀ g cs, Whole a g 34 cs → cs.length = 4 → ∃ cs', Whole b g 34 cs' ∧ cs'.length = 4 ∧ (P cs → P cs')
section
variable {K : Nat → Prop} {P : List Value → Prop} {a b c : World}
theorem RR.of_chg (h : Chg [] a b) : RR K P a b := ⟨Fe.of_chg h, fun _ cs hW hl => ⟨cs, hW.keep h, hl, id⟩⟩
theorem RR.refl (a : World) : RR K P a a := RR.of_chg (Chg.refl _ _)
theorem RR.trans (h : RR K P a b) (k : RR K P b c) : RR K P a c := ⟨h.fe.trans k.fe, fun g cs hW hl => by
  obtain ⟨c1, h1, h2, h3⟩ := h.res g cs hW hl
  obtain ⟨c2, k1, k2, k3⟩ := k.res g c1 h1 h2
  exact ⟨c2, k1, k2, fun hp => k3 (h3 hp)⟩⟩
theorem RR.star (h : Star (RR K P) a b) : RR K P a b := h.fold RR.refl fun _ _ _ h k => h.trans k
theorem HR.of_chg (h : Chg [] a b) : HR K P a b := ⟨Fe.of_chg h, fun _ cs hW hl => ⟨cs, hW.keep h, hl, id⟩⟩
theorem HR.refl (a : World) : HR K P a a := HR.of_chg (Chg.refl _ _)
theorem HR.trans (h : HR K P a b) (k : HR K P b c) : HR K P a c := ⟨h.fe.trans k.fe, fun g cs hW hl => by
  obtain ⟨c1, h1, h2, h3⟩ := h.res g cs hW hl
  obtain ⟨c2, k1, k2, k3⟩ := k.res g c1 h1 h2
  exact ⟨c2, k1, k2, fun hp => k3 (h3 hp)⟩⟩
theorem HR.of_rr {B : Nat} {Tl : List Nat} (h : RR (fun k => B ≤ k ∨ k ∈ []) P a b) : HR (fun k => B ≤ k ∨ k ∈ Tl) P a b := by
  refine ⟨⟨h.fe.os, h.fe.tape, h.fe.output, h.fe.size, fun k hk hc => h.fe.block k hk ?_⟩, h.res⟩
  rcases hc with hc | hc
  · exact .inl fun hm => hc (hm.imp id (fun h => by cases h))
  · exact .inr fun cs t fz e hm => hc cs t fz e (by simp only [List.mem_singleton] at hm; subst hm; exact List.mem_cons_self)
theorem HR.of_fe (h : Fe K egTS a b) : HR K P a b := ⟨h.sub (fun t ht => List.mem_cons_of_mem _ ht), fun g cs hW hl => ⟨cs, h.whole hW (by decide), hl, id⟩⟩
end
/-- What a run's result comes to. -/
def resP (val trap fuel : Int) (cs : List Value) : Prop := ∃ A m c, cs = [.int .i64 val, .int .i64 trap, .int .i64 fuel, .slice A m c]
def efT (B : Nat) (Tl : List Nat) (P : List Value → Prop) (hard soft : List Nat) : Turns := ⟨RR (fun k => B ≤ k ∨ k ∈ []) P, HR (fun k => B ≤ k ∨ k ∈ Tl) P, hard, soft⟩
def memF (B : Nat) (L : List UInt8) (V : List Bool) (most : Nat) : Fact := fun v W => ∃ p gC gD X Y, v = .pointer (some ⟨p, 0, none⟩) ∧ Mm W p gC gD L X V Y most ∧ B ≤ p ∧ B ≤ gC ∧ B ≤ gD
def rowEF (B : Nat) (rs : List (Option Int)) : Fact := fun v W => ∃ rp a, v = .pointer (some ⟨rp, 0, none⟩) ∧ Rq W rp rs [] a (.slice none 0 0) ∧ B ≤ rp
def ranF (val trap fuel : Int) (P : Value → Prop) : Fact := fun v _ => ∃ u, v = .tuple #[.agg #[.int .i64 val, .int .i64 trap, .int .i64 fuel, u], .int .i64 0] ∧ P u
def aggF (val trap fuel : Int) (P : Value → Prop) : Fact := fun v _ => ∃ u, v = .agg #[.int .i64 val, .int .i64 trap, .int .i64 fuel, u] ∧ P u
def varF (B : Nat) : Fact := fun v W => ∃ g cs, v = .pointer (some ⟨g, 0, none⟩) ∧ B ≤ g ∧ Whole W g 34 cs ∧ cs.length = 4
def putF (B : Nat) (P : List Value → Prop) : Fact := fun v W => ∃ g cs, v = .pointer (some ⟨g, 0, none⟩) ∧ B ≤ g ∧ Whole W g 34 cs ∧ cs.length = 4 ∧ P cs
def isSl (u : Value) : Prop := ∃ A m c, u = .slice A m c
section
variable {B : Nat} {Tl : List Nat} {P : List Value → Prop} {hard soft : List Nat} {K : Nat → Prop}
theorem efT_ok : (efT B Tl P hard soft).Ok := ⟨RR.refl, fun _ _ h => HR.of_rr h, fun _ _ _ h k => HR.trans h k⟩
theorem ef_by (k : Nat) {W W' : World} (h : Chg [] W W') : (efT B Tl P hard soft).by_ k W W' := by
  unfold Turns.by_
  split
  · exact HR.of_chg h
  · exact RR.of_chg h
theorem ef_rr (k : Nat) {W W' : World} (h : RR (fun k => B ≤ k ∨ k ∈ []) P W W') : (efT B Tl P hard soft).by_ k W W' := by
  unfold Turns.by_
  split
  · exact HR.of_rr h
  · exact h
theorem ef_hard {k : Nat} (hk : hard.contains k = true) {W W' : World} (h : HR (fun k => B ≤ k ∨ k ∈ Tl) P W W') : (efT B Tl P hard soft).by_ k W W' := by
  unfold Turns.by_
  rw [if_pos (show (efT B Tl P hard soft).hard.contains k = true from hk)]
  exact h
theorem keeps_mem (L : List UInt8) (V : List Bool) (most : Nat) : Keeps (RR K P) (memF B L V most) := fun _ _ _ ⟨p, gC, gD, X, Y, e, hM, h⟩ hc => ⟨p, gC, gD, X, Y, e, hc.fe.mm hM (by decide) (by decide) (by decide), h⟩
theorem keeps_rowE (rs : List (Option Int)) : Keeps (RR K P) (rowEF B rs) := fun _ _ _ ⟨rp, a, e, hR, h⟩ hc => ⟨rp, a, e, hR.fe hc.fe (by decide) (by decide) (by decide), h⟩
theorem keeps_ran {R : World → World → Prop} (val trap fuel : Int) (Q : Value → Prop) : Keeps R (ranF val trap fuel Q) := fun _ _ _ h _ => h
theorem keeps_agg {R : World → World → Prop} (val trap fuel : Int) (Q : Value → Prop) : Keeps R (aggF val trap fuel Q) := fun _ _ _ h _ => h
theorem keeps_var : Keeps (RR K P) (varF B) := fun _ _ _ ⟨g, cs, e, hB, hW, hl⟩ hc => by
  obtain ⟨c1, h1, h2, _⟩ := hc.res g cs hW hl
  exact ⟨g, c1, e, hB, h1, h2⟩
theorem keeps_varH : Keeps (HR K P) (varF B) := fun _ _ _ ⟨g, cs, e, hB, hW, hl⟩ hc => by
  obtain ⟨c1, h1, h2, _⟩ := hc.res g cs hW hl
  exact ⟨g, c1, e, hB, h1, h2⟩
theorem keeps_put : Keeps (RR K P) (putF B P) := fun _ _ _ ⟨g, cs, e, hB, hW, hl, hp⟩ hc => by
  obtain ⟨c1, h1, h2, h3⟩ := hc.res g cs hW hl
  exact ⟨g, c1, e, hB, h1, h2, h3 hp⟩
theorem keeps_putH : Keeps (HR K P) (putF B P) := fun _ _ _ ⟨g, cs, e, hB, hW, hl, hp⟩ hc => by
  obtain ⟨c1, h1, h2, h3⟩ := hc.res g cs hW hl
  exact ⟨g, c1, e, hB, h1, h2, h3 hp⟩
end
section
variable {T : Turns} {w0 : World} {a0 : Act} {ops : List Oper} {Q : Exit → Act → World → Prop} {F : Said} {k : Nat} {rest : List Oper} {o : Oper}
  {d : Option Tmp} {ty : TypeId} {pos : String} {af : Array Go.Edge} {g : Option (Nat × Bool)} {B : Nat} {Tl : List Nat} {P : List Value → Prop} {hard soft : List Nat}
theorem ef_size {W : World} (hB : B ≤ w0.heap.size) (hW : (efT B Tl P hard soft).H w0 W) : B ≤ W.heap.size := Nat.le_trans hB hW.fe.size
/-- A new memory. -/
theorem ef_new {f : FuncId} {args : Array Operand} {ats : Array TypeId} (pg ms : Nat) (h1 : pg ≤ ms) (h2 : ms ≤ 64) (hB : B ≤ w0.heap.size) (hs : soft.contains k = true) (hfid : f = 14) (hf : callsB Try.prog f = true)
    (hargs : Dets a0 F args.toList [.int .i64 (pg : Int), .int .i64 (ms : Int)])
    (hg : guardIs ops F true ⟨d, .call { callee := .value (.func f), args := args, argTypes := ats }, ty, pos, af, g⟩) (hd0 : d ≠ none)
    (h : F2.Flow Try.prog (efT B Tl P hard soft) w0 a0 ops Q ((d, memF B (zeros (pg * 64)) (falses pg) ms) :: F) (k + 1) rest) : F2.Flow Try.prog (efT B Tl P hard soft) w0 a0 ops Q F k (⟨d, .call { callee := .value (.func f), args := args, argTypes := ats }, ty, pos, af, g⟩ :: rest) := by
  subst hfid
  refine F2.flow_calld (memF B (zeros (pg * 64)) (falses pg) ms) (keeps_mem _ _ _) (.inl hs) hf hg hargs (fun W hW => (cnew_yes pg ms h1 h2).mono ?_) h hd0
  rintro e w1 ⟨p, gC, gD, rfl, hM, hp, hC, hD, hc⟩
  have hBW := ef_size hB hW
  exact ⟨_, rfl, ef_by _ hc, p, gC, gD, _, _, rfl, hM, by omega, by omega, by omega⟩
/-- New answers: none. -/
theorem ef_row {f : FuncId} {args : Array Operand} {ats : Array TypeId} (hB : B ≤ w0.heap.size) (hs : soft.contains k = true) (hfid : f = 15) (hf : callsB Try.prog f = true)
    (hargs : Dets a0 F args.toList [.slice none 0 0])
    (hg : guardIs ops F true ⟨d, .call { callee := .value (.func f), args := args, argTypes := ats }, ty, pos, af, g⟩) (hd0 : d ≠ none)
    (h : F2.Flow Try.prog (efT B Tl P hard soft) w0 a0 ops Q ((d, rowEF B []) :: F) (k + 1) rest) : F2.Flow Try.prog (efT B Tl P hard soft) w0 a0 ops Q F k (⟨d, .call { callee := .value (.func f), args := args, argTypes := ats }, ty, pos, af, g⟩ :: rest) := by
  subst hfid
  refine F2.flow_calld (rowEF B []) (keeps_rowE _) (.inl hs) hf hg hargs (fun W hW => (rnew_any (vs := []) (rs := []) Nums.nil (fun h => absurd h (by simp)) (fun ad h => by cases h) rfl (Nat.le_refl 0) 0 rfl).mono ?_) h hd0
  rintro e w1 ⟨rp, a, rfl, hR, hrp, hc⟩
  have hBW := ef_size hB hW
  exact ⟨_, rfl, ef_by _ hc, rp, a, rfl, hR, by omega⟩
/-- The variable. -/
theorem ef_var (hB : B ≤ w0.heap.size) (hg : guardIs ops F true ⟨d, .alloc 34, ty, pos, af, g⟩) (hd0 : d ≠ none)
    (hrun : ∀ ev W, (execOp ev ⟨d, .alloc 34, ty, pos, af, g⟩).run Try.prog W = .ok (.value (.pointer (some ⟨W.heap.size, 0, none⟩))) (W.alloc (.cells #[.int .i64 0, .int .i64 0, .int .i64 0, .slice none 0 0] 34)))
    (h : F2.Flow Try.prog (efT B Tl P hard soft) w0 a0 ops Q ((d, varF B) :: F) (k + 1) rest) : F2.Flow Try.prog (efT B Tl P hard soft) w0 a0 ops Q F k (⟨d, .alloc 34, ty, pos, af, g⟩ :: rest) := by
  refine F2.flow_op (varF B) keeps_var (.inr keeps_varH) hg (fun ev W _ hW _ => ?_) h hd0
  rw [hrun ev W]
  exact ⟨ef_by _ ((Chg.refl [] W).alloc _), _, _, rfl, ef_size hB hW, Whole.new W _ [.int .i64 0, .int .i64 0, .int .i64 0, .slice none 0 0], rfl⟩
/-- What comes of the run is parted. -/
theorem ef_x0 {t : Tmp} {val trap fuel : Int} {q : Value → Prop} (hs : look F t = some (ranF val trap fuel q)) (hg : guardIs ops F true ⟨d, .extract (.tmp t) 0, ty, pos, af, g⟩) (hd0 : d ≠ none)
    (h : F2.Flow Try.prog (efT B Tl P hard soft) w0 a0 ops Q ((d, aggF val trap fuel q) :: F) (k + 1) rest) : F2.Flow Try.prog (efT B Tl P hard soft) w0 a0 ops Q F k (⟨d, .extract (.tmp t) 0, ty, pos, af, g⟩ :: rest) := by
  refine F2.flow_op (aggF val trap fuel q) (keeps_agg _ _ _ _) (.inr (keeps_agg _ _ _ _)) hg (fun ev W he hW hf => ?_) h hd0
  have h1 : factOf a0 F (.tmp t) (ev (.tmp t)) W := hf.1
  simp only [factOf, hs] at h1
  obtain ⟨u, e1, hu⟩ := h1
  have hr : (execOp ev ⟨d, .extract (.tmp t) 0, ty, pos, af, g⟩).run Try.prog W = .ok (.value (.agg #[.int .i64 val, .int .i64 trap, .int .i64 fuel, u])) W := by simp [execOp, e1, go_sem]
  rw [hr]
  exact ⟨ef_by _ (Chg.refl _ _), u, rfl, hu⟩
theorem ef_x1 {t : Tmp} {val trap fuel : Int} {q : Value → Prop} (hs : look F t = some (ranF val trap fuel q)) (hg : guardIs ops F true ⟨d, .extract (.tmp t) 1, ty, pos, af, g⟩) (hd0 : d ≠ none)
    (h : F2.Flow Try.prog (efT B Tl P hard soft) w0 a0 ops Q ((d, isV (.int .i64 0)) :: F) (k + 1) rest) : F2.Flow Try.prog (efT B Tl P hard soft) w0 a0 ops Q F k (⟨d, .extract (.tmp t) 1, ty, pos, af, g⟩ :: rest) := by
  refine F2.flow_op (isV (.int .i64 0)) (keeps_isV _) (.inr (keeps_isV _)) hg (fun ev W he hW hf => ?_) h hd0
  have h1 : factOf a0 F (.tmp t) (ev (.tmp t)) W := hf.1
  simp only [factOf, hs] at h1
  obtain ⟨u, e1, hu⟩ := h1
  have hr : (execOp ev ⟨d, .extract (.tmp t) 1, ty, pos, af, g⟩).run Try.prog W = .ok (.value (.int .i64 0)) W := by simp [execOp, e1, go_sem]
  rw [hr]
  exact ⟨ef_by _ (Chg.refl _ _), rfl⟩
/-- It is laid into the variable. -/
theorem ef_put {t s : Tmp} {val trap fuel : Int} {q : Value → Prop} (hv : look F t = some (varF B)) (ha : look F s = some (aggF val trap fuel q)) (hP : ∀ u, q u → P [.int .i64 val, .int .i64 trap, .int .i64 fuel, u]) (hq : ∀ u, q u → u.oneCell' = true)
    (hg : guardIs ops F true ⟨none, .store 34 (.tmp t) (.tmp s), ty, pos, af, g⟩)
    (h : F2.Flow Try.prog (efT B Tl P hard soft) w0 a0 ops Q ((none, putF B P) :: F) (k + 1) rest) : F2.Flow Try.prog (efT B Tl P hard soft) w0 a0 ops Q F k (⟨none, .store 34 (.tmp t) (.tmp s), ty, pos, af, g⟩ :: rest) := by
  refine F2.flow_store (putF B P) (t := t) rfl rfl keeps_put (.inr keeps_putH) hg (fun ev W he hW hf => ?_) h
  have h1 : factOf a0 F (.tmp t) (ev (.tmp t)) W := hf.1
  have h2 : factOf a0 F (.tmp s) (ev (.tmp s)) W := hf.2.1
  simp only [factOf, hv] at h1
  simp only [factOf, ha] at h2
  obtain ⟨gv, cs, e1, hB, hWh, hl⟩ := h1
  obtain ⟨u, e2, hu⟩ := h2
  have hr : (execOp ev ⟨none, .store 34 (.tmp t) (.tmp s), ty, pos, af, g⟩).run Try.prog W = .ok .skip (W.setRow gv #[.int .i64 val, .int .i64 trap, .int .i64 fuel, u]) := by
    unfold execOp
    have h1 : (#[.int .i64 val, .int .i64 trap, .int .i64 fuel, u] : Array Value).all (·.oneCell') = true := by
      rw [← Array.all_toList]
      show (true && (true && (true && (u.oneCell' && true)))) = true
      rw [hq u hu]; rfl
    have hi : (Try.prog.info? 34).map (·.size) = some (#[.int .i64 val, .int .i64 trap, .int .i64 fuel, u] : Array Value).size := (show (Try.prog.info? 34).map (·.size) = some 4 by kernel_rfl)
    simp only [e1, e2, Instr.storeAt, Instr.sureAddr, Sem.run_bind, Sem.run_pure, Result.andThen_ok, run_storeVar_row W gv 34 34 cs.toArray #[.int .i64 val, .int .i64 trap, .int .i64 fuel, u] hWh hi (by simp [hl]) h1]
  rw [hr]
  have hW2 : Whole (W.setRow gv #[.int .i64 val, .int .i64 trap, .int .i64 fuel, u]) gv 34 [.int .i64 val, .int .i64 trap, .int .i64 fuel, u] := setRow_whole hWh
  refine ⟨ef_rr _ ⟨?_, fun g2 c2 h2 hl2 => ?_⟩, gv, _, e1, hB, hW2, rfl, hP u hu⟩
  · refine ⟨rfl, rfl, rfl, by simp [World.setRow], fun i hi hc => ?_⟩
    refine Go.setRow_other W gv i _ (fun e => ?_)
    subst e
    rcases hc with hc | hc
    · exact hc (.inl hB)
    · exact hc _ _ _ hWh (List.mem_cons_self)
  · by_cases hgg : g2 = gv
    · subst hgg
      exact ⟨_, hW2, rfl, fun _ => hP u hu⟩
    · exact ⟨c2, (Go.setRow_other W gv g2 _ hgg).trans h2, hl2, id⟩
/-- The run. -/
theorem ef_run {f : FuncId} {x1 x4 x5 xa : Operand} {tm tr : Tmp} {ats : Array TypeId} {pages most : Int} {A : Option Addr} {n c kf fuel m2 mm : Nat} {l : List FnV} {L : List UInt8} {V : List Bool} {rs : List (Option Int)} {name : Int} {args : List Int} {fn : FnV} {val trap : Int} {s' : EgV} (q : Value → Prop)
    (hB : B = w0.heap.size) (hTl : Tl = []) (hk : hard.contains k = true) (hfid : f = 13) (hf : callsB Try.prog f = true)
    (h1 : Det a0 F x1 (unitV pages most A n c)) (hm : look F tm = some (memF B L V mm)) (hr : look F tr = some (rowEF B rs)) (h4 : Det a0 F x4 (.int .i32 name)) (h5 : Det a0 F x5 (.int .i64 (fuel : Int)))
    (ha : ∀ (ev : Operand → Value) W, Chg [] w0 W → factOf a0 F xa (ev xa) W → ∃ A2 c2, ev xa = .slice A2 m2 c2 ∧ Src W A2 (nms args))
    (hF : Fnr w0 A n c l) (hAb : ∀ ad, A = some ad → ad.block < w0.heap.size) (hU : RightU pages most l) (hki : findI l name = (kf : Int)) (hfk : l[kf]? = some fn) (hfa : fn.args = (args.length : Int)) (hfu : fuel ≤ 1048576) (hm2 : m2 = args.length)
    (hdo : eDo l rs mm kf fuel args L V [] = some (val, trap, s')) (hq : ∀ A c, q (.slice A s'.qs.length c))
    (hg : guardIs ops F true ⟨d, .call { callee := .value (.func f), args := #[x1, .tmp tm, .tmp tr, x4, x5, xa], argTypes := ats }, ty, pos, af, g⟩) (hd0 : d ≠ none)
    (h : F2.Flow Try.prog (efT B Tl P hard soft) w0 a0 ops Q ((d, ranF val trap (s'.fuel : Int) q) :: F) (k + 1) rest) : F2.Flow Try.prog (efT B Tl P hard soft) w0 a0 ops Q F k (⟨d, .call { callee := .value (.func f), args := #[x1, .tmp tm, .tmp tr, x4, x5, xa], argTypes := ats }, ty, pos, af, g⟩ :: rest) := by
  subst hfid
  refine F2.flow_call (ranF val trap (s'.fuel : Int) q) (keeps_ran _ _ _ _) (.inr (keeps_ran _ _ _ _)) hf hg (fun ev W he hW hfs => ?_) h hd0
  have hc0 : Chg [] w0 W := by
    have := hW.fe
    subst hTl
    exact this.chg (by omega)
  obtain ⟨f1, f2, f3, f4, f5, f6, _⟩ := hfs
  have e1 := h1.at f1
  simp only [factOf, hm] at f2
  simp only [factOf, hr] at f3
  have e4 := h4.at f4
  have e5 := h5.at f5
  obtain ⟨p, gC, gD, X, Y, e2, hM, hp, hgC, hgD⟩ := f2
  obtain ⟨rp, av, e3, hR, hrp⟩ := f3
  obtain ⟨A2, c2, e6, hS⟩ := ha ev W hc0 f6
  have hbW := hc0.size
  show Calls _ _ #[ev x1, ev (.tmp tm), ev (.tmp tr), ev x4, ev x5, ev xa] W _
  rw [e1, e2, e3, e4, e5, e6]
  refine (engrun_any (T := [p, gC, gD, rp]) hM hR (hF.keep hc0) hU (by simp) (by simp) (by simp) (by simp) (fun i hi => by simp [Value.ownBlock] at hi)
    (fun ad e => ⟨Nat.lt_of_lt_of_le (hAb ad e) hbW, fun hm => by
      have := hAb ad e
      simp only [List.mem_cons, List.not_mem_nil, or_false] at hm
      omega⟩) hki hfk hfa hfu (by simp) hm2 hS hdo).mono ?_
  rintro e w5 ⟨v5, rfl, ⟨Av, cv, rfl, _⟩, _, _, hc5⟩
  refine ⟨_, rfl, ef_hard hk (HR.of_fe (Fe.of_chgT hc5 (fun i hi => ?_) (fun i hi => ?_))), _, rfl, ?_⟩
  · simp only [List.mem_cons, List.not_mem_nil, or_false] at hi
    have w1 : W.heap[p]? = _ := hM.rec_
    have w2 : W.heap[gC]? = _ := hM.cel
    have w3 : W.heap[gD]? = _ := hM.dir
    have w4 : W.heap[rp]? = _ := hR.rec_
    rcases hi with rfl | rfl | rfl | rfl
    · refine ⟨.inl (by omega), fun cs t fz e => ?_⟩
      rw [w1] at e; injection e with e; injection e with _ e _; subst e; decide
    · refine ⟨.inl (by omega), fun cs t fz e => ?_⟩
      rw [w2] at e; injection e with e; injection e with _ e _; subst e; decide
    · refine ⟨.inl (by omega), fun cs t fz e => ?_⟩
      rw [w3] at e; injection e with e; injection e with _ e _; subst e; decide
    · refine ⟨.inl (by omega), fun cs t fz e => ?_⟩
      rw [w4] at e; injection e with e; injection e with _ e _; subst e; decide
  · simp only [List.mem_cons, List.not_mem_nil, or_false] at hi
    rcases hi with rfl | rfl | rfl | rfl
    · exact ⟨_, _, _, hM.rec_⟩
    · exact ⟨_, _, _, hM.cel⟩
    · exact ⟨_, _, _, hM.dir⟩
    · exact ⟨_, _, _, hR.rec_⟩
  · have := hq Av cv
    simpa using this
end
end Go.Proofs.Ytfhgnoajfipjdaa
namespace Go.Proofs.Ytfhgnoajfipjdaa
open Go.RowKit
/-- One call, with fuel, stack, place and the first locals. -/
def mk (f : Nat) (st : List Int) (pc : Nat) (loc : List Int) : EgV := ⟨f, st, [⟨0, pc, loc ++ List.replicate (26 - loc.length) 0⟩], List.replicate 64 0, [false], []⟩
theorem ends_of {code : ByteArray} {ts : List TkV} {go : List Int} (htok : tokR code = some ts) (hnest : (rNest (signs ts)).map (·.1) = some go) (hok : (rFn (oneF code) 0).1 = 0) (hsz : code.size ≤ 1000000) {a b val : Int} {s' : EgV} (hr : Rn (oneF code) [⟨2, ts, go⟩] [] 8 (mk 100000 [] 0 [a, b]) (0, s')) (hv : s'.st.getLast? = some val) : EndsAs code a b val 0 := by
  refine ⟨⟨by decide, by decide, by decide, by simp [oneF], fun k f hf => ?_, fun k hk => ?_, fun f hf => ?_⟩, ?_⟩
  · cases k with
    | zero => simp only [oneF, List.getElem?_cons_zero, Option.some.injEq] at hf; subst hf; exact ⟨by show nameB 102 = true; decide, by simp [findI, findK, oneF], by show (0 : Int) ≤ 2; decide, by show (2 : Int) ≤ 4; decide⟩
    | succ k => simp [oneF] at hf
  · obtain rfl : k = 0 := by simp [oneF] at hk; omega
    exact hok
  · simp only [oneF, List.mem_singleton] at hf
    subst hf
    exact hsz
  · refine ⟨⟨s'.fuel, s'.st.dropLast, s'.cs, s'.L, s'.V, s'.qs⟩, ?_⟩
    have hcd : (oneF code).map codeOf = [⟨2, ts, go⟩] := by
      show [codeOf ⟨102, 2, code⟩] = _
      unfold codeOf
      simp only
      rw [htok]
      simp only
      cases hn : rNest (signs ts) with
      | none => rw [hn] at hnest; cases hnest
      | some R => rw [hn] at hnest; simp only [Option.map_some, Option.some.injEq] at hnest; rw [← hnest]; rfl
    unfold eDo
    rw [hcd]
    rw [show eCall [(⟨2, ts, go⟩ : CodeV)] 0 ⟨100000, [a, b], [], List.replicate 64 0, [false], []⟩ = some (mk 100000 [] 0 [a, b]) from rfl]
    simp only
    rw [hr.run (2 * 100000 + 2) (by show 2 * 100000 + 1 < _; omega)]
    simp only [if_true]
    unfold EgV.pop
    rw [hv]
    rfl
end Go.Proofs.Ytfhgnoajfipjdaa
namespace Go.Proofs.Ytfhgnoajfipjdaa
open Go.RowKit
def awkC : ByteArray := ⟨#[49, 32, 50, 43]⟩
def awkT : List TkV := [⟨48, 1, 0⟩, ⟨48, 2, 0⟩, ⟨43, 0, 0⟩]
def awkG : List Int := [(-1), (-1), (-1)]
theorem awk_tok : tokR awkC = some awkT := by kernel_rfl
theorem awk_nest : (rNest (signs awkT)).map (·.1) = some awkG := by decide +kernel
theorem awk_ok : (rFn (oneF awkC) 0).1 = 0 := by decide +kernel
theorem awk_run : EndsAs awkC 0 0 3 0 := by
  refine ends_of (s' := ⟨99997, [3], [], List.replicate 64 0, [false], []⟩) awk_tok awk_nest awk_ok (by decide) ?_ (by rfl)
  refine Rn.on (s' := mk 99999 [1] 1 [0, 0]) (by kernel_rfl) ?_
  refine Rn.on (s' := mk 99998 [1, 2] 2 [0, 0]) (by kernel_rfl) ?_
  refine Rn.on (s' := mk 99997 [3] 3 [0, 0]) (by kernel_rfl) ?_
  refine Rn.on (s' := ⟨99997, [3], [], List.replicate 64 0, [false], []⟩) (by kernel_rfl) ?_
  exact Rn.stop (by kernel_rfl)
section
variable {w : World}
set_option maxHeartbeats 4000000 in
set_option maxRecDepth 100000 in
theorem awake_any : Calls Try.prog 23 #[] w (LawPost w) := by
  go_enter Try.func23, Try.ntmps23
  go_wp2_with fail
  refine (says_any awk_run).mono ?_
  rintro e w1 ⟨rfl, hc1⟩
  have HP := Lib.hid (show LawPost w (.returned (.bool true)) w1 from ⟨rfl, hc1⟩)
  clear hc1
  go_wp2_with fail
  go_ret
  exact HP.out
end
end Go.Proofs.Ytfhgnoajfipjdaa
