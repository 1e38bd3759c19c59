/-
  Drawn regions in which a program is run on a new memory with new answers, and what comes of it is laid into a variable.
-/
import Derived.Test.YtnohfdojcdhfoaaZTopRun1
import Derived.Test.YtnohfdojcdhfoaaZTopRun2
import Derived.Test.YtnohfdojcdhfoaaZTopRun3
import Derived.Test.YtnohfdojcdhfoaaZTopRun4
import Derived.Test.YtnohfdojcdhfoaaZTopRun5
import Derived.Test.YtnohfdojcdhfoaaZTopRun6
import Derived.Test.YtnohfdojcdhfoaaZTopRun7
import Derived.Test.YtnohfdojcdhfoaaZTopRun8
import Derived.Test.YtnohfdojcdhfoaaZTopRun9
import Derived.Test.YtnohfdojcdhfoaaFrameZ
import Derived.Test.YtnohfdojcdhfoaaTopRunZ
import Derived.Test.YtnohfdojcdhfoaaTopAwakeZ
import Derived.Test.YtnohfdojcdhfoaaTopMaskZ
import Derived.Test.YtnohfdojcdhfoaaTopMemZ
import Derived.Test.YtnohfdojcdhfoaaTopRunZ
import Derived.Test.YtnohfdojcdhfoaaFlow2Z
namespace Go.Proofs.Ytnohfdojcdhfoaa
open Go.RowKit
open Go.Proofs.Ytnohfdojcdhfoaa (Fact)
def egTS : List TypeId := [83, 5, 4, 77]
/-- Only blocks that K holds of have turned, of the types of a run, and results; a result's variable stays one, and keeps what it has come to. -/
structure HR (K : Nat → Prop) (P : List Value → Prop) (a b : World) : Prop where
  fe : Fe K (34 :: egTS) a b
  res : ∀ g cs, Whole a g 34 cs → cs.length = 4 → ∃ cs', Whole b g 34 cs' ∧ cs'.length = 4 ∧ (P cs → P cs')
/-- .. of results alone. -/
structure RR (K : Nat → Prop) (P : List Value → Prop) (a b : World) : Prop where
  fe : Fe K [34] a b
  res : ∀ g cs, Whole a g 34 cs → cs.length = 4 → ∃ cs', Whole b g 34 cs' ∧ cs'.length = 4 ∧ (P cs → P cs')
section
variable {K : Nat → Prop} {P : List Value → Prop} {a b c : World}
theorem RR.of_chg (h : Chg [] a b) : RR K P a b := ⟨Fe.of_chg h, fun _ cs hW hl => ⟨cs, hW.keep h, hl, id⟩⟩
theorem RR.refl (a : World) : RR K P a a := RR.of_chg (Chg.refl _ _)
theorem RR.trans (h : RR K P a b) (k : RR K P b c) : RR K P a c := ⟨h.fe.trans k.fe, fun g cs hW hl => by
  obtain ⟨c1, h1, h2, h3⟩ := h.res g cs hW hl
  obtain ⟨c2, k1, k2, k3⟩ := k.res g c1 h1 h2
  exact ⟨c2, k1, k2, fun hp => k3 (h3 hp)⟩⟩
theorem RR.star (h : Star (RR K P) a b) : RR K P a b := h.fold RR.refl fun _ _ _ h k => h.trans k
theorem HR.of_chg (h : Chg [] a b) : HR K P a b := ⟨Fe.of_chg h, fun _ cs hW hl => ⟨cs, hW.keep h, hl, id⟩⟩
theorem HR.refl (a : World) : HR K P a a := HR.of_chg (Chg.refl _ _)
theorem HR.trans (h : HR K P a b) (k : HR K P b c) : HR K P a c := ⟨h.fe.trans k.fe, fun g cs hW hl => by
  obtain ⟨c1, h1, h2, h3⟩ := h.res g cs hW hl
  obtain ⟨c2, k1, k2, k3⟩ := k.res g c1 h1 h2
  exact ⟨c2, k1, k2, fun hp => k3 (h3 hp)⟩⟩
theorem HR.of_rr {B : Nat} {Tl : List Nat} (h : RR (fun k => B ≤ k ∨ k ∈ []) P a b) : HR (fun k => B ≤ k ∨ k ∈ Tl) P a b := by
  refine ⟨⟨h.fe.os, h.fe.tape, h.fe.output, h.fe.size, fun k hk hc => h.fe.block k hk ?_⟩, h.res⟩
  rcases hc with hc | hc
  · exact .inl fun hm => hc (hm.imp id (fun h => by cases h))
  · exact .inr fun cs t fz e hm => hc cs t fz e (by simp only [List.mem_singleton] at hm; subst hm; exact List.mem_cons_self)
theorem HR.of_fe (h : Fe K egTS a b) : HR K P a b := ⟨h.sub (fun t ht => List.mem_cons_of_mem _ ht), fun g cs hW hl => ⟨cs, h.whole hW (by decide), hl, id⟩⟩
end
/-- What a run's result comes to. -/
def resP (val trap fuel : Int) (cs : List Value) : Prop := ∃ A m c, cs = [.int .i64 val, .int .i64 trap, .int .i64 fuel, .slice A m c]
def efT (B : Nat) (Tl : List Nat) (P : List Value → Prop) (hard soft : List Nat) : Turns := ⟨RR (fun k => B ≤ k ∨ k ∈ []) P, HR (fun k => B ≤ k ∨ k ∈ Tl) P, hard, soft⟩
def memF (B : Nat) (L : List UInt8) (V : List Bool) (most : Nat) : Fact := fun v W => ∃ p gC gD X Y, v = .pointer (some ⟨p, 0, none⟩) ∧ Mm W p gC gD L X V Y most ∧ B ≤ p ∧ B ≤ gC ∧ B ≤ gD
def rowEF (B : Nat) (rs : List (Option Int)) : Fact := fun v W => ∃ rp a, v = .pointer (some ⟨rp, 0, none⟩) ∧ Rq W rp rs [] a (.slice none 0 0) ∧ B ≤ rp
def argsF (B : Nat) (n : Nat) (xs : List Int) : Fact := fun v W => ∃ g, v = .slice (some ⟨g, 0, none⟩) n n ∧ Whole W g 2 (nms xs) ∧ B ≤ g
def ranF (val trap fuel : Int) (P : Value → Prop) : Fact := fun v _ => ∃ u, v = .tuple #[.agg #[.int .i64 val, .int .i64 trap, .int .i64 fuel, u], .int .i64 0] ∧ P u
def aggF (val trap fuel : Int) (P : Value → Prop) : Fact := fun v _ => ∃ u, v = .agg #[.int .i64 val, .int .i64 trap, .int .i64 fuel, u] ∧ P u
def varF (B : Nat) : Fact := fun v W => ∃ g cs, v = .pointer (some ⟨g, 0, none⟩) ∧ B ≤ g ∧ Whole W g 34 cs ∧ cs.length = 4
def putF (B : Nat) (P : List Value → Prop) : Fact := fun v W => ∃ g cs, v = .pointer (some ⟨g, 0, none⟩) ∧ B ≤ g ∧ Whole W g 34 cs ∧ cs.length = 4 ∧ P cs
def isSl (u : Value) : Prop := ∃ A m c, u = .slice A m c
section
variable {B : Nat} {Tl : List Nat} {P : List Value → Prop} {hard soft : List Nat} {K : Nat → Prop}
theorem efT_ok : (efT B Tl P hard soft).Ok := ⟨RR.refl, fun _ _ h => HR.of_rr h, fun _ _ _ h k => HR.trans h k⟩
theorem ef_by (k : Nat) {W W' : World} (h : Chg [] W W') : (efT B Tl P hard soft).by_ k W W' := by
  unfold Turns.by_
  split
  · exact HR.of_chg h
  · exact RR.of_chg h
theorem ef_rr (k : Nat) {W W' : World} (h : RR (fun k => B ≤ k ∨ k ∈ []) P W W') : (efT B Tl P hard soft).by_ k W W' := by
  unfold Turns.by_
  split
  · exact HR.of_rr h
  · exact h
theorem ef_hard {k : Nat} (hk : hard.contains k = true) {W W' : World} (h : HR (fun k => B ≤ k ∨ k ∈ Tl) P W W') : (efT B Tl P hard soft).by_ k W W' := by
  unfold Turns.by_
  rw [if_pos (show (efT B Tl P hard soft).hard.contains k = true from hk)]
  exact h
theorem keeps_mem (L : List UInt8) (V : List Bool) (most : Nat) : Keeps (RR K P) (memF B L V most) := fun _ _ _ ⟨p, gC, gD, X, Y, e, hM, h⟩ hc => ⟨p, gC, gD, X, Y, e, hc.fe.mm hM (by decide) (by decide) (by decide), h⟩
theorem keeps_rowE (rs : List (Option Int)) : Keeps (RR K P) (rowEF B rs) := fun _ _ _ ⟨rp, a, e, hR, h⟩ hc => ⟨rp, a, e, hR.fe hc.fe (by decide) (by decide) (by decide), h⟩
theorem keeps_args {n : Nat} (xs : List Int) : Keeps (RR K P) (argsF B n xs) := fun _ _ _ ⟨g, e, hW, h⟩ hc => ⟨g, e, hc.fe.whole hW (by decide), h⟩
theorem keeps_argsH {n : Nat} (xs : List Int) : Keeps (HR K P) (argsF B n xs) := fun _ _ _ ⟨g, e, hW, h⟩ hc => ⟨g, e, hc.fe.whole hW (by decide), h⟩
theorem keeps_ran {R : World → World → Prop} (val trap fuel : Int) (Q : Value → Prop) : Keeps R (ranF val trap fuel Q) := fun _ _ _ h _ => h
theorem keeps_agg {R : World → World → Prop} (val trap fuel : Int) (Q : Value → Prop) : Keeps R (aggF val trap fuel Q) := fun _ _ _ h _ => h
theorem keeps_var : Keeps (RR K P) (varF B) := fun _ _ _ ⟨g, cs, e, hB, hW, hl⟩ hc => by
  obtain ⟨c1, h1, h2, _⟩ := hc.res g cs hW hl
  exact ⟨g, c1, e, hB, h1, h2⟩
theorem keeps_varH : Keeps (HR K P) (varF B) := fun _ _ _ ⟨g, cs, e, hB, hW, hl⟩ hc => by
  obtain ⟨c1, h1, h2, _⟩ := hc.res g cs hW hl
  exact ⟨g, c1, e, hB, h1, h2⟩
theorem keeps_put : Keeps (RR K P) (putF B P) := fun _ _ _ ⟨g, cs, e, hB, hW, hl, hp⟩ hc => by
  obtain ⟨c1, h1, h2, h3⟩ := hc.res g cs hW hl
  exact ⟨g, c1, e, hB, h1, h2, h3 hp⟩
theorem keeps_putH : Keeps (HR K P) (putF B P) := fun _ _ _ ⟨g, cs, e, hB, hW, hl, hp⟩ hc => by
  obtain ⟨c1, h1, h2, h3⟩ := hc.res g cs hW hl
  exact ⟨g, c1, e, hB, h1, h2, h3 hp⟩
end
section
variable {T : Turns} {w0 : World} {a0 : Act} {ops : List Oper} {Q : Exit → Act → World → Prop} {F : Said} {k : Nat} {rest : List Oper} {o : Oper}
  {d : Option Tmp} {ty : TypeId} {pos : String} {af : Array Edge} {g : Option (Nat × Bool)} {B : Nat} {Tl : List Nat} {P : List Value → Prop} {hard soft : List Nat}
theorem ef_size {W : World} (hB : B ≤ w0.heap.size) (hW : (efT B Tl P hard soft).H w0 W) : B ≤ W.heap.size := Nat.le_trans hB hW.fe.size
/-- A new memory. -/
theorem ef_new {f : FuncId} {args : Array Operand} {ats : Array TypeId} (pg ms : Nat) (h1 : pg ≤ ms) (h2 : ms ≤ 64) (hB : B ≤ w0.heap.size) (hs : soft.contains k = true) (hfid : f = 31) (hf : callsB Try.prog f = true)
    (hargs : Dets a0 F args.toList [.int .i64 (pg : Int), .int .i64 (ms : Int)])
    (hg : guardIs ops F true ⟨d, .call { callee := .value (.func f), args := args, argTypes := ats }, ty, pos, af, g⟩) (hd0 : d ≠ none)
    (h : F2.Flow Try.prog (efT B Tl P hard soft) w0 a0 ops Q ((d, memF B (zeros (pg * 64)) (falses pg) ms) :: F) (k + 1) rest) : F2.Flow Try.prog (efT B Tl P hard soft) w0 a0 ops Q F k (⟨d, .call { callee := .value (.func f), args := args, argTypes := ats }, ty, pos, af, g⟩ :: rest) := by
  subst hfid
  refine F2.flow_calld (memF B (zeros (pg * 64)) (falses pg) ms) (keeps_mem _ _ _) (.inl hs) hf hg hargs (fun W hW => (cnew_yes pg ms h1 h2).mono ?_) h hd0
  rintro e w1 ⟨p, gC, gD, rfl, hM, hp, hC, hD, hc⟩
  have hBW := ef_size hB hW
  exact ⟨_, rfl, ef_by _ hc, p, gC, gD, _, _, rfl, hM, by omega, by omega, by omega⟩
/-- New answers: none. -/
theorem ef_row {f : FuncId} {args : Array Operand} {ats : Array TypeId} (hB : B ≤ w0.heap.size) (hs : soft.contains k = true) (hfid : f = 30) (hf : callsB Try.prog f = true)
    (hargs : Dets a0 F args.toList [.slice none 0 0])
    (hg : guardIs ops F true ⟨d, .call { callee := .value (.func f), args := args, argTypes := ats }, ty, pos, af, g⟩) (hd0 : d ≠ none)
    (h : F2.Flow Try.prog (efT B Tl P hard soft) w0 a0 ops Q ((d, rowEF B []) :: F) (k + 1) rest) : F2.Flow Try.prog (efT B Tl P hard soft) w0 a0 ops Q F k (⟨d, .call { callee := .value (.func f), args := args, argTypes := ats }, ty, pos, af, g⟩ :: rest) := by
  subst hfid
  refine F2.flow_calld (rowEF B []) (keeps_rowE _) (.inl hs) hf hg hargs (fun W hW => (rnew_any (vs := []) (rs := []) Nums.nil (fun h => absurd h (by simp)) (fun ad h => by cases h) rfl (Nat.le_refl 0) 0 rfl).mono ?_) h hd0
  rintro e w1 ⟨rp, a, rfl, hR, hrp, hc⟩
  have hBW := ef_size hB hW
  exact ⟨_, rfl, ef_by _ hc, rp, a, rfl, hR, by omega⟩
/-- Args. -/
theorem ef_args {op : Op} (n : Nat) (xs : List Int) (hB : B ≤ w0.heap.size) (hrun : ∀ ev W, EvOk ev → allFacts a0 F ev W op.operands.toList → (execOp ev ⟨d, op, ty, pos, af, g⟩).run Try.prog W = .ok (.value (.slice (some ⟨W.heap.size, 0, none⟩) n n)) (W.alloc (.cells (nms xs).toArray 2)))
    (hg : guardIs ops F true ⟨d, op, ty, pos, af, g⟩) (hd0 : d ≠ none)
    (h : F2.Flow Try.prog (efT B Tl P hard soft) w0 a0 ops Q ((d, argsF B n xs) :: F) (k + 1) rest) : F2.Flow Try.prog (efT B Tl P hard soft) w0 a0 ops Q F k (⟨d, op, ty, pos, af, g⟩ :: rest) := by
  refine F2.flow_op (argsF B n xs) (keeps_args _) (.inr (keeps_argsH _)) hg (fun ev W he hW hf => ?_) h hd0
  rw [hrun ev W he hf]
  exact ⟨ef_by _ ((Chg.refl [] W).alloc _), _, rfl, Whole.new W _ _, ef_size hB hW⟩
/-- The variable. -/
theorem ef_var (hB : B ≤ w0.heap.size) (hg : guardIs ops F true ⟨d, .alloc 34, ty, pos, af, g⟩) (hd0 : d ≠ none)
    (hrun : ∀ ev W, (execOp ev ⟨d, .alloc 34, ty, pos, af, g⟩).run Try.prog W = .ok (.value (.pointer (some ⟨W.heap.size, 0, none⟩))) (W.alloc (.cells #[.int .i64 0, .int .i64 0, .int .i64 0, .slice none 0 0] 34)))
    (h : F2.Flow Try.prog (efT B Tl P hard soft) w0 a0 ops Q ((d, varF B) :: F) (k + 1) rest) : F2.Flow Try.prog (efT B Tl P hard soft) w0 a0 ops Q F k (⟨d, .alloc 34, ty, pos, af, g⟩ :: rest) := by
  refine F2.flow_op (varF B) keeps_var (.inr keeps_varH) hg (fun ev W _ hW _ => ?_) h hd0
  rw [hrun ev W]
  exact ⟨ef_by _ ((Chg.refl [] W).alloc _), _, _, rfl, ef_size hB hW, Whole.new W _ [.int .i64 0, .int .i64 0, .int .i64 0, .slice none 0 0], rfl⟩
/-- What comes of the run is parted. -/
theorem ef_x0 {t : Tmp} {val trap fuel : Int} {q : Value → Prop} (hs : look F t = some (ranF val trap fuel q)) (hg : guardIs ops F true ⟨d, .extract (.tmp t) 0, ty, pos, af, g⟩) (hd0 : d ≠ none)
    (h : F2.Flow Try.prog (efT B Tl P hard soft) w0 a0 ops Q ((d, aggF val trap fuel q) :: F) (k + 1) rest) : F2.Flow Try.prog (efT B Tl P hard soft) w0 a0 ops Q F k (⟨d, .extract (.tmp t) 0, ty, pos, af, g⟩ :: rest) := by
  refine F2.flow_op (aggF val trap fuel q) (keeps_agg _ _ _ _) (.inr (keeps_agg _ _ _ _)) hg (fun ev W he hW hf => ?_) h hd0
  have h1 : factOf a0 F (.tmp t) (ev (.tmp t)) W := hf.1
  simp only [factOf, hs] at h1
  obtain ⟨u, e1, hu⟩ := h1
  have hr : (execOp ev ⟨d, .extract (.tmp t) 0, ty, pos, af, g⟩).run Try.prog W = .ok (.value (.agg #[.int .i64 val, .int .i64 trap, .int .i64 fuel, u])) W := by simp [execOp, e1, go_sem]
  rw [hr]
  exact ⟨ef_by _ (Chg.refl _ _), u, rfl, hu⟩
theorem ef_x1 {t : Tmp} {val trap fuel : Int} {q : Value → Prop} (hs : look F t = some (ranF val trap fuel q)) (hg : guardIs ops F true ⟨d, .extract (.tmp t) 1, ty, pos, af, g⟩) (hd0 : d ≠ none)
    (h : F2.Flow Try.prog (efT B Tl P hard soft) w0 a0 ops Q ((d, isV (.int .i64 0)) :: F) (k + 1) rest) : F2.Flow Try.prog (efT B Tl P hard soft) w0 a0 ops Q F k (⟨d, .extract (.tmp t) 1, ty, pos, af, g⟩ :: rest) := by
  refine F2.flow_op (isV (.int .i64 0)) (keeps_isV _) (.inr (keeps_isV _)) hg (fun ev W he hW hf => ?_) h hd0
  have h1 : factOf a0 F (.tmp t) (ev (.tmp t)) W := hf.1
  simp only [factOf, hs] at h1
  obtain ⟨u, e1, hu⟩ := h1
  have hr : (execOp ev ⟨d, .extract (.tmp t) 1, ty, pos, af, g⟩).run Try.prog W = .ok (.value (.int .i64 0)) W := by simp [execOp, e1, go_sem]
  rw [hr]
  exact ⟨ef_by _ (Chg.refl _ _), rfl⟩
/-- It is laid into the variable. -/
theorem ef_put {t s : Tmp} {val trap fuel : Int} {q : Value → Prop} (hv : look F t = some (varF B)) (ha : look F s = some (aggF val trap fuel q)) (hP : ∀ u, q u → P [.int .i64 val, .int .i64 trap, .int .i64 fuel, u]) (hq : ∀ u, q u → u.oneCell' = true)
    (hg : guardIs ops F true ⟨none, .store 34 (.tmp t) (.tmp s), ty, pos, af, g⟩)
    (h : F2.Flow Try.prog (efT B Tl P hard soft) w0 a0 ops Q ((none, putF B P) :: F) (k + 1) rest) : F2.Flow Try.prog (efT B Tl P hard soft) w0 a0 ops Q F k (⟨none, .store 34 (.tmp t) (.tmp s), ty, pos, af, g⟩ :: rest) := by
  refine F2.flow_store (putF B P) (t := t) rfl rfl keeps_put (.inr keeps_putH) hg (fun ev W he hW hf => ?_) h
  have h1 : factOf a0 F (.tmp t) (ev (.tmp t)) W := hf.1
  have h2 : factOf a0 F (.tmp s) (ev (.tmp s)) W := hf.2.1
  simp only [factOf, hv] at h1
  simp only [factOf, ha] at h2
  obtain ⟨gv, cs, e1, hB, hWh, hl⟩ := h1
  obtain ⟨u, e2, hu⟩ := h2
  have hr : (execOp ev ⟨none, .store 34 (.tmp t) (.tmp s), ty, pos, af, g⟩).run Try.prog W = .ok .skip (W.setRow gv #[.int .i64 val, .int .i64 trap, .int .i64 fuel, u]) := by
    unfold execOp
    have h1 : (#[.int .i64 val, .int .i64 trap, .int .i64 fuel, u] : Array Value).all (·.oneCell') = true := by
      rw [← Array.all_toList]
      show (true && (true && (true && (u.oneCell' && true)))) = true
      rw [hq u hu]; rfl
    have hi : (Try.prog.info? 34).map (·.size) = some (#[.int .i64 val, .int .i64 trap, .int .i64 fuel, u] : Array Value).size := (show (Try.prog.info? 34).map (·.size) = some 4 by kernel_rfl)
    simp only [e1, e2, Instr.storeAt, Instr.sureAddr, Sem.run_bind, Sem.run_pure, Result.andThen_ok, run_storeVar_row W gv 34 34 cs.toArray #[.int .i64 val, .int .i64 trap, .int .i64 fuel, u] hWh hi (by simp [hl]) h1]
  rw [hr]
  have hW2 : Whole (W.setRow gv #[.int .i64 val, .int .i64 trap, .int .i64 fuel, u]) gv 34 [.int .i64 val, .int .i64 trap, .int .i64 fuel, u] := setRow_whole hWh
  refine ⟨ef_rr _ ⟨?_, fun g2 c2 h2 hl2 => ?_⟩, gv, _, e1, hB, hW2, rfl, hP u hu⟩
  · refine ⟨rfl, rfl, rfl, by simp [World.setRow], fun i hi hc => ?_⟩
    refine Go.setRow_other W gv i _ (fun e => ?_)
    subst e
    rcases hc with hc | hc
    · exact hc (.inl hB)
    · exact hc _ _ _ hWh (List.mem_cons_self)
  · by_cases hgg : g2 = gv
    · subst hgg
      exact ⟨_, hW2, rfl, fun _ => hP u hu⟩
    · exact ⟨c2, (Go.setRow_other W gv g2 _ hgg).trans h2, hl2, id⟩
/-- The run. -/
theorem ef_run {f : FuncId} {x1 x4 x5 xa : Operand} {tm tr : Tmp} {ats : Array TypeId} {pages most : Int} {A : Option Addr} {n c kf fuel m2 mm : Nat} {l : List FnV} {L : List UInt8} {V : List Bool} {rs : List (Option Int)} {name : Int} {args : List Int} {fn : FnV} {val trap : Int} {s' : EgV} (q : Value → Prop)
    (hB : B = w0.heap.size) (hTl : Tl = []) (hk : hard.contains k = true) (hfid : f = 32) (hf : callsB Try.prog f = true)
    (h1 : Det a0 F x1 (unitV pages most A n c)) (hm : look F tm = some (memF B L V mm)) (hr : look F tr = some (rowEF B rs)) (h4 : Det a0 F x4 (.int .i32 name)) (h5 : Det a0 F x5 (.int .i64 (fuel : Int)))
    (ha : ∀ (ev : Operand → Value) W, Chg [] w0 W → factOf a0 F xa (ev xa) W → ∃ A2 c2, ev xa = .slice A2 m2 c2 ∧ Src W A2 (nms args))
    (hF : Fnr w0 A n c l) (hAb : ∀ ad, A = some ad → ad.block < w0.heap.size) (hU : RightU pages most l) (hki : findI l name = (kf : Int)) (hfk : l[kf]? = some fn) (hfa : fn.args = (args.length : Int)) (hfu : fuel ≤ 1048576) (hm2 : m2 = args.length)
    (hdo : eDo l rs mm kf fuel args L V [] = some (val, trap, s')) (hq : ∀ A c, q (.slice A s'.qs.length c))
    (hg : guardIs ops F true ⟨d, .call { callee := .value (.func f), args := #[x1, .tmp tm, .tmp tr, x4, x5, xa], argTypes := ats }, ty, pos, af, g⟩) (hd0 : d ≠ none)
    (h : F2.Flow Try.prog (efT B Tl P hard soft) w0 a0 ops Q ((d, ranF val trap (s'.fuel : Int) q) :: F) (k + 1) rest) : F2.Flow Try.prog (efT B Tl P hard soft) w0 a0 ops Q F k (⟨d, .call { callee := .value (.func f), args := #[x1, .tmp tm, .tmp tr, x4, x5, xa], argTypes := ats }, ty, pos, af, g⟩ :: rest) := by
  subst hfid
  refine F2.flow_call (ranF val trap (s'.fuel : Int) q) (keeps_ran _ _ _ _) (.inr (keeps_ran _ _ _ _)) hf hg (fun ev W he hW hfs => ?_) h hd0
  have hc0 : Chg [] w0 W := by
    have := hW.fe
    subst hTl
    exact this.chg (by omega)
  obtain ⟨f1, f2, f3, f4, f5, f6, _⟩ := hfs
  have e1 := h1.at f1
  simp only [factOf, hm] at f2
  simp only [factOf, hr] at f3
  have e4 := h4.at f4
  have e5 := h5.at f5
  obtain ⟨p, gC, gD, X, Y, e2, hM, hp, hgC, hgD⟩ := f2
  obtain ⟨rp, av, e3, hR, hrp⟩ := f3
  obtain ⟨A2, c2, e6, hS⟩ := ha ev W hc0 f6
  have hbW := hc0.size
  show Calls _ _ #[ev x1, ev (.tmp tm), ev (.tmp tr), ev x4, ev x5, ev xa] W _
  rw [e1, e2, e3, e4, e5, e6]
  refine (engrun_any (T := [p, gC, gD, rp]) hM hR (hF.keep hc0) hU (by simp) (by simp) (by simp) (by simp) (fun i hi => by simp [Value.ownBlock] at hi)
    (fun ad e => ⟨Nat.lt_of_lt_of_le (hAb ad e) hbW, fun hm => by
      have := hAb ad e
      simp only [List.mem_cons, List.not_mem_nil, or_false] at hm
      omega⟩) hki hfk hfa hfu (by simp) hm2 hS hdo).mono ?_
  rintro e w5 ⟨v5, rfl, ⟨Av, cv, rfl, _⟩, _, _, hc5⟩
  refine ⟨_, rfl, ef_hard hk (HR.of_fe (Fe.of_chgT hc5 (fun i hi => ?_) (fun i hi => ?_))), _, rfl, ?_⟩
  · simp only [List.mem_cons, List.not_mem_nil, or_false] at hi
    have w1 : W.heap[p]? = _ := hM.rec_
    have w2 : W.heap[gC]? = _ := hM.cel
    have w3 : W.heap[gD]? = _ := hM.dir
    have w4 : W.heap[rp]? = _ := hR.rec_
    rcases hi with rfl | rfl | rfl | rfl
    · refine ⟨.inl (by omega), fun cs t fz e => ?_⟩
      rw [w1] at e; injection e with e; injection e with _ e _; subst e; decide
    · refine ⟨.inl (by omega), fun cs t fz e => ?_⟩
      rw [w2] at e; injection e with e; injection e with _ e _; subst e; decide
    · refine ⟨.inl (by omega), fun cs t fz e => ?_⟩
      rw [w3] at e; injection e with e; injection e with _ e _; subst e; decide
    · refine ⟨.inl (by omega), fun cs t fz e => ?_⟩
      rw [w4] at e; injection e with e; injection e with _ e _; subst e; decide
  · simp only [List.mem_cons, List.not_mem_nil, or_false] at hi
    rcases hi with rfl | rfl | rfl | rfl
    · exact ⟨_, _, _, hM.rec_⟩
    · exact ⟨_, _, _, hM.cel⟩
    · exact ⟨_, _, _, hM.dir⟩
    · exact ⟨_, _, _, hR.rec_⟩
  · have := hq Av cv
    simpa using this
/-- What comes of a run on a memory that was there. -/
def ranM (val trap fuel : Int) (q : Value → Prop) (p : Nat) (L : List UInt8) (V : List Bool) (most : Nat) : Fact := fun v W => (∃ u, v = .tuple #[.agg #[.int .i64 val, .int .i64 trap, .int .i64 fuel, u], .int .i64 0] ∧ q u) ∧ ∃ gC gD X Y, Mm W p gC gD L X V Y most
theorem keeps_ranM {K : Nat → Prop} (val trap fuel : Int) (q : Value → Prop) (p : Nat) (L : List UInt8) (V : List Bool) (most : Nat) : Keeps (RR K P) (ranM val trap fuel q p L V most) := fun _ _ _ ⟨h, gC, gD, X, Y, hM⟩ hc => ⟨h, gC, gD, X, Y, hc.fe.mm hM (by decide) (by decide) (by decide)⟩
/-- The run, on a memory that was there. -/
theorem ef_runM {f : FuncId} {x1 x2 x4 x5 xa : Operand} {tr : Tmp} {ats : Array TypeId} {pages most : Int} {A : Option Addr} {n c kf fuel m2 mm p gC gD : Nat} {l : List FnV} {L : List UInt8} {V : List Bool} {X Y : List Value} {rs : List (Option Int)} {name : Int} {args : List Int} {fn : FnV} {val trap : Int} {s' : EgV} (q : Value → Prop)
    (hB : B = w0.heap.size) (hTl : Tl = [p, gC, gD]) (hk : hard.contains k = true) (hs : soft.contains k = true) (he : earlyB (efT B Tl P hard soft) ops k = true) (hfid : f = 32) (hf : callsB Try.prog f = true)
    (h1 : Det a0 F x1 (unitV pages most A n c)) (h2 : Det a0 F x2 (.pointer (some ⟨p, 0, none⟩))) (hM0 : Mm w0 p gC gD L X V Y mm) (hr : look F tr = some (rowEF B rs)) (h4 : Det a0 F x4 (.int .i32 name)) (h5 : Det a0 F x5 (.int .i64 (fuel : Int)))
    (ha : ∀ (ev : Operand → Value) W, EvOk ev → Chg [] w0 W → factOf a0 F xa (ev xa) W → ∃ A2 c2, ev xa = .slice A2 m2 c2 ∧ Src W A2 (nms args))
    (hF : Fnr w0 A n c l) (hAb : ∀ ad, A = some ad → ad.block < w0.heap.size ∧ ad.block ∉ [p, gC, gD]) (hU : RightU pages most l) (hki : findI l name = (kf : Int)) (hfk : l[kf]? = some fn) (hfa : fn.args = (args.length : Int)) (hfu : fuel ≤ 1048576) (hm2 : m2 = args.length)
    (hdo : eDo l rs mm kf fuel args L V [] = some (val, trap, s')) (hq : ∀ A c, q (.slice A s'.qs.length c))
    (hg : guardIs ops F true ⟨d, .call { callee := .value (.func f), args := #[x1, x2, .tmp tr, x4, x5, xa], argTypes := ats }, ty, pos, af, g⟩) (hd0 : d ≠ none)
    (h : F2.Flow Try.prog (efT B Tl P hard soft) w0 a0 ops Q ((d, ranM val trap (s'.fuel : Int) q p s'.L s'.V mm) :: F) (k + 1) rest) : F2.Flow Try.prog (efT B Tl P hard soft) w0 a0 ops Q F k (⟨d, .call { callee := .value (.func f), args := #[x1, x2, .tmp tr, x4, x5, xa], argTypes := ats }, ty, pos, af, g⟩ :: rest) := by
  subst hfid
  refine F2.flow_early (ranM val trap (s'.fuel : Int) q p s'.L s'.V mm) (keeps_ranM _ _ _ _ _ _ _ _) (.inl hs) hg he (fun ev W hev hW hfs => ?_) h hd0
  have hc0 : Chg [] w0 W := (RR.star hW).fe.chg (by omega)
  rw [run_call hev hf]
  have hfs' : allFacts a0 F ev W [.func 32, x1, x2, .tmp tr, x4, x5, xa] := by
    have e : (Op.call { callee := .value (.func 32), args := #[x1, x2, .tmp tr, x4, x5, xa], argTypes := ats }).operands.toList = [.func 32, x1, x2, .tmp tr, x4, x5, xa] := by
      simp [Op.operands, Call.operands]
    rw [← e]; exact hfs
  obtain ⟨_, f1, f2, f3, f4, f5, f6, _⟩ := hfs'
  have e1 := h1.at f1
  have e2 := h2.at f2
  simp only [factOf, hr] at f3
  have e4 := h4.at f4
  have e5 := h5.at f5
  obtain ⟨rp, av, e3, hR, hrp⟩ := f3
  obtain ⟨A2, c2, e6, hS⟩ := ha ev W hev hc0 f6
  have hbW := hc0.size
  have hM := hM0.keep hc0
  rw [show Array.map ev #[x1, x2, .tmp tr, x4, x5, xa] = #[ev x1, ev x2, ev (.tmp tr), ev x4, ev x5, ev xa] by simp]
  unfold Leaves
  simp only
  rw [e1, e2, e3, e4, e5, e6]
  have b1 : p < w0.heap.size := hM0.rec_.lt
  have b2 : gC < w0.heap.size := hM0.cel.lt
  have b3 : gD < w0.heap.size := hM0.dir.lt
  refine (engrun_any (T := [p, gC, gD, rp]) hM hR (hF.keep hc0) hU (by simp) (by simp) (by simp) (by simp) (fun i hi => by simp [Value.ownBlock] at hi)
    (fun ad e => ⟨Nat.lt_of_lt_of_le (hAb ad e).1 hbW, fun hm => by
      have h1 := (hAb ad e).1
      have h2 := (hAb ad e).2
      simp only [List.mem_cons, List.not_mem_nil, or_false] at hm h2
      omega⟩) hki hfk hfa hfu (by simp) hm2 hS hdo).mono ?_
  rintro e w5 ⟨v5, rfl, ⟨Av, cv, rfl, _⟩, ⟨gC5, gD5, X5, Y5, hM5, _⟩, _, hc5⟩
  refine ⟨_, rfl, ef_hard hk (HR.of_fe (Fe.of_chgT hc5 (fun i hi => ?_) (fun i hi => ?_))), ⟨_, rfl, ?_⟩, gC5, gD5, X5, Y5, hM5⟩
  · simp only [List.mem_cons, List.not_mem_nil, or_false] at hi
    have w1 : W.heap[p]? = _ := hM.rec_
    have w2 : W.heap[gC]? = _ := hM.cel
    have w3 : W.heap[gD]? = _ := hM.dir
    have w4 : W.heap[rp]? = _ := hR.rec_
    subst hTl
    rcases hi with rfl | rfl | rfl | rfl
    · refine ⟨.inr (by simp), fun cs t fz e => ?_⟩
      rw [w1] at e; injection e with e; injection e with _ e _; subst e; decide
    · refine ⟨.inr (by simp), fun cs t fz e => ?_⟩
      rw [w2] at e; injection e with e; injection e with _ e _; subst e; decide
    · refine ⟨.inr (by simp), fun cs t fz e => ?_⟩
      rw [w3] at e; injection e with e; injection e with _ e _; subst e; decide
    · refine ⟨.inl (by omega), fun cs t fz e => ?_⟩
      rw [w4] at e; injection e with e; injection e with _ e _; subst e; decide
  · simp only [List.mem_cons, List.not_mem_nil, or_false] at hi
    rcases hi with rfl | rfl | rfl | rfl
    · exact ⟨_, _, _, hM.rec_⟩
    · exact ⟨_, _, _, hM.cel⟩
    · exact ⟨_, _, _, hM.dir⟩
    · exact ⟨_, _, _, hR.rec_⟩
  · have := hq Av cv
    simpa using this
theorem ef_moveM {t : Tmp} {val trap fuel : Int} {q : Value → Prop} {p most : Nat} {L : List UInt8} {V : List Bool} (hs : look F t = some (ranM val trap fuel q p L V most)) (hg : guardIs ops F true ⟨d, .move (.tmp t), ty, pos, af, g⟩) (hd0 : d ≠ none)
    (h : F2.Flow Try.prog (efT B Tl P hard soft) w0 a0 ops Q ((d, ranF val trap fuel q) :: F) (k + 1) rest) : F2.Flow Try.prog (efT B Tl P hard soft) w0 a0 ops Q F k (⟨d, .move (.tmp t), ty, pos, af, g⟩ :: rest) := by
  refine F2.flow_op (ranF val trap fuel q) (keeps_ran _ _ _ _) (.inr (keeps_ran _ _ _ _)) hg (fun ev W he hW hf => ?_) h hd0
  have h1 : factOf a0 F (.tmp t) (ev (.tmp t)) W := hf.1
  simp only [factOf, hs] at h1
  exact ⟨ef_by _ (Chg.refl _ _), h1.1⟩
end
theorem run_of {q : Option (Int × Int × EgV)} {v t : Int} (h : q.map (fun q => (q.1, q.2.1)) = some (v, t)) : ∃ s', q = some (v, t, s') := by
  cases q with
  | none => cases h
  | some q =>
    obtain ⟨x, y, s'⟩ := q
    simp only [Option.map_some, Option.some.injEq, Prod.mk.injEq] at h
    obtain ⟨rfl, rfl⟩ := h
    exact ⟨s', rfl⟩
/-- A unit that was written out. -/
theorem unit_laid (w : World) (l : List FnV) (pages most : Int) (n : Nat) (hl : l.length = n) (hn : n ≤ 32) (ha : ∀ f ∈ l, -9223372036854775808 ≤ f.args ∧ f.args ≤ 9223372036854775807) {W : World} (cs : Array Value) (hcs : (fnCs l).toArray = cs)
    (hW : (w.alloc (.cells cs 28)).alloc (.cells #[.int .i64 pages, .int .i64 most, .slice (some ⟨w.heap.size, 0, none⟩) n n] 31) = W) :
    Whole W (w.heap.size + 1) 31 [.int .i64 pages, .int .i64 most, .slice (some ⟨w.heap.size, 0, none⟩) n n] ∧ Fnr W (some ⟨w.heap.size, 0, none⟩) n n l ∧ Chg [] w W ∧ W.heap.size = w.heap.size + 2 := by
  subst hW hcs
  have h1 : Whole (w.alloc (.cells (fnCs l).toArray 28)) w.heap.size 28 (fnCs l) := Whole.new w _ _
  have hs1 : (w.alloc (.cells (fnCs l).toArray 28)).heap.size = w.heap.size + 1 := Array.size_push _
  have h2 := Whole.new (w.alloc (.cells (fnCs l).toArray 28)) 31 [.int .i64 pages, .int .i64 most, .slice (some ⟨w.heap.size, 0, none⟩) n n]
  have hal := (Chg.refl [] (w.alloc (.cells (fnCs l).toArray 28))).alloc (.cells #[.int .i64 pages, .int .i64 most, .slice (some ⟨w.heap.size, 0, none⟩) n n] 31)
  rw [hs1] at h2
  refine ⟨h2, ⟨hl, Src.of_all (h1.keep hal), Nat.le_refl _, by omega, fun _ ad e => by injection e with e; subst e; rfl, ha⟩, ((Chg.refl [] w).alloc _).new hal, ?_⟩
  show (Array.push _ _).size = _
  rw [Array.size_push, hs1]
end Go.Proofs.Ytnohfdojcdhfoaa
