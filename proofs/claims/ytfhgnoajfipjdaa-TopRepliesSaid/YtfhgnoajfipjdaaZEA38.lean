/-
  EA: EgFlowW.
-/
import Derived.Test.YtfhgnoajfipjdaaZEA37
namespace Go.Proofs.Ytfhgnoajfipjdaa
open Go.RowKit
open Go.Proofs.Ytfhgnoajfipjdaa (Fact)
/-- What stays, whatever is laid into results. -/
def KeepP {α : Type} (P : World → α → Prop) : Prop := ∀ (K : Nat → Prop) a b cs, Fe K [34] a b → P a cs → P b cs
def resW (val trap fuel : Int) (Pu : World → Value → Prop) (W : World) (cs : List Value) : Prop := ∃ u, cs = [.int .i64 val, .int .i64 trap, .int .i64 fuel, u] ∧ Pu W u
theorem keepP_res {val trap fuel : Int} {Pu : World → Value → Prop} (h : KeepP Pu) : KeepP (resW val trap fuel Pu) := fun K a b _ hf ⟨u, e, hu⟩ => ⟨u, e, h K a b u hf hu⟩
/-- Only blocks that K holds of have turned, of these types; a result's variable stays one, and keeps what it has come to. -/
structure WR (TS : List TypeId) (K : Nat → Prop) (P : World → List Value → Prop) (a b : World) : Prop where
  fe : Fe K TS a b
  res : ∀ g cs, Whole a g 34 cs → cs.length = 4 → ∃ cs', Whole b g 34 cs' ∧ cs'.length = 4 ∧ (P a cs → P b cs')
section
variable {TS TS' : List TypeId} {K K' : Nat → Prop} {P : World → List Value → Prop} {a b c : World}
theorem WR.of_chg (hP : KeepP P) (h : Chg [] a b) : WR TS K P a b := ⟨Fe.of_chg h, fun _ cs hW hl => ⟨cs, hW.keep h, hl, hP K a b cs (Fe.of_chg h)⟩⟩
theorem WR.refl (a : World) : WR TS K P a a := ⟨Fe.refl _ _ _, fun _ cs hW hl => ⟨cs, hW, hl, id⟩⟩
theorem WR.trans (h : WR TS K P a b) (k : WR TS K P b c) : WR TS K P a c := ⟨h.fe.trans k.fe, fun g cs hW hl => by
  obtain ⟨c1, h1, h2, h3⟩ := h.res g cs hW hl
  obtain ⟨c2, k1, k2, k3⟩ := k.res g c1 h1 h2
  exact ⟨c2, k1, k2, fun hp => k3 (h3 hp)⟩⟩
theorem WR.star (h : Star (WR TS K P) a b) : WR TS K P a b := h.fold WR.refl fun _ _ _ h k => h.trans k
theorem WR.sub (h : WR TS K P a b) (hT : ∀ t, t ∈ TS → t ∈ TS') (hK : ∀ k, K k → K' k) : WR TS' K' P a b := by
  refine ⟨⟨h.fe.os, h.fe.tape, h.fe.output, h.fe.size, fun k hk hc => h.fe.block k hk ?_⟩, h.res⟩
  rcases hc with hc | hc
  · exact .inl fun hm => hc (hK k hm)
  · exact .inr fun cs t fz e hm => hc cs t fz e (hT t hm)
end
def ewT (B : Nat) (Tl : List Nat) (TS : List TypeId) (P : World → List Value → Prop) (hard soft : List Nat) : Turns := ⟨WR [34] (fun k => B ≤ k ∨ k ∈ []) P, WR TS (fun k => B ≤ k ∨ k ∈ Tl) P, hard, soft⟩
def ranW (val trap fuel : Int) (Pu : World → Value → Prop) : Fact := fun v W => ∃ u, v = .tuple #[.agg #[.int .i64 val, .int .i64 trap, .int .i64 fuel, u], .int .i64 0] ∧ Pu W u
def aggW (val trap fuel : Int) (Pu : World → Value → Prop) : Fact := fun v W => ∃ u, v = .agg #[.int .i64 val, .int .i64 trap, .int .i64 fuel, u] ∧ Pu W u
def putW (B : Nat) (P : World → List Value → Prop) : Fact := fun v W => ∃ g cs, v = .pointer (some ⟨g, 0, none⟩) ∧ B ≤ g ∧ Whole W g 34 cs ∧ cs.length = 4 ∧ P W cs
/-- A memory: one of the region's own, or one that was there. -/
def memW (B : Nat) (Tl : List Nat) (mp : Nat → Nat → Nat → Prop) (L : List UInt8) (V : List Bool) (most : Nat) : Fact := fun v W => ∃ p gC gD X Y, v = .pointer (some ⟨p, 0, none⟩) ∧ Mm W p gC gD L X V Y most ∧ mp p gC gD ∧ (B ≤ p ∨ p ∈ Tl) ∧ (B ≤ gC ∨ gC ∈ Tl) ∧ (B ≤ gD ∨ gD ∈ Tl)
section
variable {B : Nat} {Tl : List Nat} {TS : List TypeId} {P : World → List Value → Prop} {hard soft : List Nat} {K : Nat → Prop} {Pu : World → Value → Prop}
theorem ewT_ok (_hP : KeepP P) (hT : 34 ∈ TS) : (ewT B Tl TS P hard soft).Ok := ⟨WR.refl, fun _ _ h => h.sub (fun t ht => by simp only [List.mem_singleton] at ht; subst ht; exact hT) (fun k hk => hk.imp id (fun h => by cases h)), fun _ _ _ h k => WR.trans h k⟩
theorem ew_by (hP : KeepP P) (k : Nat) {W W' : World} (h : Chg [] W W') : (ewT B Tl TS P hard soft).by_ k W W' := by
  unfold Turns.by_
  split
  · exact WR.of_chg hP h
  · exact WR.of_chg hP h
theorem ew_rr (hT : 34 ∈ TS) (k : Nat) {W W' : World} (h : WR [34] (fun k => B ≤ k ∨ k ∈ []) P W W') : (ewT B Tl TS P hard soft).by_ k W W' := by
  unfold Turns.by_
  split
  · exact h.sub (fun t ht => by simp only [List.mem_singleton] at ht; subst ht; exact hT) (fun k hk => hk.imp id (fun h => by cases h))
  · exact h
theorem ew_hard {k : Nat} (hk : hard.contains k = true) {W W' : World} (h : WR TS (fun k => B ≤ k ∨ k ∈ Tl) P W W') : (ewT B Tl TS P hard soft).by_ k W W' := by
  unfold Turns.by_
  rw [if_pos (show (ewT B Tl TS P hard soft).hard.contains k = true from hk)]
  exact h
theorem keepsW_memW {mp : Nat → Nat → Nat → Prop} (L : List UInt8) (V : List Bool) (most : Nat) : Keeps (WR [34] K P) (memW B Tl mp L V most) := fun _ _ _ ⟨p, gC, gD, X, Y, e, hM, h⟩ hc => ⟨p, gC, gD, X, Y, e, hc.fe.mm hM (by decide) (by decide) (by decide), h⟩
theorem keepsW_row (rs : List (Option Int)) : Keeps (WR [34] K P) (rowEF B rs) := fun _ _ _ ⟨rp, a, e, hR, h⟩ hc => ⟨rp, a, e, hR.fe hc.fe (by decide) (by decide) (by decide), h⟩
theorem keepsW_args {n : Nat} (xs : List Int) (hT : 2 ∉ TS) : Keeps (WR TS K P) (argsF B n xs) := fun _ _ _ ⟨g, e, hW, h⟩ hc => ⟨g, e, hc.fe.whole hW hT, h⟩
theorem keepsW_ran (val trap fuel : Int) (hu : KeepP Pu) : Keeps (WR [34] K P) (ranW val trap fuel Pu) := fun _ a b ⟨u, e, h⟩ hc => ⟨u, e, hu K a b u hc.fe h⟩
theorem keepsW_agg (val trap fuel : Int) (hu : KeepP Pu) : Keeps (WR [34] K P) (aggW val trap fuel Pu) := fun _ a b ⟨u, e, h⟩ hc => ⟨u, e, hu K a b u hc.fe h⟩
theorem keepsW_var : Keeps (WR TS K P) (varF B) := fun _ _ _ ⟨g, cs, e, hB, hW, hl⟩ hc => by
  obtain ⟨c1, h1, h2, _⟩ := hc.res g cs hW hl
  exact ⟨g, c1, e, hB, h1, h2⟩
theorem keepsW_put : Keeps (WR TS K P) (putW B P) := fun _ _ _ ⟨g, cs, e, hB, hW, hl, hp⟩ hc => by
  obtain ⟨c1, h1, h2, h3⟩ := hc.res g cs hW hl
  exact ⟨g, c1, e, hB, h1, h2, h3 hp⟩
/-- A call's turns on the memory, the row: of their types alone. -/
theorem fe_run {W W' : World} {p gC gD rp : Nat} {L : List UInt8} {X : List Value} {V : List Bool} {Y : List Value} {most : Nat} {rs : List (Option Int)} {qs : List (Int × Int)} {a q : Value} {T : List Nat} (hM : Mm W p gC gD L X V Y most) (hR : Rq W rp rs qs a q) (hc : Chg T W W')
    (hT : ∀ i ∈ T, i = p ∨ i = gC ∨ i = gD ∨ i = rp ∨ q.ownBlock = some i) (hK : ∀ i ∈ T, K i) (hTS : ∀ t ∈ egTS, t ∈ TS) (hq : (∃ i, q.ownBlock = some i) → 53 ∈ TS) : Fe K TS W W' := by
  have w1 : W.heap[p]? = _ := hM.rec_
  have w2 : W.heap[gC]? = _ := hM.cel
  have w3 : W.heap[gD]? = _ := hM.dir
  have w4 : W.heap[rp]? = _ := hR.rec_
  refine Fe.of_chgT hc (fun i hi => ⟨hK i hi, fun cs t fz e => ?_⟩) (fun i hi => ?_)
  · rcases hT i hi with rfl | rfl | rfl | rfl | hb
    · rw [w1] at e; injection e with e; injection e with _ e _; subst e; exact hTS _ (by decide)
    · rw [w2] at e; injection e with e; injection e with _ e _; subst e; exact hTS _ (by decide)
    · rw [w3] at e; injection e with e; injection e with _ e _; subst e; exact hTS _ (by decide)
    · rw [w4] at e; injection e with e; injection e with _ e _; subst e; exact hTS _ (by decide)
    · rcases hR.asks.2 with ⟨rfl, _⟩ | ⟨g, cap, cur, rfl, _, hh, _⟩
      · simp [Value.ownBlock] at hb
      · simp only [Value.ownBlock, Option.some.injEq] at hb
        subst hb
        rw [hh] at e; injection e with e; injection e with _ e _; subst e; exact hq ⟨_, rfl⟩
  · rcases hT i hi with rfl | rfl | rfl | rfl | hb
    · exact ⟨_, _, _, hM.rec_⟩
    · exact ⟨_, _, _, hM.cel⟩
    · exact ⟨_, _, _, hM.dir⟩
    · exact ⟨_, _, _, hR.rec_⟩
    · rcases hR.asks.2 with ⟨rfl, _⟩ | ⟨g, cap, cur, rfl, _, hh, _⟩
      · simp [Value.ownBlock] at hb
      · simp only [Value.ownBlock, Option.some.injEq] at hb
        subst hb
        exact ⟨_, _, _, hh⟩
theorem QSl.fe {W W' : World} {v : Value} {qs : List (Int × Int)} (h : QSl W v qs) (hf : Fe K TS W W') (hT : 53 ∉ TS) : QSl W' v qs := by
  obtain ⟨A, c, e, h1, h2, h3, h4⟩ := h
  by_cases h0 : 0 < qs.length
  · obtain ⟨ad, rfl, hlt, hx⟩ := h2 (by rw [qsC_len]; omega)
    obtain ⟨cs, fz, hb⟩ := h4 h0 ad rfl
    have hk := hf.block ad.block hlt (.inr fun cs' t fz' e' hm => by
      rw [hb] at e'
      injection e' with e'
      injection e' with _ e' _
      subst e'
      exact hT hm)
    exact ⟨_, c, e, h1, fun _ => ⟨ad, rfl, Nat.lt_of_lt_of_le hlt hf.size, fun j u hj => by
      rw [← hx j u hj]
      refine World.cell?_of_block ?_
      rw [show (ad.add j).block = ad.block from by unfold Addr.add; split <;> rfl]
      exact hk⟩, h3, fun _ ad' e' => by injection e' with e'; subst e'; exact ⟨cs, fz, hk.trans hb⟩⟩
  · exact ⟨A, c, e, h1, fun h => absurd h (by rw [qsC_len]; omega), h3, fun h => absurd h h0⟩
end
section
variable {w0 : World} {a0 : Act} {ops : List Oper} {Q : Exit → Act → World → Prop} {F : Said} {k : Nat} {rest : List Oper}
  {d : Option Tmp} {ty : TypeId} {pos : String} {af : Array Edge} {g : Option (Nat × Bool)} {B : Nat} {Tl : List Nat} {TS : List TypeId} {P : World → List Value → Prop} {hard soft : List Nat} {Pu : World → Value → Prop}
theorem ew_size {W : World} (hB : B ≤ w0.heap.size) (hW : (ewT B Tl TS P hard soft).H w0 W) : B ≤ W.heap.size := Nat.le_trans hB hW.fe.size
/-- A new memory. -/
theorem ew_new {f : FuncId} {args : Array Operand} {ats : Array TypeId} (hP : KeepP P) (pg ms : Nat) (h1 : pg ≤ ms) (h2 : ms ≤ 64) (hB : B ≤ w0.heap.size) (hs : soft.contains k = true) (hfid : f = 14) (hf : callsB Try.prog f = true)
    (hargs : Dets a0 F args.toList [.int .i64 (pg : Int), .int .i64 (ms : Int)])
    (hg : guardIs ops F true ⟨d, .call { callee := .value (.func f), args := args, argTypes := ats }, ty, pos, af, g⟩) (hd0 : d ≠ none)
    (h : F2.Flow Try.prog (ewT B Tl TS P hard soft) w0 a0 ops Q ((d, memW B Tl (fun _ _ _ => True) (zeros (pg * 64)) (falses pg) ms) :: F) (k + 1) rest) : F2.Flow Try.prog (ewT B Tl TS P hard soft) w0 a0 ops Q F k (⟨d, .call { callee := .value (.func f), args := args, argTypes := ats }, ty, pos, af, g⟩ :: rest) := by
  subst hfid
  refine F2.flow_calld (memW B Tl (fun _ _ _ => True) (zeros (pg * 64)) (falses pg) ms) (keepsW_memW _ _ _) (.inl hs) hf hg hargs (fun W hW => (cnew_yes pg ms h1 h2).mono ?_) h hd0
  rintro e w1 ⟨p, gC, gD, rfl, hM, hp, hC, hD, hc⟩
  have hBW := ew_size hB hW
  exact ⟨_, rfl, ew_by hP _ hc, p, gC, gD, _, _, rfl, hM, trivial, .inl (by omega), .inl (by omega), .inl (by omega)⟩
/-- A memory that was there. -/
theorem ew_mem {t : Tmp} {p gC gD : Nat} {L : List UInt8} {X : List Value} {V : List Bool} {Y : List Value} {most : Nat} (hP : KeepP P) (hM : Mm w0 p gC gD L X V Y most) (hTl : p ∈ Tl ∧ gC ∈ Tl ∧ gD ∈ Tl) (hs : soft.contains k = true) (he : earlyB (ewT B Tl TS P hard soft) ops k = true)
    (ht : Det a0 F (.tmp t) (.pointer (some ⟨p, 0, none⟩))) (hg : guardIs ops F true ⟨d, .move (.tmp t), ty, pos, af, g⟩) (hd0 : d ≠ none)
    (h : F2.Flow Try.prog (ewT B Tl TS P hard soft) w0 a0 ops Q ((d, memW B Tl (fun p' c' d' => p' = p ∧ c' = gC ∧ d' = gD) L V most) :: F) (k + 1) rest) : F2.Flow Try.prog (ewT B Tl TS P hard soft) w0 a0 ops Q F k (⟨d, .move (.tmp t), ty, pos, af, g⟩ :: rest) := by
  refine F2.flow_early (memW B Tl (fun p' c' d' => p' = p ∧ c' = gC ∧ d' = gD) L V most) (keepsW_memW _ _ _) (.inl hs) hg he (fun ev W hev hW hfs => ?_) h hd0
  have e1 := ht.at hfs.1
  have hr : (execOp ev ⟨d, .move (.tmp t), ty, pos, af, g⟩).run Try.prog W = .ok (.value (.pointer (some ⟨p, 0, none⟩))) W := by simp [execOp, e1, go_sem]
  rw [hr]
  exact ⟨ew_by hP _ (Chg.refl _ _), p, gC, gD, X, Y, rfl, (WR.star hW).fe.mm hM (by decide) (by decide) (by decide), ⟨rfl, rfl, rfl⟩, .inr hTl.1, .inr hTl.2.1, .inr hTl.2.2⟩
/-- Args. -/
theorem ew_args {op : Op} (hP : KeepP P) (n : Nat) (xs : List Int) (hT : 2 ∉ TS) (hB : B ≤ w0.heap.size) (hrun : ∀ ev W, EvOk ev → allFacts a0 F ev W op.operands.toList → (execOp ev ⟨d, op, ty, pos, af, g⟩).run Try.prog W = .ok (.value (.slice (some ⟨W.heap.size, 0, none⟩) n n)) (W.alloc (.cells (nms xs).toArray 2)))
    (hg : guardIs ops F true ⟨d, op, ty, pos, af, g⟩) (hd0 : d ≠ none)
    (h : F2.Flow Try.prog (ewT B Tl TS P hard soft) w0 a0 ops Q ((d, argsF B n xs) :: F) (k + 1) rest) : F2.Flow Try.prog (ewT B Tl TS P hard soft) w0 a0 ops Q F k (⟨d, op, ty, pos, af, g⟩ :: rest) := by
  refine F2.flow_op (argsF B n xs) (keepsW_args _ (by decide)) (.inr (keepsW_args _ hT)) hg (fun ev W he hW hf => ?_) h hd0
  rw [hrun ev W he hf]
  exact ⟨ew_by hP _ ((Chg.refl [] W).alloc _), _, rfl, Whole.new W _ _, ew_size hB hW⟩
/-- The variable. -/
theorem ew_var (hP : KeepP P) (hB : B ≤ w0.heap.size) (hg : guardIs ops F true ⟨d, .alloc 34, ty, pos, af, g⟩) (hd0 : d ≠ none)
    (hrun : ∀ ev W, (execOp ev ⟨d, .alloc 34, ty, pos, af, g⟩).run Try.prog W = .ok (.value (.pointer (some ⟨W.heap.size, 0, none⟩))) (W.alloc (.cells #[.int .i64 0, .int .i64 0, .int .i64 0, .slice none 0 0] 34)))
    (h : F2.Flow Try.prog (ewT B Tl TS P hard soft) w0 a0 ops Q ((d, varF B) :: F) (k + 1) rest) : F2.Flow Try.prog (ewT B Tl TS P hard soft) w0 a0 ops Q F k (⟨d, .alloc 34, ty, pos, af, g⟩ :: rest) := by
  refine F2.flow_op (varF B) keepsW_var (.inr keepsW_var) hg (fun ev W _ hW _ => ?_) h hd0
  rw [hrun ev W]
  exact ⟨ew_by hP _ ((Chg.refl [] W).alloc _), _, _, rfl, ew_size hB hW, Whole.new W _ [.int .i64 0, .int .i64 0, .int .i64 0, .slice none 0 0], rfl⟩
/-- The run: what it tells is the region's to say. -/
theorem ew_run {args : Array Operand} {ats : Array TypeId} {val trap fuel : Int} (hu : KeepP Pu) (hk : hard.contains k = true) (hs : soft.contains k = true) (he : earlyB (ewT B Tl TS (resW val trap fuel Pu) hard soft) ops k = true) (hf : callsB Try.prog 13 = true)
    (hB : w0.heap.size ≤ B)
    (hcall : ∀ ev W, EvOk ev → Chg [] w0 W → allFacts a0 F ev W args.toList → Calls Try.prog 13 (args.map ev) W (fun e W' => ∃ u, e = .returned (.tuple #[.agg #[.int .i64 val, .int .i64 trap, .int .i64 fuel, u], .int .i64 0]) ∧ Pu W' u ∧ (∀ u', Pu W u' → Pu W' u') ∧ Fe (fun k => B ≤ k ∨ k ∈ Tl) TS W W' ∧ ∀ g cs, Whole W g 34 cs → Whole W' g 34 cs))
    (hg : guardIs ops F true ⟨d, .call { callee := .value (.func 13), args := args, argTypes := ats }, ty, pos, af, g⟩) (hd0 : d ≠ none)
    (h : F2.Flow Try.prog (ewT B Tl TS (resW val trap fuel Pu) hard soft) w0 a0 ops Q ((d, ranW val trap fuel Pu) :: F) (k + 1) rest) : F2.Flow Try.prog (ewT B Tl TS (resW val trap fuel Pu) hard soft) w0 a0 ops Q F k (⟨d, .call { callee := .value (.func 13), args := args, argTypes := ats }, ty, pos, af, g⟩ :: rest) := by
  refine F2.flow_early (ranW val trap fuel Pu) (keepsW_ran _ _ _ hu) (.inl hs) hg he (fun ev W hev hW hfs => ?_) h hd0
  have hc0 : Chg [] w0 W := (WR.star hW).fe.chg hB
  rw [run_call hev hf]
  have hfs' : allFacts a0 F ev W (.func 13 :: args.toList) := by
    have e : (Op.call { callee := .value (.func 13), args := args, argTypes := ats }).operands.toList = .func 13 :: args.toList := by
      simp [Op.operands, Call.operands]
    rw [← e]; exact hfs
  refine (hcall ev W hev hc0 hfs'.2).mono ?_
  rintro e w5 ⟨u, rfl, h1, h2, h3, h4⟩
  exact ⟨_, rfl, ew_hard hk ⟨h3, fun g cs hW hl => ⟨cs, h4 g cs hW, hl, fun ⟨u', e', h'⟩ => ⟨u', e', h2 u' h'⟩⟩⟩, u, rfl, h1⟩
theorem ew_move {t : Tmp} {val trap fuel : Int} (hP : KeepP P) (hu : KeepP Pu) (hs : look F t = some (ranW val trap fuel Pu)) (hk : soft.contains k = true) (hg : guardIs ops F true ⟨d, .move (.tmp t), ty, pos, af, g⟩) (hd0 : d ≠ none)
    (h : F2.Flow Try.prog (ewT B Tl TS P hard soft) w0 a0 ops Q ((d, ranW val trap fuel Pu) :: F) (k + 1) rest) : F2.Flow Try.prog (ewT B Tl TS P hard soft) w0 a0 ops Q F k (⟨d, .move (.tmp t), ty, pos, af, g⟩ :: rest) := by
  refine F2.flow_op (ranW val trap fuel Pu) (keepsW_ran _ _ _ hu) (.inl hk) hg (fun ev W he hW hf => ?_) h hd0
  have h1 : factOf a0 F (.tmp t) (ev (.tmp t)) W := hf.1
  simp only [factOf, hs] at h1
  exact ⟨ew_by hP _ (Chg.refl _ _), h1⟩
/-- What comes of the run is parted. -/
theorem ew_x0 {t : Tmp} {val trap fuel : Int} (hP : KeepP P) (hu : KeepP Pu) (hs : look F t = some (ranW val trap fuel Pu)) (hk : soft.contains k = true) (hg : guardIs ops F true ⟨d, .extract (.tmp t) 0, ty, pos, af, g⟩) (hd0 : d ≠ none)
    (h : F2.Flow Try.prog (ewT B Tl TS P hard soft) w0 a0 ops Q ((d, aggW val trap fuel Pu) :: F) (k + 1) rest) : F2.Flow Try.prog (ewT B Tl TS P hard soft) w0 a0 ops Q F k (⟨d, .extract (.tmp t) 0, ty, pos, af, g⟩ :: rest) := by
  refine F2.flow_op (aggW val trap fuel Pu) (keepsW_agg _ _ _ hu) (.inl hk) hg (fun ev W he hW hf => ?_) h hd0
  have h1 : factOf a0 F (.tmp t) (ev (.tmp t)) W := hf.1
  simp only [factOf, hs] at h1
  obtain ⟨u, e1, hu1⟩ := h1
  have hr : (execOp ev ⟨d, .extract (.tmp t) 0, ty, pos, af, g⟩).run Try.prog W = .ok (.value (.agg #[.int .i64 val, .int .i64 trap, .int .i64 fuel, u])) W := by simp [execOp, e1, go_sem]
  rw [hr]
  exact ⟨ew_by hP _ (Chg.refl _ _), u, rfl, hu1⟩
theorem ew_x1 {t : Tmp} {val trap fuel : Int} (hP : KeepP P) (hs : look F t = some (ranW val trap fuel Pu)) (hg : guardIs ops F true ⟨d, .extract (.tmp t) 1, ty, pos, af, g⟩) (hd0 : d ≠ none)
    (h : F2.Flow Try.prog (ewT B Tl TS P hard soft) w0 a0 ops Q ((d, isV (.int .i64 0)) :: F) (k + 1) rest) : F2.Flow Try.prog (ewT B Tl TS P hard soft) w0 a0 ops Q F k (⟨d, .extract (.tmp t) 1, ty, pos, af, g⟩ :: rest) := by
  refine F2.flow_op (isV (.int .i64 0)) (keeps_isV _) (.inr (keeps_isV _)) hg (fun ev W he hW hf => ?_) h hd0
  have h1 : factOf a0 F (.tmp t) (ev (.tmp t)) W := hf.1
  simp only [factOf, hs] at h1
  obtain ⟨u, e1, hu⟩ := h1
  have hr : (execOp ev ⟨d, .extract (.tmp t) 1, ty, pos, af, g⟩).run Try.prog W = .ok (.value (.int .i64 0)) W := by simp [execOp, e1, go_sem]
  rw [hr]
  exact ⟨ew_by hP _ (Chg.refl _ _), rfl⟩
/-- It is laid into the variable. -/
theorem ew_put {t s : Tmp} {val trap fuel : Int} (hu : KeepP Pu) (hT : 34 ∈ TS) (hv : look F t = some (varF B)) (ha : look F s = some (aggW val trap fuel Pu)) (hq : ∀ W u, Pu W u → u.oneCell' = true)
    (hg : guardIs ops F true ⟨none, .store 34 (.tmp t) (.tmp s), ty, pos, af, g⟩)
    (h : F2.Flow Try.prog (ewT B Tl TS (resW val trap fuel Pu) hard soft) w0 a0 ops Q ((none, putW B (resW val trap fuel Pu)) :: F) (k + 1) rest) : F2.Flow Try.prog (ewT B Tl TS (resW val trap fuel Pu) hard soft) w0 a0 ops Q F k (⟨none, .store 34 (.tmp t) (.tmp s), ty, pos, af, g⟩ :: rest) := by
  refine F2.flow_store (putW B (resW val trap fuel Pu)) (t := t) rfl rfl keepsW_put (.inr keepsW_put) hg (fun ev W he hW hf => ?_) h
  have h1 : factOf a0 F (.tmp t) (ev (.tmp t)) W := hf.1
  have h2 : factOf a0 F (.tmp s) (ev (.tmp s)) W := hf.2.1
  simp only [factOf, hv] at h1
  simp only [factOf, ha] at h2
  obtain ⟨gv, cs, e1, hB, hWh, hl⟩ := h1
  obtain ⟨u, e2, hu2⟩ := h2
  have hr : (execOp ev ⟨none, .store 34 (.tmp t) (.tmp s), ty, pos, af, g⟩).run Try.prog W = .ok .skip (W.setRow gv #[.int .i64 val, .int .i64 trap, .int .i64 fuel, u]) := by
    unfold execOp
    have h1 : (#[.int .i64 val, .int .i64 trap, .int .i64 fuel, u] : Array Value).all (·.oneCell') = true := by
      rw [← Array.all_toList]
      show (true && (true && (true && (u.oneCell' && true)))) = true
      rw [hq W u hu2]; rfl
    have hi : (Try.prog.info? 34).map (·.size) = some (#[.int .i64 val, .int .i64 trap, .int .i64 fuel, u] : Array Value).size := (show (Try.prog.info? 34).map (·.size) = some 4 by kernel_rfl)
    simp only [e1, e2, Instr.storeAt, Instr.sureAddr, Sem.run_bind, Sem.run_pure, Result.andThen_ok, run_storeVar_row W gv 34 34 cs.toArray #[.int .i64 val, .int .i64 trap, .int .i64 fuel, u] hWh hi (by simp [hl]) h1]
  rw [hr]
  have hW2 : Whole (W.setRow gv #[.int .i64 val, .int .i64 trap, .int .i64 fuel, u]) gv 34 [.int .i64 val, .int .i64 trap, .int .i64 fuel, u] := setRow_whole hWh
  have hfe : Fe (fun k => B ≤ k ∨ k ∈ []) [34] W (W.setRow gv #[.int .i64 val, .int .i64 trap, .int .i64 fuel, u]) := by
    refine ⟨rfl, rfl, rfl, by simp [World.setRow], fun i hi hc => ?_⟩
    refine Go.setRow_other W gv i _ (fun e => ?_)
    subst e
    rcases hc with hc | hc
    · exact hc (.inl hB)
    · exact hc _ _ _ hWh (List.mem_cons_self)
  have hP2 : resW val trap fuel Pu (W.setRow gv #[.int .i64 val, .int .i64 trap, .int .i64 fuel, u]) [.int .i64 val, .int .i64 trap, .int .i64 fuel, u] := ⟨u, rfl, hu _ _ _ u hfe hu2⟩
  refine ⟨ew_rr hT _ ⟨hfe, fun g2 c2 h2 hl2 => ?_⟩, gv, _, e1, hB, hW2, rfl, hP2⟩
  by_cases hgg : g2 = gv
  · subst hgg
    exact ⟨_, hW2, rfl, fun _ => hP2⟩
  · exact ⟨c2, (Go.setRow_other W gv g2 _ hgg).trans h2, hl2, keepP_res hu _ _ _ c2 hfe⟩
end
end Go.Proofs.Ytfhgnoajfipjdaa
