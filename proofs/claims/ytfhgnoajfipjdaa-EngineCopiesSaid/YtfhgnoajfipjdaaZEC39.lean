/-
  EC: EgFlowW, Verd, LawTopVerdicts.
-/
import Derived.Test.YtfhgnoajfipjdaaZEC28
import Derived.Test.YtfhgnoajfipjdaaZEC33
import Derived.Test.YtfhgnoajfipjdaaZEC35
import Derived.Test.YtfhgnoajfipjdaaZEC36
import Derived.Test.YtfhgnoajfipjdaaZEC38
import Derived.Deep.QuietTactic
import Derived.BigQuiet
namespace Go.Proofs.Ytfhgnoajfipjdaa
open Go.RowKit
open Go.Proofs.Ytfhgnoajfipjdaa (Fact)
/-- What stays, whatever is laid into results. -/
def KeepP {α : Type} (P : World → α → Prop) : Prop := ∀ (K : Nat → Prop) a b cs, Fe K [34] a b → P a cs → P b cs
def resW (val trap fuel : Int) (Pu : World → Value → Prop) (W : World) (cs : List Value) : Prop := ∃ u, cs = [.int .i64 val, .int .i64 trap, .int .i64 fuel, u] ∧ Pu W u
theorem keepP_res {val trap fuel : Int} {Pu : World → Value → Prop} (h : KeepP Pu) : KeepP (resW val trap fuel Pu) := fun K a b _ hf ⟨u, e, hu⟩ => ⟨u, e, h K a b u hf hu⟩
/-- Only blocks that K holds of have turned, of these types; a result's variable stays one, and keeps what it has come to. -/
structure WR (TS : List TypeId) (K : Nat → Prop) (P : World → List Value → Prop) (a b : World) : Prop where
  fe : Fe K TS a b
  res : ∀ g cs, Whole a g 34 cs → cs.length = 4 → ∃ cs', Whole b g 34 cs' ∧ cs'.length = 4 ∧ (P a cs → P b cs')
section
variable {TS TS' : List TypeId} {K K' : Nat → Prop} {P : World → List Value → Prop} {a b c : World}
theorem WR.of_chg (hP : KeepP P) (h : Chg [] a b) : WR TS K P a b := ⟨Fe.of_chg h, fun _ cs hW hl => ⟨cs, hW.keep h, hl, hP K a b cs (Fe.of_chg h)⟩⟩
theorem WR.refl (a : World) : WR TS K P a a := ⟨Fe.refl _ _ _, fun _ cs hW hl => ⟨cs, hW, hl, id⟩⟩
theorem WR.trans (h : WR TS K P a b) (k : WR TS K P b c) : WR TS K P a c := ⟨h.fe.trans k.fe, fun g cs hW hl => by
  obtain ⟨c1, h1, h2, h3⟩ := h.res g cs hW hl
  obtain ⟨c2, k1, k2, k3⟩ := k.res g c1 h1 h2
  exact ⟨c2, k1, k2, fun hp => k3 (h3 hp)⟩⟩
theorem WR.star (h : Star (WR TS K P) a b) : WR TS K P a b := h.fold WR.refl fun _ _ _ h k => h.trans k
theorem WR.sub (h : WR TS K P a b) (hT : ∀ t, t ∈ TS → t ∈ TS') (hK : ∀ k, K k → K' k) : WR TS' K' P a b := by
  refine ⟨⟨h.fe.os, h.fe.tape, h.fe.output, h.fe.size, fun k hk hc => h.fe.block k hk ?_⟩, h.res⟩
  rcases hc with hc | hc
  · exact .inl fun hm => hc (hK k hm)
  · exact .inr fun cs t fz e hm => hc cs t fz e (hT t hm)
end
def ewT (B : Nat) (Tl : List Nat) (TS : List TypeId) (P : World → List Value → Prop) (hard soft : List Nat) : Turns := ⟨WR [34] (fun k => B ≤ k ∨ k ∈ []) P, WR TS (fun k => B ≤ k ∨ k ∈ Tl) P, hard, soft⟩
def ranW (val trap fuel : Int) (Pu : World → Value → Prop) : Fact := fun v W => ∃ u, v = .tuple #[.agg #[.int .i64 val, .int .i64 trap, .int .i64 fuel, u], .int .i64 0] ∧ Pu W u
def aggW (val trap fuel : Int) (Pu : World → Value → Prop) : Fact := fun v W => ∃ u, v = .agg #[.int .i64 val, .int .i64 trap, .int .i64 fuel, u] ∧ Pu W u
def putW (B : Nat) (P : World → List Value → Prop) : Fact := fun v W => ∃ g cs, v = .pointer (some ⟨g, 0, none⟩) ∧ B ≤ g ∧ Whole W g 34 cs ∧ cs.length = 4 ∧ P W cs
/-- A memory: one of the region's own, or one that was there. -/
def memW (B : Nat) (Tl : List Nat) (mp : Nat → Nat → Nat → Prop) (L : List UInt8) (V : List Bool) (most : Nat) : Fact := fun v W => ∃ p gC gD X Y, v = .pointer (some ⟨p, 0, none⟩) ∧ Mm W p gC gD L X V Y most ∧ mp p gC gD ∧ (B ≤ p ∨ p ∈ Tl) ∧ (B ≤ gC ∨ gC ∈ Tl) ∧ (B ≤ gD ∨ gD ∈ Tl)
section
variable {B : Nat} {Tl : List Nat} {TS : List TypeId} {P : World → List Value → Prop} {hard soft : List Nat} {K : Nat → Prop} {Pu : World → Value → Prop}
theorem ewT_ok (_hP : KeepP P) (hT : 34 ∈ TS) : (ewT B Tl TS P hard soft).Ok := ⟨WR.refl, fun _ _ h => h.sub (fun t ht => by simp only [List.mem_singleton] at ht; subst ht; exact hT) (fun k hk => hk.imp id (fun h => by cases h)), fun _ _ _ h k => WR.trans h k⟩
theorem ew_by (hP : KeepP P) (k : Nat) {W W' : World} (h : Chg [] W W') : (ewT B Tl TS P hard soft).by_ k W W' := by
  unfold Turns.by_
  split
  · exact WR.of_chg hP h
  · exact WR.of_chg hP h
theorem ew_rr (hT : 34 ∈ TS) (k : Nat) {W W' : World} (h : WR [34] (fun k => B ≤ k ∨ k ∈ []) P W W') : (ewT B Tl TS P hard soft).by_ k W W' := by
  unfold Turns.by_
  split
  · exact h.sub (fun t ht => by simp only [List.mem_singleton] at ht; subst ht; exact hT) (fun k hk => hk.imp id (fun h => by cases h))
  · exact h
theorem ew_hard {k : Nat} (hk : hard.contains k = true) {W W' : World} (h : WR TS (fun k => B ≤ k ∨ k ∈ Tl) P W W') : (ewT B Tl TS P hard soft).by_ k W W' := by
  unfold Turns.by_
  rw [if_pos (show (ewT B Tl TS P hard soft).hard.contains k = true from hk)]
  exact h
theorem keepsW_memW {mp : Nat → Nat → Nat → Prop} (L : List UInt8) (V : List Bool) (most : Nat) : Keeps (WR [34] K P) (memW B Tl mp L V most) := fun _ _ _ ⟨p, gC, gD, X, Y, e, hM, h⟩ hc => ⟨p, gC, gD, X, Y, e, hc.fe.mm hM (by decide) (by decide) (by decide), h⟩
theorem keepsW_row (rs : List (Option Int)) : Keeps (WR [34] K P) (rowEF B rs) := fun _ _ _ ⟨rp, a, e, hR, h⟩ hc => ⟨rp, a, e, hR.fe hc.fe (by decide) (by decide) (by decide), h⟩
theorem keepsW_ran (val trap fuel : Int) (hu : KeepP Pu) : Keeps (WR [34] K P) (ranW val trap fuel Pu) := fun _ a b ⟨u, e, h⟩ hc => ⟨u, e, hu K a b u hc.fe h⟩
theorem keepsW_agg (val trap fuel : Int) (hu : KeepP Pu) : Keeps (WR [34] K P) (aggW val trap fuel Pu) := fun _ a b ⟨u, e, h⟩ hc => ⟨u, e, hu K a b u hc.fe h⟩
theorem keepsW_var : Keeps (WR TS K P) (varF B) := fun _ _ _ ⟨g, cs, e, hB, hW, hl⟩ hc => by
  obtain ⟨c1, h1, h2, _⟩ := hc.res g cs hW hl
  exact ⟨g, c1, e, hB, h1, h2⟩
theorem keepsW_put : Keeps (WR TS K P) (putW B P) := fun _ _ _ ⟨g, cs, e, hB, hW, hl, hp⟩ hc => by
  obtain ⟨c1, h1, h2, h3⟩ := hc.res g cs hW hl
  exact ⟨g, c1, e, hB, h1, h2, h3 hp⟩
/-- A call's turns on the memory, the row: of their types alone. -/
theorem fe_run {W W' : World} {p gC gD rp : Nat} {L : List UInt8} {X : List Value} {V : List Bool} {Y : List Value} {most : Nat} {rs : List (Option Int)} {qs : List (Int × Int)} {a q : Value} {T : List Nat} (hM : Mm W p gC gD L X V Y most) (hR : Rq W rp rs qs a q) (hc : Chg T W W')
    (hT : ∀ i ∈ T, i = p ∨ i = gC ∨ i = gD ∨ i = rp ∨ q.ownBlock = some i) (hK : ∀ i ∈ T, K i) (hTS : ∀ t ∈ egTS, t ∈ TS) (hq : (∃ i, q.ownBlock = some i) → 53 ∈ TS) : Fe K TS W W' := by
  have w1 : W.heap[p]? = _ := hM.rec_
  have w2 : W.heap[gC]? = _ := hM.cel
  have w3 : W.heap[gD]? = _ := hM.dir
  have w4 : W.heap[rp]? = _ := hR.rec_
  refine Fe.of_chgT hc (fun i hi => ⟨hK i hi, fun cs t fz e => ?_⟩) (fun i hi => ?_)
  · rcases hT i hi with rfl | rfl | rfl | rfl | hb
    · rw [w1] at e; injection e with e; injection e with _ e _; subst e; exact hTS _ (by decide)
    · rw [w2] at e; injection e with e; injection e with _ e _; subst e; exact hTS _ (by decide)
    · rw [w3] at e; injection e with e; injection e with _ e _; subst e; exact hTS _ (by decide)
    · rw [w4] at e; injection e with e; injection e with _ e _; subst e; exact hTS _ (by decide)
    · rcases hR.asks.2 with ⟨rfl, _⟩ | ⟨g, cap, cur, rfl, _, hh, _⟩
      · simp [Value.ownBlock] at hb
      · simp only [Value.ownBlock, Option.some.injEq] at hb
        subst hb
        rw [hh] at e; injection e with e; injection e with _ e _; subst e; exact hq ⟨_, rfl⟩
  · rcases hT i hi with rfl | rfl | rfl | rfl | hb
    · exact ⟨_, _, _, hM.rec_⟩
    · exact ⟨_, _, _, hM.cel⟩
    · exact ⟨_, _, _, hM.dir⟩
    · exact ⟨_, _, _, hR.rec_⟩
    · rcases hR.asks.2 with ⟨rfl, _⟩ | ⟨g, cap, cur, rfl, _, hh, _⟩
      · simp [Value.ownBlock] at hb
      · simp only [Value.ownBlock, Option.some.injEq] at hb
        subst hb
        exact ⟨_, _, _, hh⟩
theorem QSl.fe {W W' : World} {v : Value} {qs : List (Int × Int)} (h : QSl W v qs) (hf : Fe K TS W W') (hT : 53 ∉ TS) : QSl W' v qs := by
  obtain ⟨A, c, e, h1, h2, h3, h4⟩ := h
  by_cases h0 : 0 < qs.length
  · obtain ⟨ad, rfl, hlt, hx⟩ := h2 (by rw [qsC_len]; omega)
    obtain ⟨cs, fz, hb⟩ := h4 h0 ad rfl
    have hk := hf.block ad.block hlt (.inr fun cs' t fz' e' hm => by
      rw [hb] at e'
      injection e' with e'
      injection e' with _ e' _
      subst e'
      exact hT hm)
    exact ⟨_, c, e, h1, fun _ => ⟨ad, rfl, Nat.lt_of_lt_of_le hlt hf.size, fun j u hj => by
      rw [← hx j u hj]
      refine World.cell?_of_block ?_
      rw [show (ad.add j).block = ad.block from by unfold Addr.add; split <;> rfl]
      exact hk⟩, h3, fun _ ad' e' => by injection e' with e'; subst e'; exact ⟨cs, fz, hk.trans hb⟩⟩
  · exact ⟨A, c, e, h1, fun h => absurd h (by rw [qsC_len]; omega), h3, fun h => absurd h h0⟩
end
section
variable {w0 : World} {a0 : Act} {ops : List Oper} {Q : Exit → Act → World → Prop} {F : Said} {k : Nat} {rest : List Oper}
  {d : Option Tmp} {ty : TypeId} {pos : String} {af : Array Go.Edge} {g : Option (Nat × Bool)} {B : Nat} {Tl : List Nat} {TS : List TypeId} {P : World → List Value → Prop} {hard soft : List Nat} {Pu : World → Value → Prop}
theorem ew_size {W : World} (hB : B ≤ w0.heap.size) (hW : (ewT B Tl TS P hard soft).H w0 W) : B ≤ W.heap.size := Nat.le_trans hB hW.fe.size
/-- A memory that was there. -/
theorem ew_mem {t : Tmp} {p gC gD : Nat} {L : List UInt8} {X : List Value} {V : List Bool} {Y : List Value} {most : Nat} (hP : KeepP P) (hM : Mm w0 p gC gD L X V Y most) (hTl : p ∈ Tl ∧ gC ∈ Tl ∧ gD ∈ Tl) (hs : soft.contains k = true) (he : earlyB (ewT B Tl TS P hard soft) ops k = true)
    (ht : Det a0 F (.tmp t) (.pointer (some ⟨p, 0, none⟩))) (hg : guardIs ops F true ⟨d, .move (.tmp t), ty, pos, af, g⟩) (hd0 : d ≠ none)
    (h : F2.Flow Try.prog (ewT B Tl TS P hard soft) w0 a0 ops Q ((d, memW B Tl (fun p' c' d' => p' = p ∧ c' = gC ∧ d' = gD) L V most) :: F) (k + 1) rest) : F2.Flow Try.prog (ewT B Tl TS P hard soft) w0 a0 ops Q F k (⟨d, .move (.tmp t), ty, pos, af, g⟩ :: rest) := by
  refine F2.flow_early (memW B Tl (fun p' c' d' => p' = p ∧ c' = gC ∧ d' = gD) L V most) (keepsW_memW _ _ _) (.inl hs) hg he (fun ev W hev hW hfs => ?_) h hd0
  have e1 := ht.at hfs.1
  have hr : (execOp ev ⟨d, .move (.tmp t), ty, pos, af, g⟩).run Try.prog W = .ok (.value (.pointer (some ⟨p, 0, none⟩))) W := by simp [execOp, e1, go_sem]
  rw [hr]
  exact ⟨ew_by hP _ (Chg.refl _ _), p, gC, gD, X, Y, rfl, (WR.star hW).fe.mm hM (by decide) (by decide) (by decide), ⟨rfl, rfl, rfl⟩, .inr hTl.1, .inr hTl.2.1, .inr hTl.2.2⟩
/-- The variable. -/
theorem ew_var (hP : KeepP P) (hB : B ≤ w0.heap.size) (hg : guardIs ops F true ⟨d, .alloc 34, ty, pos, af, g⟩) (hd0 : d ≠ none)
    (hrun : ∀ ev W, (execOp ev ⟨d, .alloc 34, ty, pos, af, g⟩).run Try.prog W = .ok (.value (.pointer (some ⟨W.heap.size, 0, none⟩))) (W.alloc (.cells #[.int .i64 0, .int .i64 0, .int .i64 0, .slice none 0 0] 34)))
    (h : F2.Flow Try.prog (ewT B Tl TS P hard soft) w0 a0 ops Q ((d, varF B) :: F) (k + 1) rest) : F2.Flow Try.prog (ewT B Tl TS P hard soft) w0 a0 ops Q F k (⟨d, .alloc 34, ty, pos, af, g⟩ :: rest) := by
  refine F2.flow_op (varF B) keepsW_var (.inr keepsW_var) hg (fun ev W _ hW _ => ?_) h hd0
  rw [hrun ev W]
  exact ⟨ew_by hP _ ((Chg.refl [] W).alloc _), _, _, rfl, ew_size hB hW, Whole.new W _ [.int .i64 0, .int .i64 0, .int .i64 0, .slice none 0 0], rfl⟩
/-- The run: what it tells is the region's to say. -/
theorem ew_run {args : Array Operand} {ats : Array TypeId} {val trap fuel : Int} (hu : KeepP Pu) (hk : hard.contains k = true) (hs : soft.contains k = true) (he : earlyB (ewT B Tl TS (resW val trap fuel Pu) hard soft) ops k = true) (hf : callsB Try.prog 13 = true)
    (hB : w0.heap.size ≤ B)
    (hcall : ∀ ev W, EvOk ev → Chg [] w0 W → allFacts a0 F ev W args.toList → Calls Try.prog 13 (args.map ev) W (fun e W' => ∃ u, e = .returned (.tuple #[.agg #[.int .i64 val, .int .i64 trap, .int .i64 fuel, u], .int .i64 0]) ∧ Pu W' u ∧ (∀ u', Pu W u' → Pu W' u') ∧ Fe (fun k => B ≤ k ∨ k ∈ Tl) TS W W' ∧ ∀ g cs, Whole W g 34 cs → Whole W' g 34 cs))
    (hg : guardIs ops F true ⟨d, .call { callee := .value (.func 13), args := args, argTypes := ats }, ty, pos, af, g⟩) (hd0 : d ≠ none)
    (h : F2.Flow Try.prog (ewT B Tl TS (resW val trap fuel Pu) hard soft) w0 a0 ops Q ((d, ranW val trap fuel Pu) :: F) (k + 1) rest) : F2.Flow Try.prog (ewT B Tl TS (resW val trap fuel Pu) hard soft) w0 a0 ops Q F k (⟨d, .call { callee := .value (.func 13), args := args, argTypes := ats }, ty, pos, af, g⟩ :: rest) := by
  refine F2.flow_early (ranW val trap fuel Pu) (keepsW_ran _ _ _ hu) (.inl hs) hg he (fun ev W hev hW hfs => ?_) h hd0
  have hc0 : Chg [] w0 W := (WR.star hW).fe.chg hB
  rw [run_call hev hf]
  have hfs' : allFacts a0 F ev W (.func 13 :: args.toList) := by
    have e : (Op.call { callee := .value (.func 13), args := args, argTypes := ats }).operands.toList = .func 13 :: args.toList := by
      simp [Op.operands, Call.operands]
    rw [← e]; exact hfs
  refine (hcall ev W hev hc0 hfs'.2).mono ?_
  rintro e w5 ⟨u, rfl, h1, h2, h3, h4⟩
  exact ⟨_, rfl, ew_hard hk ⟨h3, fun g cs hW hl => ⟨cs, h4 g cs hW, hl, fun ⟨u', e', h'⟩ => ⟨u', e', h2 u' h'⟩⟩⟩, u, rfl, h1⟩
theorem ew_move {t : Tmp} {val trap fuel : Int} (hP : KeepP P) (hu : KeepP Pu) (hs : look F t = some (ranW val trap fuel Pu)) (hk : soft.contains k = true) (hg : guardIs ops F true ⟨d, .move (.tmp t), ty, pos, af, g⟩) (hd0 : d ≠ none)
    (h : F2.Flow Try.prog (ewT B Tl TS P hard soft) w0 a0 ops Q ((d, ranW val trap fuel Pu) :: F) (k + 1) rest) : F2.Flow Try.prog (ewT B Tl TS P hard soft) w0 a0 ops Q F k (⟨d, .move (.tmp t), ty, pos, af, g⟩ :: rest) := by
  refine F2.flow_op (ranW val trap fuel Pu) (keepsW_ran _ _ _ hu) (.inl hk) hg (fun ev W he hW hf => ?_) h hd0
  have h1 : factOf a0 F (.tmp t) (ev (.tmp t)) W := hf.1
  simp only [factOf, hs] at h1
  exact ⟨ew_by hP _ (Chg.refl _ _), h1⟩
/-- What comes of the run is parted. -/
theorem ew_x0 {t : Tmp} {val trap fuel : Int} (hP : KeepP P) (hu : KeepP Pu) (hs : look F t = some (ranW val trap fuel Pu)) (hk : soft.contains k = true) (hg : guardIs ops F true ⟨d, .extract (.tmp t) 0, ty, pos, af, g⟩) (hd0 : d ≠ none)
    (h : F2.Flow Try.prog (ewT B Tl TS P hard soft) w0 a0 ops Q ((d, aggW val trap fuel Pu) :: F) (k + 1) rest) : F2.Flow Try.prog (ewT B Tl TS P hard soft) w0 a0 ops Q F k (⟨d, .extract (.tmp t) 0, ty, pos, af, g⟩ :: rest) := by
  refine F2.flow_op (aggW val trap fuel Pu) (keepsW_agg _ _ _ hu) (.inl hk) hg (fun ev W he hW hf => ?_) h hd0
  have h1 : factOf a0 F (.tmp t) (ev (.tmp t)) W := hf.1
  simp only [factOf, hs] at h1
  obtain ⟨u, e1, hu1⟩ := h1
  have hr : (execOp ev ⟨d, .extract (.tmp t) 0, ty, pos, af, g⟩).run Try.prog W = .ok (.value (.agg #[.int .i64 val, .int .i64 trap, .int .i64 fuel, u])) W := by simp [execOp, e1, go_sem]
  rw [hr]
  exact ⟨ew_by hP _ (Chg.refl _ _), u, rfl, hu1⟩
theorem ew_x1 {t : Tmp} {val trap fuel : Int} (hP : KeepP P) (hs : look F t = some (ranW val trap fuel Pu)) (hg : guardIs ops F true ⟨d, .extract (.tmp t) 1, ty, pos, af, g⟩) (hd0 : d ≠ none)
    (h : F2.Flow Try.prog (ewT B Tl TS P hard soft) w0 a0 ops Q ((d, isV (.int .i64 0)) :: F) (k + 1) rest) : F2.Flow Try.prog (ewT B Tl TS P hard soft) w0 a0 ops Q F k (⟨d, .extract (.tmp t) 1, ty, pos, af, g⟩ :: rest) := by
  refine F2.flow_op (isV (.int .i64 0)) (keeps_isV _) (.inr (keeps_isV _)) hg (fun ev W he hW hf => ?_) h hd0
  have h1 : factOf a0 F (.tmp t) (ev (.tmp t)) W := hf.1
  simp only [factOf, hs] at h1
  obtain ⟨u, e1, hu⟩ := h1
  have hr : (execOp ev ⟨d, .extract (.tmp t) 1, ty, pos, af, g⟩).run Try.prog W = .ok (.value (.int .i64 0)) W := by simp [execOp, e1, go_sem]
  rw [hr]
  exact ⟨ew_by hP _ (Chg.refl _ _), rfl⟩
/-- It is laid into the variable. -/
theorem ew_put {t s : Tmp} {val trap fuel : Int} (hu : KeepP Pu) (hT : 34 ∈ TS) (hv : look F t = some (varF B)) (ha : look F s = some (aggW val trap fuel Pu)) (hq : ∀ W u, Pu W u → u.oneCell' = true)
    (hg : guardIs ops F true ⟨none, .store 34 (.tmp t) (.tmp s), ty, pos, af, g⟩)
    (h : F2.Flow Try.prog (ewT B Tl TS (resW val trap fuel Pu) hard soft) w0 a0 ops Q ((none, putW B (resW val trap fuel Pu)) :: F) (k + 1) rest) : F2.Flow Try.prog (ewT B Tl TS (resW val trap fuel Pu) hard soft) w0 a0 ops Q F k (⟨none, .store 34 (.tmp t) (.tmp s), ty, pos, af, g⟩ :: rest) := by
  refine F2.flow_store (putW B (resW val trap fuel Pu)) (t := t) rfl rfl keepsW_put (.inr keepsW_put) hg (fun ev W he hW hf => ?_) h
  have h1 : factOf a0 F (.tmp t) (ev (.tmp t)) W := hf.1
  have h2 : factOf a0 F (.tmp s) (ev (.tmp s)) W := hf.2.1
  simp only [factOf, hv] at h1
  simp only [factOf, ha] at h2
  obtain ⟨gv, cs, e1, hB, hWh, hl⟩ := h1
  obtain ⟨u, e2, hu2⟩ := h2
  have hr : (execOp ev ⟨none, .store 34 (.tmp t) (.tmp s), ty, pos, af, g⟩).run Try.prog W = .ok .skip (W.setRow gv #[.int .i64 val, .int .i64 trap, .int .i64 fuel, u]) := by
    unfold execOp
    have h1 : (#[.int .i64 val, .int .i64 trap, .int .i64 fuel, u] : Array Value).all (·.oneCell') = true := by
      rw [← Array.all_toList]
      show (true && (true && (true && (u.oneCell' && true)))) = true
      rw [hq W u hu2]; rfl
    have hi : (Try.prog.info? 34).map (·.size) = some (#[.int .i64 val, .int .i64 trap, .int .i64 fuel, u] : Array Value).size := (show (Try.prog.info? 34).map (·.size) = some 4 by kernel_rfl)
    simp only [e1, e2, Instr.storeAt, Instr.sureAddr, Sem.run_bind, Sem.run_pure, Result.andThen_ok, run_storeVar_row W gv 34 34 cs.toArray #[.int .i64 val, .int .i64 trap, .int .i64 fuel, u] hWh hi (by simp [hl]) h1]
  rw [hr]
  have hW2 : Whole (W.setRow gv #[.int .i64 val, .int .i64 trap, .int .i64 fuel, u]) gv 34 [.int .i64 val, .int .i64 trap, .int .i64 fuel, u] := setRow_whole hWh
  have hfe : Fe (fun k => B ≤ k ∨ k ∈ []) [34] W (W.setRow gv #[.int .i64 val, .int .i64 trap, .int .i64 fuel, u]) := by
    refine ⟨rfl, rfl, rfl, by simp [World.setRow], fun i hi hc => ?_⟩
    refine Go.setRow_other W gv i _ (fun e => ?_)
    subst e
    rcases hc with hc | hc
    · exact hc (.inl hB)
    · exact hc _ _ _ hWh (List.mem_cons_self)
  have hP2 : resW val trap fuel Pu (W.setRow gv #[.int .i64 val, .int .i64 trap, .int .i64 fuel, u]) [.int .i64 val, .int .i64 trap, .int .i64 fuel, u] := ⟨u, rfl, hu _ _ _ u hfe hu2⟩
  refine ⟨ew_rr hT _ ⟨hfe, fun g2 c2 h2 hl2 => ?_⟩, gv, _, e1, hB, hW2, rfl, hP2⟩
  by_cases hgg : g2 = gv
  · subst hgg
    exact ⟨_, hW2, rfl, fun _ => hP2⟩
  · exact ⟨c2, (Go.setRow_other W gv g2 _ hgg).trans h2, hl2, keepP_res hu _ _ _ c2 hfe⟩
end
end Go.Proofs.Ytfhgnoajfipjdaa
namespace Go.Proofs.Ytfhgnoajfipjdaa
open Go.RowKit
def vU (s : ByteArray) : List FnV := [⟨97, 0, s⟩]
/-- What Verdict answers: who refuses, and why. -/
def verdR (s : ByteArray) : Int × Int := match tokR s with
  | none => (0, tokE s)
  | some ts => match rNest (signs ts) with
    | none => (1, 13)
    | some _ => if (rFn (vU s) 0).1 = 0 then (3, 0) else (2, (rFn (vU s) 0).1)
theorem verdR_cases (s : ByteArray) : ((verdR s).1 = 3 ∧ (verdR s).2 = 0 ∧ (rFn (vU s) 0).1 = 0) ∨ (0 ≤ (verdR s).1 ∧ (verdR s).1 < 3 ∧ (verdR s).2 ≠ 0 ∧ (rFn (vU s) 0).1 = (verdR s).2) := by
  have hf : rFn (vU s) 0 = rFunc (vU s) s := by
    unfold rFn
    rw [if_neg (by simp [vU])]
    rfl
  unfold verdR
  cases ht : tokR s with
  | none =>
    simp only
    refine .inr ⟨by omega, by omega, by unfold tokE; split <;> omega, ?_⟩
    rw [hf, rFunc, ht]
  | some ts =>
    simp only
    cases hn : rNest (signs ts) with
    | none =>
      simp only
      refine .inr ⟨by omega, by omega, by omega, ?_⟩
      rw [hf, rFunc, ht]
      simp only
      rw [hn]
    | some R =>
      simp only
      by_cases h0 : (rFn (vU s) 0).1 = 0
      · rw [if_pos h0]; exact .inl ⟨rfl, rfl, h0⟩
      · rw [if_neg h0]; exact .inr ⟨by omega, by omega, h0, rfl⟩
def VerdPost (w : World) (s : ByteArray) (e : Ending) (w' : World) : Prop := e = .returned (.tuple #[.int .i64 (verdR s).1, .int .i64 (verdR s).2]) ∧ Chg [] w w'
section
variable {w : World}
/-- A unit of one function, written out. -/
theorem vunit_laid (w : World) (s : ByteArray) (pages most : Int) {W : World} (hW : (w.alloc (.cells #[.int .i32 97, .int .i64 0, .string s] 51)).alloc (.cells #[.int .i64 pages, .int .i64 most, .slice (some ⟨w.heap.size, 0, none⟩) 1 1] 28) = W) :
    Whole W (w.heap.size + 1) 28 [.int .i64 pages, .int .i64 most, .slice (some ⟨w.heap.size, 0, none⟩) 1 1] ∧ Fnr W (some ⟨w.heap.size, 0, none⟩) 1 1 (vU s) ∧ Chg [] w W ∧ W.heap.size = w.heap.size + 2 := by
  subst hW
  have h1 : Whole (w.alloc (.cells #[.int .i32 97, .int .i64 0, .string s] 51)) w.heap.size 51 (fnCs (vU s)) := Whole.new w 51 [.int .i32 97, .int .i64 0, .string s]
  have hs1 : (w.alloc (.cells #[.int .i32 97, .int .i64 0, .string s] 51)).heap.size = w.heap.size + 1 := Array.size_push _
  have h2 := Whole.new (w.alloc (.cells #[.int .i32 97, .int .i64 0, .string s] 51)) 28 [.int .i64 pages, .int .i64 most, .slice (some ⟨w.heap.size, 0, none⟩) 1 1]
  have hal := (Chg.refl [] (w.alloc (.cells #[.int .i32 97, .int .i64 0, .string s] 51))).alloc (.cells #[.int .i64 pages, .int .i64 most, .slice (some ⟨w.heap.size, 0, none⟩) 1 1] 28)
  rw [hs1] at h2
  refine ⟨h2, ⟨rfl, Src.of_all (h1.keep hal), Nat.le_refl _, by omega, fun _ ad e => by injection e with e; subst e; rfl, fun f hf => ?_⟩, ((Chg.refl [] w).alloc _).new hal, ?_⟩
  · simp only [vU, List.mem_singleton] at hf
    subst hf
    exact ⟨by show (-9223372036854775808 : Int) ≤ 0; decide, by show (0 : Int) ≤ 9223372036854775807; decide⟩
  · show (Array.push _ _).size = _
    rw [Array.size_push, hs1]
set_option maxHeartbeats 4000000 in
set_option maxRecDepth 100000 in
theorem verdict_any (s : ByteArray) (hs : s.size ≤ 1000000) : Calls Try.prog 21 #[.string s] w (VerdPost w s) := by
  go_enter Try.func21, Try.ntmps21
  go_wp2_with fail
  refine (gtokens_any s (by omega)).mono ?_
  rintro e w2 ⟨hc2, hT⟩
  have HC2 := Lib.hid hc2
  rcases hT with ⟨ts, v2, hts, htl, rfl, ho2⟩ | ⟨hts, rfl⟩
  rotate_left
  · have hE : tokE s = 3 ∨ tokE s = 12 := by unfold tokE; split <;> simp
    have HP := Lib.hid (show VerdPost w s (.returned (.tuple #[.int .i64 0, .int .i64 (tokE s)])) w2 from ⟨by unfold verdR; rw [hts], hc2⟩)
    clear hts hc2
    generalize tokE s = te at hE HP ⊢
    have qe : (te != 0) = true := by simp; omega
    clear hE
    go_wp2_with fail
    go_ret2
    exact HP.out
  obtain ⟨TA, tc, rfl, hTk⟩ := Tks.of_own ho2 (by omega)
  have HT2 := Lib.hid hTk
  have HTS := Lib.hid hts
  clear hts hc2 ho2 hTk
  obtain ⟨tn, htn⟩ : ∃ tn, tn = ts.length := ⟨_, rfl⟩
  rw [← htn] at HT2 htl ⊢
  clear htn
  go_wp2_with fail
  refine (nof_any HT2.out).mono ?_
  rintro e w3 ⟨hc3, hT⟩
  have HC3 := Lib.hid (HC2.out.new hc3)
  clear hc3
  rw [nest_same] at hT
  rcases hT with ⟨t3, d3, g3, hn3, _, rfl, _⟩ | ⟨hn3, rfl⟩
  rotate_left
  · have HP := Lib.hid (show VerdPost w s (.returned (.tuple #[.int .i64 1, .int .i64 13])) w3 from ⟨by unfold verdR; rw [HTS.out]; simp only; rw [hn3], HC3.out⟩)
    clear hn3
    go_wp2_with fail
    go_ret2
    exact HP.out
  have HV := Lib.hid (show verdR s = if (rFn (vU s) 0).1 = 0 then (3, 0) else (2, (rFn (vU s) 0).1) from by unfold verdR; rw [HTS.out]; simp only; rw [hn3])
  clear hn3
  go_upto_region 8 with fail
  generalize hw4 : (w3.alloc (.cells #[.int .i32 97, .int .i64 0, .string s] 51)).alloc (.cells #[.int .i64 0, .int .i64 0, .slice (some ⟨w3.heap.size, 0, none⟩) 1 1] 28) = w4
  obtain ⟨hU4, hF4, hC4, _⟩ := vunit_laid w3 s 0 0 hw4
  clear hw4
  generalize w3.heap.size = gf at hU4 hF4 ⊢
  generalize gf + 1 = gu at hU4 ⊢
  have u0 := hU4.cell 0
  have u1 := hU4.cell 1
  have u2 := hU4.cell 2
  have HF4 := Lib.hid hF4
  have HC4 := Lib.hid (HC3.out.new hC4)
  clear hU4 hF4 hC4
  have hfn := cfunc_any (pages := 0) (most := 0) HF4.out (fun f hf => by simp only [vU, List.mem_singleton] at hf; subst hf; exact hs) 0
  unfold unitV at hfn
  have HFN := Lib.hid hfn
  clear hfn
  generalize rFn (vU s) 0 = R at HFN HV
  go_wp2_with fail
  refine HFN.out.mono ?_
  rintro e w5 ⟨v5, rfl, ho5, hc5⟩
  obtain ⟨A5, c5, rfl, _⟩ := own_slice ho5
  have HC5 := Lib.hid (HC4.out.new hc5)
  clear ho5 hc5
  by_cases h0 : R.1 = 0
  · have HP := Lib.hid (show VerdPost w s (.returned (.tuple #[.int .i64 3, .int .i64 0])) w5 from ⟨by rw [HV.out, if_pos h0], HC5.out⟩)
    rw [h0]
    go_wp2_with fail
    go_ret2
    exact HP.out
  · have HP := Lib.hid (show VerdPost w s (.returned (.tuple #[.int .i64 2, .int .i64 R.1])) w5 from ⟨by rw [HV.out, if_neg h0], HC5.out⟩)
    have hne : (R.1 != 0) = true := by simpa using h0
    go_wp2_with fail
    go_ret2
    exact HP.out
set_option maxHeartbeats 4000000 in
set_option maxRecDepth 100000 in
/-- A run of a program that is none. -/
theorem erun_bad {pages most : Int} {A A2 : Option Addr} {n c p rp m2 c2 fuel : Nat} (name : Int) {r : Int} (hr : ∀ W : World, Chg [] w W → Calls Try.prog 22 #[unitV pages most A n c] W (fun e w' => e = .returned (.int .i64 r) ∧ Chg [] W w')) (h0 : r ≠ 0) (hfu : fuel ≤ 1048576) :
    Calls Try.prog 13 #[unitV pages most A n c, .pointer (some ⟨p, 0, none⟩), .pointer (some ⟨rp, 0, none⟩), .int .i32 name, .int .i64 (fuel : Int), .slice A2 m2 c2] w
    (fun e w' => e = .returned (.tuple #[.agg #[.int .i64 0, .int .i64 0, .int .i64 0, .slice none 0 0], .int .i64 r]) ∧ Chg [] w w') := by
  have hb1 : decide ((fuel : Int) < 0) = false := by simp
  have hb2 : decide (1048576 < (fuel : Int)) = false := by simp; omega
  unfold unitV at hr ⊢
  have HR := Lib.hid hr
  clear hr
  go_enter Try.func13, Try.ntmps13
  go_upto_region 1 with fail
  have hN1 := Whole.new w 28 [.int .i64 pages, .int .i64 most, .slice A n c]
  have hal1 := (Chg.refl [] w).alloc (.cells #[.int .i64 pages, .int .i64 most, .slice A n c] 28)
  have hsz1 : (w.alloc (.cells #[.int .i64 pages, .int .i64 most, .slice A n c] 28)).heap.size = w.heap.size + 1 := Array.size_push _
  generalize w.alloc (.cells #[.int .i64 pages, .int .i64 most, .slice A n c] 28) = wa at hN1 hal1 hsz1 ⊢
  have hN2 := Whole.new wa 34 [.int .i64 0, .int .i64 0, .int .i64 0, .slice none 0 0]
  have hal2 := (Chg.refl [] wa).alloc (.cells #[.int .i64 0, .int .i64 0, .int .i64 0, .slice none 0 0] 34)
  obtain ⟨g1, hg1⟩ : ∃ g1, g1 = w.heap.size := ⟨_, rfl⟩
  have HG1 := Lib.hid hg1
  rw [hsz1] at hN2
  rw [← hg1] at hN1 hN2 ⊢
  have HU1 := Lib.hid (hN1.keep hal2)
  have HR1 := Lib.hid hN2
  have HC1 := Lib.hid (hal1.new hal2)
  generalize wa.alloc (.cells #[.int .i64 0, .int .i64 0, .int .i64 0, .slice none 0 0] 34) = w1 at HU1 HR1 HC1 ⊢
  clear hN1 hN2 hal1 hal2 hsz1 hg1
  have u0 := HU1.out.cell 0
  have u1 := HU1.out.cell 1
  have u2 := HU1.out.cell 2
  have hne : (r != 0) = true := by simpa using h0
  go_wp2_with fail
  refine (HR.out w1 HC1.out).mono ?_
  rintro e w2 ⟨rfl, hc2⟩
  have HC2 := Lib.hid (HC1.out.new hc2)
  have hR2 := HR1.out.keep hc2
  have e0 := hR2.cell 0
  have e1 := hR2.cell 1
  have e2 := hR2.cell 2
  have e3 := hR2.cell 3
  have f0 := hR2.frozen 0
  have f1 := hR2.frozen 1
  have f2 := hR2.frozen 2
  have f3 := hR2.frozen 3
  have HR2 := Lib.hid hR2
  clear hc2 u0 u1 u2 hR2
  go_wp2_with fail
  have hfin := res_laid (w4 := w) rfl HR2.out HC2.out (show w.heap.size ≤ g1 + 1 by have := HG1.out; omega) (.int .i64 0) (.int .i64 0) (.int .i64 0) (.slice none 0 0)
  simp only at hfin
  generalize (((w2.setCell ⟨g1 + 1, 0, none⟩ (.int .i64 0)).setCell ⟨g1 + 1, 1, none⟩ (.int .i64 0)).setCell ⟨g1 + 1, 2, none⟩ (.int .i64 0)).setCell ⟨g1 + 1, 3, none⟩ (.slice none 0 0) = wf at hfin ⊢
  obtain ⟨q1, _, q3⟩ := hfin
  have x0 := q1.cell 0
  have x1 := q1.cell 1
  have x2 := q1.cell 2
  have x3 := q1.cell 3
  simp only [List.getElem?_cons_zero, List.getElem?_cons_succ] at x0 x1 x2 x3
  refine bodyPost_ret (v := .tuple #[.agg #[.int .i64 0, .int .i64 0, .int .i64 0, .slice none 0 0], .int .i64 r]) (by simp [results, Try.results13, go_sem, x0, x1, x2, x3]) rfl ⟨rfl, q3⟩
end
end Go.Proofs.Ytfhgnoajfipjdaa
namespace Go.Proofs.Ytfhgnoajfipjdaa
open Go.RowKit
theorem vU_form (s : ByteArray) (hs : s.size ≤ 1000000) : FormU 1 2 (vU s) := by
  refine ⟨by decide, by decide, by decide, by simp [vU], fun k f hf => ?_, fun f hf => ?_⟩
  · cases k with
    | zero => simp only [vU, List.getElem?_cons_zero, Option.some.injEq] at hf; subst hf; exact ⟨by show nameB 97 = true; decide, by simp [findI, findK, vU], by show (0 : Int) ≤ 0; decide, by show (0 : Int) ≤ 4; decide⟩
    | succ k => simp [vU] at hf
  · simp only [vU, List.mem_singleton] at hf
    subst hf
    exact hs
theorem vU_right (s : ByteArray) (hs : s.size ≤ 1000000) (h0 : (rFn (vU s) 0).1 = 0) : RightU 1 2 (vU s) := by
  have h := vU_form s hs
  refine ⟨h.p0, h.pm, h.m64, h.few, h.fn, fun k hk => ?_, h.small⟩
  obtain rfl : k = 0 := by simp [vU] at hk; omega
  exact h0
theorem vU_safe (s : ByteArray) (hs : s.size ≤ 1000000) (h0 : (rFn (vU s) 0).1 = 0) : SafeU (vU s) := ⟨fun hk => (vU_right s hs h0).rfunc hk, fun f hf => by
  simp only [vU, List.mem_singleton] at hf
  subst hf
  exact ⟨by show (0 : Int) ≤ 0; decide, by show (0 : Int) ≤ 4; decide⟩⟩
section
variable {w : World}
set_option maxHeartbeats 16000000 in
set_option maxRecDepth 100000 in
theorem topVerdicts_any (raw : ByteArray) (hraw : raw.size ≤ 9223372036854775807) : Calls Try.prog 6 #[.string raw] w (LawPost w) := by
  go_enter Try.func6, Try.ntmps6
  go_upto_if 10 with fail
  go_cut [0] (fun v wx => ∃ s : ByteArray, v = .string s ∧ s.size ≤ 60 ∧ w = wx)
  case first =>
    by_cases h60 : 60 < raw.size
    · have h60I : (60 : Int) < (raw.size : Int) := by omega
      go_wp2_with fail
      go_meet
      exact ⟨_, rfl, by simp; omega, rfl⟩
    · have h60I : (raw.size : Int) ≤ 60 := by omega
      go_wp2_with fail
      go_meet
      exact ⟨_, rfl, by omega, rfl⟩
  case rest =>
    obtain ⟨s, rfl, hs60, rfl⟩ := hcut
    have HS := Lib.hid (show s.size ≤ 1000000 by omega)
    clear hraw hs60
    go_wp2_with fail
    refine (verdict_any s HS.out).mono ?_
    rintro e w1 ⟨rfl, hc1⟩
    have HC1 := Lib.hid hc1
    have hcs := verdR_cases s
    generalize (verdR s).1 = vn at hcs ⊢
    generalize (verdR s).2 = ve at hcs ⊢
    clear hc1
    go_upto_region 5 with fail
    generalize hw2 : (w1.alloc (.cells #[.int .i32 97, .int .i64 0, .string s] 51)).alloc (.cells #[.int .i64 1, .int .i64 2, .slice (some ⟨w1.heap.size, 0, none⟩) 1 1] 28) = w2
    obtain ⟨hU2, hF2, hC2, hS2⟩ := vunit_laid w1 s 1 2 hw2
    have hsl : w1.heap.size < w2.heap.size := by omega
    clear hw2 hS2
    generalize w1.heap.size = gf at hU2 hF2 hsl ⊢
    generalize gf + 1 = gu at hU2 ⊢
    have HU := Lib.hid hU2
    have HF := Lib.hid hF2
    have HC := Lib.hid (HC1.out.new hC2)
    have HSL := Lib.hid hsl
    clear hU2 hF2 hC2 hsl
    have HRT := Lib.hid (show ∀ W : World, Chg [] w2 W → Calls Try.prog 22 #[unitV 1 2 (some ⟨gf, 0, none⟩) 1 1] W (fun e w' => e = .returned (.int .i64 (rFn (vU s) 0).1) ∧ Chg [] W w') from fun W hW =>
      (uright_any (HF.out.keep hW) (vU_form s HS.out)).mono (by
        rintro e w' ⟨r, hr, rfl, hc⟩
        exact ⟨by rw [RightAns.one hr]; rfl, hc⟩))
    rcases hcs with ⟨rfl, rfl, h0⟩ | ⟨hv0, hv3, hve, hre⟩
    · have H0 := Lib.hid h0
      obtain ⟨val, tr, s1, hdo, ht0, ht7, _⟩ := eDo_less (vU_safe s HS.out h0) (k := 0) (f := ⟨97, 0, s⟩) rfl (args := []) rfl [] 2 500 (zeros (1 * 64)) (falses 1) []
      rw [h0] at HRT
      clear h0
      have TOK := efT_ok (B := w2.heap.size) (Tl := []) (P := resP val tr (s1.fuel : Int)) (hard := [3]) (soft := [1, 2])
      refine F2.wp_flow (by kernel_rfl) (efT w2.heap.size [] (resP val tr (s1.fuel : Int)) [3] [1, 2]) TOK (by kernel_rfl) (by kernel_rfl) ?_
      refine F2.flow1h (r := .agg #[.int .i64 1, .int .i64 2, .slice (some ⟨gf, 0, none⟩) 1 1]) TOK rfl (.out rfl rfl) rfl (fun ev W he hW e1 => by have hu := hW.fe.whole (show Whole w2.drew gu 28 _ from HU.out) (by decide); have c0 := hu.cell 0; have c1 := hu.cell 1; have c2 := hu.cell 2; clear hu; go_simp) ?_
      refine ef_new 1 2 (by decide) (by decide) (Nat.le_refl _) rfl rfl (by kernel_rfl) (.cons (.const _) (.cons (.const _) .nil)) rfl (by intro h; cases h) ?_
      refine ef_row (Nat.le_refl _) rfl rfl (by kernel_rfl) (.cons (.const _) .nil) rfl (by intro h; cases h) ?_
      refine ef_run (fuel := 500) (kf := 0) (m2 := 0) (args := []) (fun u => ∃ A m c, u = .slice A m c) rfl rfl rfl rfl (by kernel_rfl) (.inn rfl) rfl rfl (.const _) (.const _) (fun ev W _ hf => ⟨none, 0, hf, fun h => absurd h (by simp [nms])⟩) (HF.out.keep (Chg.refl [] _).drew) (fun ad e => by injection e with e; subst e; exact HSL.out) (vU_right s HS.out H0.out) rfl rfl rfl (by decide) rfl hdo (fun A c => ⟨A, _, c, rfl⟩) rfl (by intro h; cases h) ?_
      refine F2.flow_move TOK rfl (keeps_ran _ _ _ _) (.inr (keeps_ran _ _ _ _)) rfl ?_
      refine ef_x0 rfl rfl (by intro h; cases h) ?_
      refine ef_x1 rfl rfl (by intro h; cases h) ?_
      refine ef_var (Nat.le_refl _) rfl (by intro h; cases h) (fun ev W => by go_simp) ?_
      refine ef_put rfl rfl (fun u h => by obtain ⟨A, m, c, rfl⟩ := h; exact ⟨A, m, c, rfl⟩) (fun u h => by obtain ⟨A, m, c, rfl⟩ := h; rfl) rfl ?_
      refine F2.flow_assign TOK rfl (keeps_isV _) (.inr (keeps_isV _)) rfl ?_
      intro vs W hW hF hN
      obtain ⟨gx, cs, ex, hbx, hwx, _, A5, m5, c5, rfl⟩ := hN 8 _ _ 6 rfl rfl rfl rfl
      have ee : vs 7 = .int .i64 0 := hF 7 _ rfl rfl
      have hcw : Chg [] w2 W := Chg.new (Chg.refl [] w2).drew (hW.fe.chg (show w2.drew.heap.size ≤ w2.heap.size from Nat.le_refl _))
      have HCW := Lib.hid hcw
      have HX := Lib.hid hwx
      simp only [putAll, Act.put, List.setIfInBounds_toArray, List.set_cons_zero, List.set_cons_succ]
      rw [ex, ee]
      have hu := HU.out.keep hcw
      have u0 := hu.cell 0
      have u1 := hu.cell 1
      have u2 := hu.cell 2
      clear hF hN hW hwx hcw ex ee hbx TOK hdo hu
      unfold unitV at HRT
      go_wp2_with fail
      refine (HRT.out W HCW.out).mono ?_
      rintro e w3 ⟨rfl, hc3⟩
      have hx := HX.out.keep hc3
      have x1 := hx.cell 1
      have HC3 := Lib.hid ((HC.out.new HCW.out).new hc3)
      have d1 : decide (0 ≤ tr) = true := decide_eq_true ht0
      have d2 : decide (tr ≤ 7) = true := decide_eq_true ht7
      clear hc3 hx u0 u1 u2
      go_wp2_with fail
      refine awake_any.mono ?_
      rintro e w9 ⟨rfl, hc9⟩
      have HP := Lib.hid (show LawPost w (.returned (.bool true)) w9 from ⟨rfl, HC3.out.new hc9⟩)
      clear hc9
      go_wp2_with fail
      go_ret
      exact HP.out
    · rw [hre] at HRT
      clear hre
      have TOK := efT_ok (B := w2.heap.size) (Tl := []) (P := resP 0 0 0) (hard := [3]) (soft := [1, 2])
      refine F2.wp_flow (by kernel_rfl) (efT w2.heap.size [] (resP 0 0 0) [3] [1, 2]) TOK (by kernel_rfl) (by kernel_rfl) ?_
      refine F2.flow1h (r := .agg #[.int .i64 1, .int .i64 2, .slice (some ⟨gf, 0, none⟩) 1 1]) TOK rfl (.out rfl rfl) rfl (fun ev W he hW e1 => by have hu := hW.fe.whole (show Whole w2.drew gu 28 _ from HU.out) (by decide); have c0 := hu.cell 0; have c1 := hu.cell 1; have c2 := hu.cell 2; clear hu; go_simp) ?_
      refine ef_new 1 2 (by decide) (by decide) (Nat.le_refl _) rfl rfl (by kernel_rfl) (.cons (.const _) (.cons (.const _) .nil)) rfl (by intro h; cases h) ?_
      refine ef_row (Nat.le_refl _) rfl rfl (by kernel_rfl) (.cons (.const _) .nil) rfl (by intro h; cases h) ?_
      refine F2.flow_call (isV (.tuple #[.agg #[.int .i64 0, .int .i64 0, .int .i64 0, .slice none 0 0], .int .i64 ve])) (keeps_isV _) (.inr (keeps_isV _)) (by kernel_rfl) rfl (fun ev W he hW hfs => ?_) ?_ (by intro h; cases h)
      · have hcW : Chg [] w2 W := Chg.new (Chg.refl [] w2).drew (hW.fe.chg (show w2.drew.heap.size ≤ w2.heap.size from Nat.le_refl _))
        obtain ⟨f1, f2, f3, f4, f5, f6, _⟩ := hfs
        have e1 : ev (.tmp 23) = unitV 1 2 (some ⟨gf, 0, none⟩) 1 1 := f1
        obtain ⟨p, gC, gD, X, Y, e2, _⟩ : memF w2.heap.size (zeros (1 * 64)) (falses 1) 2 (ev (.tmp 24)) W := f2
        obtain ⟨rp, av, e3, _⟩ : rowEF w2.heap.size [] (ev (.tmp 25)) W := f3
        have e4 : ev (.const (.int .i32 97)) = .int .i32 97 := he.const _
        have e5 : ev (.const (.int .i64 500)) = .int .i64 500 := he.const _
        have e6 : ev (.const (.slice none 0 0)) = .slice none 0 0 := he.const _
        rw [show (List.map ev (#[.tmp 23, .tmp 24, .tmp 25, .const (.int .i32 97), .const (.int .i64 500), .const (.slice none 0 0)] : Array Operand).toList).toArray = #[ev (.tmp 23), ev (.tmp 24), ev (.tmp 25), ev (.const (.int .i32 97)), ev (.const (.int .i64 500)), ev (.const (.slice none 0 0))] by simp]
        rw [e1, e2, e3, e4, e5, e6]
        refine (erun_bad (fuel := 500) 97 (fun W' hW' => HRT.out W' (hcW.new hW')) hve (by decide)).mono ?_
        rintro e w5 ⟨rfl, hc5⟩
        exact ⟨_, rfl, ef_by _ hc5, rfl⟩
      refine F2.flow_move TOK rfl (keeps_isV _) (.inr (keeps_isV _)) rfl ?_
      refine F2.flow_op (aggF 0 0 0 isSl) (keeps_agg _ _ _ _) (.inr (keeps_agg _ _ _ _)) rfl (fun ev W he hW hf => ?_) ?_ (by intro h; cases h)
      · have e1 : ev (.tmp 22) = .tuple #[.agg #[.int .i64 0, .int .i64 0, .int .i64 0, .slice none 0 0], .int .i64 ve] := hf.1
        have hby : (efT w2.heap.size [] (resP 0 0 0) [3] [1, 2]).by_ 5 W W := ef_by _ (Chg.refl _ _)
        clear hf hW
        go_simp
        exact ⟨hby, _, rfl, none, 0, 0, rfl⟩
      refine F2.flow1 (r := .int .i64 ve) TOK rfl (.inn rfl) rfl (fun ev W he e1 => by go_simp) ?_
      refine ef_var (Nat.le_refl _) rfl (by intro h; cases h) (fun ev W => by go_simp) ?_
      refine ef_put rfl rfl (fun u h => by obtain ⟨A, m, c, rfl⟩ := h; exact ⟨A, m, c, rfl⟩) (fun u h => by obtain ⟨A, m, c, rfl⟩ := h; rfl) rfl ?_
      refine F2.flow_assign TOK rfl (keeps_isV _) (.inr (keeps_isV _)) rfl ?_
      intro vs W hW hF hN
      obtain ⟨gx, cs, ex, hbx, hwx, _, A5, m5, c5, rfl⟩ := hN 8 _ _ 6 rfl rfl rfl rfl
      have ee : vs 7 = .int .i64 ve := hF 7 _ rfl rfl
      have hcw : Chg [] w2 W := Chg.new (Chg.refl [] w2).drew (hW.fe.chg (show w2.drew.heap.size ≤ w2.heap.size from Nat.le_refl _))
      have HCW := Lib.hid hcw
      simp only [putAll, Act.put, List.setIfInBounds_toArray, List.set_cons_zero, List.set_cons_succ]
      rw [ex, ee]
      have hu := HU.out.keep hcw
      have u0 := hu.cell 0
      have u1 := hu.cell 1
      have u2 := hu.cell 2
      clear hF hN hW hwx hcw ex ee hbx TOK hu
      unfold unitV at HRT
      have hve2 : (ve != 0) = true := by simpa using hve
      have hvee : (ve == ve) = true := by simp
      have hv3d : decide (vn < 3) = true := decide_eq_true hv3
      go_wp2_with fail
      refine (HRT.out W HCW.out).mono ?_
      rintro e w3 ⟨rfl, hc3⟩
      have HC3 := Lib.hid ((HC.out.new HCW.out).new hc3)
      clear hc3 u0 u1 u2
      go_wp2_with fail
      refine awake_any.mono ?_
      rintro e w9 ⟨rfl, hc9⟩
      have HP := Lib.hid (show LawPost w (.returned (.bool true)) w9 from ⟨rfl, HC3.out.new hc9⟩)
      clear hc9
      go_wp2_with fail
      go_ret
      exact HP.out
end
end Go.Proofs.Ytfhgnoajfipjdaa
