/-
  S: RootRef.
-/
import Derived.Test.YtddjgncdjdjgeaaGreatZS13
namespace Go.Proofs.YtddjgncdjdjgeaaGreat
open Go.RowKit
/-- From w to w' nothing has turned but the marks of rows that hold the mark's four bytes, from block B on. -/
structure Rm (B : Nat) (w w' : World) : Prop where
  os : w'.os = w.os
  tape : w'.tape = w.tape
  output : w'.output = w.output
  size : w.heap.size ≤ w'.heap.size
  block : ∀ k, k < w.heap.size → w'.heap[k]? = w.heap[k]? ∨ (B ≤ k ∧ ∃ t fz fz', w.heap[k]? = some (.cells (bts markL).toArray t fz) ∧ w'.heap[k]? = some (.cells (bts markL).toArray t fz'))
set_option maxRecDepth 100000 in
theorem Rm.of_chg {B : Nat} {w w' : World} (h : Chg [] w w') : Rm B w w' := ⟨h.os, h.tape, h.output, h.size, fun k hk => .inl (h.block k hk (by simp))⟩
set_option maxRecDepth 100000 in
theorem Rm.trans {B : Nat} {a b c : World} (h : Rm B a b) (k : Rm B b c) : Rm B a c := by
  refine ⟨k.os.trans h.os, k.tape.trans h.tape, k.output.trans h.output, Nat.le_trans h.size k.size, fun i hi => ?_⟩
  rcases h.block i hi with h1 | ⟨hB, t, fz, fz', h1, h2⟩
  · rcases k.block i (Nat.lt_of_lt_of_le hi h.size) with k1 | ⟨hB, t, fz, fz', k1, k2⟩
    · exact .inl (k1.trans h1)
    · exact .inr ⟨hB, t, fz, fz', by rw [← h1]; exact k1, k2⟩
  · rcases k.block i (Nat.lt_of_lt_of_le hi h.size) with k1 | ⟨_, t2, fz2, fz3, k1, k2⟩
    · exact .inr ⟨hB, t, fz, fz', h1, k1.trans h2⟩
    · rw [h2] at k1
      injection k1 with k1
      injection k1 with _ k3 _
      subst k3
      exact .inr ⟨hB, t, fz, fz3, h1, k2⟩
set_option maxRecDepth 100000 in
theorem Rm.chg {B : Nat} {w w' : World} (h : Rm B w w') (hB : w.heap.size ≤ B) : Chg [] w w' :=
  ⟨h.os, h.tape, h.output, h.size, fun k hk _ => (h.block k hk).elim id fun ⟨hb, _⟩ => by omega⟩
def markT (B : Nat) : Turns := ⟨Rm B, Rm B, [], []⟩
set_option maxRecDepth 100000 in
theorem markT_ok (B : Nat) : (markT B).Ok := ⟨fun _ => Rm.of_chg (Chg.refl _ _), fun _ _ h => h, fun _ _ _ h k => h.trans k⟩
set_option maxRecDepth 100000 in
theorem mark_by {B : Nat} (k : Nat) {W W' : World} (h : Rm B W W') : (markT B).by_ k W W' := by
  unfold Turns.by_
  split <;> exact h
/-- The mark's row. -/
def markF (B : Nat) : Fact := fun v W => ∃ g fz, v = .slice (some ⟨g, 0, none⟩) 4 4 ∧ B ≤ g ∧ W.heap[g]? = some (.cells (bts markL).toArray 5 fz)
set_option maxRecDepth 100000 in
theorem heap_lt {W : World} {g : Nat} {o : Obj} (h : W.heap[g]? = some o) : g < W.heap.size := by
  rcases Nat.lt_or_ge g W.heap.size with hlt | hge
  · exact hlt
  · rw [Array.getElem?_eq_none hge] at h; cases h
set_option maxRecDepth 100000 in
theorem keeps_mark (B : Nat) : Keeps (Rm B) (markF B) := fun v W W' ⟨g, fz, e, hB, hg⟩ hR => by
  rcases hR.block g (heap_lt hg) with h | ⟨_, t, f1, f2, h1, h2⟩
  · exact ⟨g, fz, e, hB, h.trans hg⟩
  · rw [hg] at h1
    injection h1 with h1
    injection h1 with _ h3 _
    subst h3
    exact ⟨g, f2, e, hB, h2⟩
set_option maxRecDepth 100000 in
theorem bs_mark {W : World} {g : Nat} {fz : Nat × Nat} (hg : W.heap[g]? = some (.cells (bts markL).toArray 5 fz)) : Bs W (some ⟨g, 0, none⟩) 4 4 markL := by
  refine ⟨rfl, fun _ => ⟨_, rfl, heap_lt hg, fun j v hj => ?_⟩, Nat.le_refl _, by omega, fun _ ad e => by injection e with e; subst e; rfl⟩
  rw [add_plain, Nat.zero_add, cell_of_row _ _ _ _ _ _ hg]
  simpa using hj
/-- An own row of eight bytes or more. -/
def ownL (l : List UInt8) : Fact := fun v W => 8 ≤ l.length ∧ W.ownsRow 0 5 1 v l.length (bts l)
set_option maxRecDepth 100000 in
theorem keeps_ownL (B : Nat) (l : List UInt8) : Keeps (Rm B) (ownL l) := fun v W W' ⟨h8, h⟩ hR => by
  refine ⟨h8, h.1, h.2.imp id ?_⟩
  rintro ⟨g, cap, cur, rfl, hb, hg, hn, hc, hs, ht⟩
  refine ⟨g, cap, cur, rfl, hb, ?_, hn, hc, hs, ht⟩
  rcases hR.block g (heap_lt hg) with h | ⟨_, t, f1, f2, h1, h2⟩
  · exact h.trans hg
  · exfalso
    rw [hg] at h1
    injection h1 with h1
    injection h1 with h3 _ _
    rw [h3] at hs
    have : (bts markL).toArray.size = 4 := rfl
    omega
set_option maxRecDepth 100000 in
theorem run_convert_mark {P : Program} (W : World) (t e : TypeId) (C : Array Value) (fz : Nat × Nat) (g n c : Nat) (ht : P.underlying t = some (.slice e)) (he : P.underlying e = some (.int .u8)) (hg : W.heap[g]? = some (.cells C e fz)) :
    ∃ fz', (convert t t (.slice (some ⟨g, 0, none⟩) n c)).run P W = .ok (.slice (some ⟨g, 0, none⟩) n c) { W with heap := W.heap.modify g fun _ => .cells C e fz' } := by
  have hsh : W.shape? g = some (e, C.size) := by
    unfold World.shape?
    rw [hg]
  obtain ⟨lo, hi⟩ := fz
  refine ⟨if lo = hi then (C.size, C.size + 1) else (min lo C.size, max hi (C.size + 1)), ?_⟩
  have hfr : W.freeze ⟨g, C.size, none⟩ 1 = { W with heap := W.heap.modify g fun _ => .cells C e (if lo = hi then (C.size, C.size + 1) else (min lo C.size, max hi (C.size + 1))) } := by
    unfold World.freeze
    rw [if_neg (by decide)]
    congr 1
    apply Array.ext
    · simp
    · intro i h1 h2
      simp only [Array.getElem_modify]
      by_cases h : g = i
      · subst h
        have hgl := heap_lt hg
        rw [Array.getElem?_eq_getElem hgl] at hg
        injection hg with hg
        simp [hg]
      · simp [h]
  simp [convert, run_underlying ht, run_underlying he, markStringish, hsh]
  exact hfr
section
variable {T : Turns} {w0 : World} {a0 : Act} {ops : List Oper} {Q : Exit → Act → World → Prop} {F : Said} {k : Nat} {rest : List Oper}
  {d : Option Tmp} {ty : TypeId} {pos : String} {af : Array Go.Edge} {g : Option (Nat × Bool)} {B : Nat}
set_option maxRecDepth 100000 in
theorem flow_build_mark {t : TypeId} {xs : Array (Nat × Operand)} (hB : B ≤ w0.heap.size) (hrun : ∀ ev W, EvOk ev → (execOp ev ⟨d, .buildSlice t 4 xs, ty, pos, af, g⟩).run Tryz.prog W = .ok (.value (.slice (some ⟨W.heap.size, 0, none⟩) 4 4)) (W.alloc (.cells (bts markL).toArray 5)))
    (hg : guardIs ops F true ⟨d, .buildSlice t 4 xs, ty, pos, af, g⟩) (h : Flow Tryz.prog (markT B) w0 a0 ops Q ((d, markF B) :: F) (k + 1) rest) : Flow Tryz.prog (markT B) w0 a0 ops Q F k (⟨d, .buildSlice t 4 xs, ty, pos, af, g⟩ :: rest) := by
  refine flow_op (markF B) (keeps_mark B) (.inr (keeps_mark B)) hg (fun ev W he hW _ => ?_) h
  rw [hrun ev W he]
  have hs : w0.heap.size ≤ W.heap.size := Rm.size (B := B) hW
  exact ⟨mark_by k (Rm.of_chg ((Chg.refl _ _).alloc _)), _, _, rfl, Nat.le_trans hB hs, heap_alloc_new W _⟩
set_option maxRecDepth 100000 in
theorem flow_convert_mark {st : Tmp} (hs : look F st = some (markF B))
    (hg : guardIs ops F true ⟨d, .convert 30 30 (.tmp st), ty, pos, af, g⟩) (h : Flow Tryz.prog (markT B) w0 a0 ops Q ((d, markF B) :: F) (k + 1) rest) : Flow Tryz.prog (markT B) w0 a0 ops Q F k (⟨d, .convert 30 30 (.tmp st), ty, pos, af, g⟩ :: rest) := by
  refine flow_op (markF B) (keeps_mark B) (.inr (keeps_mark B)) hg (fun ev W he hW hf => ?_) h
  have hf1 : factOf a0 F (.tmp st) (ev (.tmp st)) W := hf.1
  simp only [factOf, hs] at hf1
  obtain ⟨b, fz, e1, hB, hb⟩ := hf1
  obtain ⟨fz', hr⟩ := run_convert_mark (P := Tryz.prog) W 30 5 _ fz b 4 4 Tryz.underlying30 Tryz.underlying5 hb
  have hbl := heap_lt hb
  have hnew : (W.heap.modify b fun _ => Obj.cells (bts markL).toArray 5 fz')[b]? = some (.cells (bts markL).toArray 5 fz') := by
    rw [Array.getElem?_modify, if_pos rfl, hb]; rfl
  simp only [execOp, e1, Sem.run_bind, hr, Result.andThen_ok, Sem.run_pure]
  refine ⟨mark_by k ⟨rfl, rfl, rfl, by simp, fun i hi => ?_⟩, b, fz', rfl, hB, hnew⟩
  by_cases hib : b = i
  · subst hib
    exact .inr ⟨hB, _, fz, fz', hb, hnew⟩
  · refine .inl ?_
    show (W.heap.modify b _)[i]? = _
    rw [Array.getElem?_modify, if_neg hib]
set_option maxRecDepth 100000 in
/-- A call that appends a number to a row that reads as l. -/
theorem flow_put {φ : Fact} {f : FuncId} {st xt : Tmp} {ats : Array TypeId} {l : List UInt8} {q : Nat} (hl : 4 ≤ l.length) (hl2 : l.length ≤ 1000)
    (hbs : ∀ v W, φ v W → ∃ A n c, v = .slice A n c ∧ Bs W A n c l)
    (hput : ∀ (W : World) (A : Option Addr) (n c : Nat), Bs W A n c l → n + 4 ≤ 140737488355328 → Calls Tryz.prog f #[.slice A n c, .int .u32 (q : Int)] W (BytesPost W (l ++ be4 q)))
    (hs : look F st = some φ) (hx : look F xt = some (isV (.int .u32 (q : Int)))) (hf : callsB Tryz.prog f = true)
    (hg : guardIs ops F true ⟨d, .call { callee := .value (.func f), args := #[.tmp st, .tmp xt], argTypes := ats }, ty, pos, af, g⟩) (h : Flow Tryz.prog (markT B) w0 a0 ops Q ((d, ownL (l ++ be4 q)) :: F) (k + 1) rest) :
    Flow Tryz.prog (markT B) w0 a0 ops Q F k (⟨d, .call { callee := .value (.func f), args := #[.tmp st, .tmp xt], argTypes := ats }, ty, pos, af, g⟩ :: rest) := by
  refine flow_call (ownL (l ++ be4 q)) (keeps_ownL _ _) (.inr (keeps_ownL _ _)) hf hg (fun ev W he hW hfs => ?_) h
  have hf1 : factOf a0 F (.tmp st) (ev (.tmp st)) W := hfs.1
  have hf2 : factOf a0 F (.tmp xt) (ev (.tmp xt)) W := hfs.2.1
  simp only [factOf, hs] at hf1
  simp only [factOf, hx, isV] at hf2
  obtain ⟨A, n, c, e1, hB⟩ := hbs _ _ hf1
  show Calls Tryz.prog f #[ev (.tmp st), ev (.tmp xt)] W _
  rw [e1, hf2]
  refine (hput W A n c hB (by have := hB.len; omega)).mono ?_
  rintro e w' ⟨v, rfl, ho, hc⟩
  exact ⟨v, rfl, mark_by k (Rm.of_chg hc), by rw [List.length_append, be4_len]; omega, own_more ho (Nat.zero_le _)⟩
end
set_option maxRecDepth 100000 in
theorem ownL_bs (l : List UInt8) (v : Value) (W : World) (h : ownL l v W) : ∃ A n c, v = .slice A n c ∧ Bs W A n c l := by
  obtain ⟨A, c, e, hB, _⟩ := Bs.of_own h.2
  exact ⟨A, _, c, e, hB⟩
set_option maxRecDepth 100000 in
theorem markF_bs (B : Nat) (v : Value) (W : World) (h : markF B v W) : ∃ A n c, v = .slice A n c ∧ Bs W A n c markL := by
  obtain ⟨g, fz, e, _, hg⟩ := h
  exact ⟨_, _, _, e, bs_mark hg⟩
section
variable {w : World}
set_option maxHeartbeats 4000000 in
set_option maxRecDepth 100000 in
theorem rroot_any (a b c : Nat) (ha : a ≤ 2147483647) (hb : b ≤ 2147483647) (hc : c < 4294967296) :
    Calls Tryz.prog 29 #[rootV a b c] w (BytesPost w (rootL a b c)) := by
  obtain ⟨i0, hi, hz, hs1, hb1⟩ := info_parts info_byte
  have ea : IntKind.u32.wrap (a : Int) = (a : Int) := by rw [IntKind.wrap_u32]; omega
  have eb : IntKind.u32.wrap (b : Int) = (b : Int) := by rw [IntKind.wrap_u32]; omega
  unfold rootV
  go_enter Tryz.func29, Tryz.ntmps29
  go_wp2_with fail
  have hR := Whole.new w 58 [.int .i64 (a : Int), .int .i64 (b : Int), .int .u32 (c : Int)]
  have hc1 : Chg [] w (w.alloc (.cells #[.int .i64 (a : Int), .int .i64 (b : Int), .int .u32 (c : Int)] 58)) := (Chg.refl [] w).alloc _
  generalize w.alloc (.cells #[.int .i64 (a : Int), .int .i64 (b : Int), .int .u32 (c : Int)] 58) = w1 at hc1 hR ⊢
  have hld : ∀ W, Rm w1.drew.heap.size w1.drew W → W.cell? ⟨w.heap.size, 0, none⟩ = some (.int .i64 (a : Int)) ∧ W.cell? ⟨w.heap.size, 1, none⟩ = some (.int .i64 (b : Int)) ∧ W.cell? ⟨w.heap.size, 2, none⟩ = some (.int .u32 (c : Int)) := fun W hW => by
    have h := hR.drew.keep (hW.chg (Nat.le_refl _))
    exact ⟨h.cell 0, h.cell 1, h.cell 2⟩
  have T := markT_ok w1.drew.heap.size
  refine wp_flow (by kernel_rfl) (markT w1.drew.heap.size) T (by kernel_rfl) ?_
  refine flow_build_mark (Nat.le_refl _) (fun ev W he => by have hcst := he.const; go_simp; rfl) rfl ?_
  refine flow_convert_mark rfl rfl ?_
  refine flow1 (r := .pointer (some ⟨w.heap.size, 0, none⟩)) T rfl (.out rfl rfl) rfl (fun ev W he e1 => by go_simp) ?_
  refine flow1h (r := .int .i64 (a : Int)) T rfl (.inn rfl) rfl (fun ev W he hW e1 => by obtain ⟨c0, c1, c2⟩ := hld W hW; go_simp) ?_
  refine flow1 (r := .int .u32 (a : Int)) T rfl (.inn rfl) rfl (fun ev W he e1 => by go_simp) ?_
  refine flow_put (by decide) (by decide) (markF_bs _) (fun W A n c hB hn => rput_b hB a (by omega) hn) rfl rfl (by kernel_rfl) rfl ?_
  refine flow1 (r := .pointer (some ⟨w.heap.size, 1, none⟩)) T rfl (.out rfl rfl) rfl (fun ev W he e1 => by go_simp) ?_
  refine flow1h (r := .int .i64 (b : Int)) T rfl (.inn rfl) rfl (fun ev W he hW e1 => by obtain ⟨c0, c1, c2⟩ := hld W hW; go_simp) ?_
  refine flow1 (r := .int .u32 (b : Int)) T rfl (.inn rfl) rfl (fun ev W he e1 => by go_simp) ?_
  refine flow_put (by simp [markL, be4_len]) (by simp [markL, be4_len]) (ownL_bs _) (fun W A n c hB hn => rput_b hB b (by omega) hn) rfl rfl (by kernel_rfl) rfl ?_
  refine flow1 (r := .pointer (some ⟨w.heap.size, 2, none⟩)) T rfl (.out rfl rfl) rfl (fun ev W he e1 => by go_simp) ?_
  refine flow1h (r := .int .u32 (c : Int)) T rfl (.inn rfl) rfl (fun ev W he hW e1 => by obtain ⟨c0, c1, c2⟩ := hld W hW; go_simp) ?_
  refine flow_put (by simp [markL, be4_len]) (by simp [markL, be4_len]) (ownL_bs _) (fun W A n c2 hB hn => rput_b hB c hc hn) rfl rfl (by kernel_rfl) rfl ?_
  refine flow_assign T rfl (keeps_ownL _ _) (.inr (keeps_ownL _ _)) rfl ?_
  intro vs W hW hF
  obtain ⟨_, ho⟩ : ownL (headR a b c) (vs 3) W := hF 3 _ rfl rfl
  have hcW : Chg [] w W := hc1.drew.new (Rm.chg hW (Nat.le_refl _))
  generalize hv3 : vs 3 = v3 at ho
  simp only [putAll, Act.put, List.setIfInBounds_toArray, List.set_cons_zero, List.set_cons_succ, hv3]
  obtain ⟨A3, c3, rfl, hB3, _⟩ := Bs.of_own ho
  rw [headR_len] at hB3 ⊢
  have HB16 := Lib.hid hB3
  have HC := Lib.hid hcW
  clear hW hF hv3 ho hB3 hcW hld hR
  go_wp2_with fail
  refine (rsumk_b HB16.out).mono ?_
  rintro e w' ⟨rfl, rfl⟩
  go_wp2_with fail
  refine (rput_b HB16.out (sumK (headR a b c)) (sumK_lt _) (by omega)).mono ?_
  rintro e w5 ⟨v5, rfl, ho5, hc5⟩
  have hl5 : (headR a b c ++ be4 (sumK (headR a b c))).length = 20 := rfl
  rw [hl5] at ho5
  have hsz := HC.out.size
  have HRL := Lib.hid (show rootL a b c = (headR a b c ++ be4 (sumK (headR a b c))) ++ zeros 44 from rfl)
  generalize headR a b c ++ be4 (sumK (headR a b c)) = Z at ho5 HRL
  obtain ⟨g, r, rfl, hbg, _, _⟩ := own_whole ho5 (by omega)
  obtain ⟨g', cap', w6, hr, ho6, hg6, hor⟩ := run_append_zeros (P := Tryz.prog) w5 W.heap.size 30 3 30 5 i0 _ 1 .i64 Tryz.underlying30 tn_int hi hz hs1 hb1 rfl rfl g 20 (20 + r.length) (bts Z) ho5 44 (by unfold maxLen; omega) (by omega) hc5.size
  have hc6 : Chg [] W w6 := hc5.own ho5 (Nat.le_refl _) hg6
  have HR := Lib.hid hr
  have HO := Lib.hid ho6
  have HC6 := Lib.hid (HC.out.new hc6)
  clear hr ho6 hg6 hor hc6 ho5 hc5 hl5
  go_wp2_with (at_builtin; refine Lib.wpList_append_run w5 rfl (.tmp 21) (.tmp 24) 30 3 rfl _ _ rfl rfl _ _ HR.out ?_)
  go_ret
  refine ⟨_, rfl, ?_, HC6.out⟩
  have e1 : (rootL a b c).length = 20 + 44 := rootL_len a b c
  have e2 : bts (rootL a b c) = bts Z ++ List.replicate 44 (.int .u8 0) := by rw [HRL.out, bts_app, bts_zeros]
  rw [e1, e2]
  exact own_more HO.out hsz
end
end Go.Proofs.YtddjgncdjdjgeaaGreat
