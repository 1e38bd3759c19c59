/-
  append onto a slice that is full: what was there stays, whatever is appended.
-/
import Derived.Test.YtigbnmckdjlihabLawB
namespace Go.Proofs.Ytigbnmckdjlihab
open Go.RowKit
section
variable {P : Program} (w : World)
theorem run_append_full (t ty e : TypeId) (i : TypeInfo) (z : Value) (bytes : Nat) (ht : P.underlying t = some (.slice e)) (hi : P.info? e = some i) (hz : i.zero = some z) (hs : i.size = 1) (hby : i.bytes = bytes)
    (b : Addr) (hbs : b.spot = none) (k : Nat) (olds : List Value) (hlo : olds.length = k) (ho : Src w (some b) olds) (A : Option Addr) (m c : Nat) (news : List Value) (hl : news.length = m) (hsrc : Src w A news) (hb : (k + m) * bytes ≤ 140737488355328) (h63 : k + m ≤ maxLen) :
    ∃ b' c' w', (Builtin.append_ #[t, t] ty #[.slice (some b) k k, .slice A m c]).run P w = .ok (.slice (some b') (k + m) c') w' ∧ Src w' (some b') (olds ++ news) ∧ k + m ≤ c' ∧ c' ≤ maxLen ∧ b'.spot = none ∧ Chg [] w w' := by
  have hold : ∀ j v, olds[j]? = some v → w.cell? (b.add j) = some v := by
    intro j v hj
    obtain ⟨ad, h, _, hc⟩ := ho (by have := (List.getElem?_eq_some_iff.1 hj).1; omega)
    injection h with h
    subst h
    exact hc j v hj
  rcases Nat.eq_zero_or_pos m with h0 | h0
  · subst h0
    obtain rfl : news = [] := List.eq_nil_of_length_eq_zero hl
    refine ⟨b, k, w, ?_, by simpa using ho, by omega, by omega, hbs, Chg.refl _ _⟩
    rcases A with _ | ad
    · simp [Builtin.append_, run_underlying ht, sizeOf, typeInfo, hi, Builtin.lenOf, Builtin.firstCells, storeCells]
    · have hf := run_firstCells_some (P := P) w i.size 0 ad 0 c [] (by simp) (fun j u hj => by simp at hj)
      simp [Builtin.append_, run_underlying ht, sizeOf, typeInfo, hi, Builtin.lenOf, hf, storeCells]
  · obtain ⟨ad, rfl, _, hx⟩ := hsrc (by omega)
    subst hby
    have h63' : k + m ≤ 9223372036854775807 := by simp only [maxLen] at h63; omega
    have h := run_append_grow (P := P) w t ty e i z ht hi hz b k k olds (by rw [hlo, hs]; omega) hold ad m c news (by rw [hl, hs]; omega) hx (by omega) (by omega) (growslice_fits (by omega) (by simpa using hb))
    have hge := grownCap_ge w (k + m) k e
    have hle := grownCap_le_maxLen w (k + m) k e h63
    have hw : Whole (w.drew.alloc (.cells ((olds ++ news) ++ (Builtin.zeroCells z.cells (grownCap w (k + m) k e - (k + m))).toList).toArray e)) w.heap.size e ((olds ++ news) ++ (Builtin.zeroCells z.cells (grownCap w (k + m) k e - (k + m))).toList) := Whole.new w.drew e _
    have e1 : (olds.toArray ++ news.toArray ++ Builtin.zeroCells z.cells (grownCap w (k + m) k e - (k + m))) = ((olds ++ news) ++ (Builtin.zeroCells z.cells (grownCap w (k + m) k e - (k + m))).toList).toArray := by
      apply Array.ext'; simp
    rw [e1] at h
    refine ⟨_, _, _, h, ?_, hge, hle, rfl, ((Chg.refl [] w).drew).alloc _⟩
    have hsr := Src.of_whole hw 0 (k + m)
    rw [List.drop_zero, List.take_left' (by rw [List.length_append, hlo, hl])] at hsr
    exact hsr
/-- .. as bytes. -/
theorem run_append_bs (t ty e : TypeId) (i : TypeInfo) (z : Value) (ht : P.underlying t = some (.slice e)) (hi : P.info? e = some i) (hz : i.zero = some z) (hs : i.size = 1) (hby : i.bytes = 1) (hz1 : z.cells.size = 1)
    (A0 : Option Addr) (k : Nat) (l1 : List UInt8) (h1 : Bs w A0 k k l1) (A : Option Addr) (m c : Nat) (l2 : List UInt8) (h2 : Bs w A m c l2) (hb : k + m ≤ 140737488355328) :
    ∃ A' c' w', (Builtin.append_ #[t, t] ty #[.slice A0 k k, .slice A m c]).run P w = .ok (.slice A' (k + m) c') w' ∧ Bs w' A' (k + m) c' (l1 ++ l2) ∧ Chg [] w w' := by
  have hm : k + m ≤ maxLen := by unfold maxLen; omega
  have hll : (l1 ++ l2).length = k + m := by rw [List.length_append, h1.len, h2.len]
  rcases A0 with _ | b
  · have hk : k = 0 := by
      rcases Nat.eq_zero_or_pos k with h0 | h0
      · exact h0
      · obtain ⟨ad, h, _⟩ := h1.src (by rw [bts_len, h1.len]; exact h0)
        cases h
    subst hk
    obtain rfl : l1 = [] := List.eq_nil_of_length_eq_zero h1.len
    obtain ⟨v', w', hrun, hown, hg, _⟩ := run_append_src (P := P) (w := w) w.heap.size t ty e i z 1 ht hi hz hs hby hz1 (.slice none 0 0) 0 [] (own_nil _ _ _) A m c (bts l2) (by rw [bts_len]; exact h2.len) h2.src (bts_one l2) (by omega) (by omega) (Nat.le_refl _)
    have hc : Chg [] w w' := (Chg.refl [] w).own (own_nil w w.heap.size e) (Nat.le_refl _) hg
    rw [List.nil_append] at hown ⊢
    obtain ⟨A', c', rfl, hB, _⟩ := Bs.of_own (l := l2) hown
    exact ⟨A', c', w', hrun, hB, hc⟩
  · rcases Nat.eq_zero_or_pos k with hk0 | hk0
    · subst hk0
      obtain rfl : l1 = [] := List.eq_nil_of_length_eq_zero h1.len
      rcases Nat.eq_zero_or_pos m with h0 | h0
      · subst h0
        obtain rfl : l2 = [] := List.eq_nil_of_length_eq_zero h2.len
        refine ⟨some b, 0, w, ?_, h1, Chg.refl _ _⟩
        rcases A with _ | ad
        · simp [Builtin.append_, run_underlying ht, sizeOf, typeInfo, hi, Builtin.lenOf, Builtin.firstCells, storeCells]
        · have hf := run_firstCells_some (P := P) w i.size 0 ad 0 c [] (by simp) (fun j u hj => by simp at hj)
          simp [Builtin.append_, run_underlying ht, sizeOf, typeInfo, hi, Builtin.lenOf, hf, storeCells]
      · obtain ⟨ad, rfl, _, hx⟩ := h2.src (by rw [bts_len, h2.len]; exact h0)
        have h := run_append_grow (P := P) w t ty e i z ht hi hz b 0 0 [] (by simp) (by simp) ad m c (bts l2) (by rw [bts_len, h2.len, hs]; omega) hx (by omega) (by omega) (growslice_fits (by omega) (by rw [hby]; omega))
        have hge := grownCap_ge w (0 + m) 0 e
        have hle := grownCap_le_maxLen w (0 + m) 0 e hm
        have hw : Whole (w.drew.alloc (.cells (bts l2 ++ (Builtin.zeroCells z.cells (grownCap w (0 + m) 0 e - (0 + m))).toList).toArray e)) w.heap.size e (bts l2 ++ (Builtin.zeroCells z.cells (grownCap w (0 + m) 0 e - (0 + m))).toList) := Whole.new w.drew e _
        have e1 : (([] : List Value).toArray ++ (bts l2).toArray ++ Builtin.zeroCells z.cells (grownCap w (0 + m) 0 e - (0 + m))) = (bts l2 ++ (Builtin.zeroCells z.cells (grownCap w (0 + m) 0 e - (0 + m))).toList).toArray := by
          apply Array.ext'; simp
        rw [e1] at h
        exact ⟨_, _, _, h, Bs.of_whole hw hll (by rw [List.nil_append, List.take_left' (by rw [bts_len, h2.len]; omega)]) hge (by simpa [maxLen] using hle), ((Chg.refl [] w).drew).alloc _⟩
    · obtain ⟨b', c', w', hrun, hsr, hge, hle, hsp, hc⟩ := run_append_full (P := P) w t ty e i z 1 ht hi hz hs hby b (h1.spot hk0 b rfl) k (bts l1) (by rw [bts_len, h1.len]) h1.src A m c (bts l2) (by rw [bts_len, h2.len]) h2.src (by omega) hm
      refine ⟨some b', c', w', hrun, ⟨hll, ?_, hge, by simpa [maxLen] using hle, fun _ ad e => by injection e with e; subst e; exact hsp⟩, hc⟩
      rwa [bts, List.map_append]
end
/-- A slice of bytes, wherever it lies. -/
def bsF (l : List UInt8) : Fact := fun v W => ∃ A c, v = .slice A l.length c ∧ Bs W A l.length c l
theorem keeps_bs (l : List UInt8) : Keeps (Chg []) (bsF l) := fun _ _ _ ⟨A, c, e, h⟩ hc => ⟨A, c, e, h.keep hc⟩
section
variable {P : Program} {w0 : World} {a0 : Act} {ops : List Oper} {Q : Exit → Act → World → Prop} {F : Said} {k : Nat} {rest : List Oper}
  {d : Option Tmp} {ty : TypeId} {pos : String} {af : Array Edge} {g : Option (Nat × Bool)}
theorem flow_append_bs {s x : Operand} {t e : TypeId} {i : TypeInfo} {z : Value} {A0 A : Option Addr} {n m c : Nat} {l1 l2 : List UInt8} (hs : Det a0 F s (.slice A0 n n)) (hx : Det a0 F x (.slice A m c))
    (h1 : ∀ W, Chg [] w0 W → Bs W A0 n n l1) (h2 : ∀ W, Chg [] w0 W → Bs W A m c l2)
    (ht : P.underlying t = some (.slice e)) (hi : P.info? e = some i) (hz : i.zero = some z) (hsz : i.size = 1) (hby : i.bytes = 1) (hz1 : z.cells.size = 1) (hb : n + m ≤ 140737488355328)
    (hg : guardIs ops F true ⟨d, .call { callee := .builtin .append, args := #[s, x], argTypes := #[t, t] }, ty, pos, af, g⟩) (h : Flow P plainT w0 a0 ops Q ((d, bsF (l1 ++ l2)) :: F) (k + 1) rest) :
    Flow P plainT w0 a0 ops Q F k (⟨d, .call { callee := .builtin .append, args := #[s, x], argTypes := #[t, t] }, ty, pos, af, g⟩ :: rest) := by
  refine flow_op _ (keeps_bs _) (.inr (keeps_bs _)) hg (fun ev W he hW hf => ?_) h
  have e1 := hs.at (show factOf a0 F s (ev s) W from hf.1)
  have e2 := hx.at (show factOf a0 F x (ev x) W from hf.2.1)
  obtain ⟨A', c', w', hrun, hB, hc⟩ := run_append_bs (P := P) W t ty e i z ht hi hz hsz hby hz1 A0 n l1 (h1 W hW) A m c l2 (h2 W hW) hb
  have hr : (execOp ev ⟨d, .call { callee := .builtin .append, args := #[s, x], argTypes := #[t, t] }, ty, pos, af, g⟩).run P W = .ok (.value (.slice A' (n + m) c')) w' := by
    unfold execOp
    simp only [resolve, invoke, builtin, Sem.run_bind, Sem.run_pure, Result.andThen_ok, List.map_toArray, List.map_cons, List.map_nil, e1, e2, hrun]
  rw [hr]
  have hl : n + m = (l1 ++ l2).length := hB.len.symm
  refine ⟨by rw [plain_by]; exact hc, A', c', by rw [← hl], by rw [← hl]; exact hB⟩
theorem wpList_append_bs_g {P : Program} {w : World} {ops : Array Oper} {rest : List Oper} {o : Oper} {a : Act} {Q : Exit → Act → World → Prop} (hgd : Region.wanted o (yielded ops a.tmps) = true) (s x : Operand) (t : TypeId)
    (ho : o.op = .call { callee := .builtin .append, args := #[s, x], argTypes := #[t, t] })
    (e : TypeId) (i : TypeInfo) (z : Value) (ht : P.underlying t = some (.slice e)) (hi : P.info? e = some i) (hz : i.zero = some z) (hsz : i.size = 1) (hby : i.bytes = 1) (hz1 : z.cells.size = 1)
    (A0 : Option Addr) (k : Nat) (l1 : List UInt8) (hse : a.eval s = .slice A0 k k) (h1 : Bs w A0 k k l1) (A : Option Addr) (m c : Nat) (l2 : List UInt8) (hxe : a.eval x = .slice A m c) (h2 : Bs w A m c l2) (hb : k + m ≤ 140737488355328)
    (h : ∀ A' c' w', Bs w' A' (k + m) c' (l1 ++ l2) → Chg [] w w' → wpList P ops Q rest (a.put o.dst (.slice A' (k + m) c')) w') : wpList P ops Q (o :: rest) a w := by
  refine wpList_step fun K hK => ?_
  rw [if_pos hgd]
  obtain ⟨A', c', w', hrun, h3, h4⟩ := run_append_bs (P := P) w t o.type e i z ht hi hz hsz hby hz1 A0 k l1 h1 A m c l2 h2 hb
  unfold Oper.wp execOp
  simp only [ho, resolve, invoke, builtin, Sem.run_bind, Sem.run_pure, Result.andThen_ok, List.map_toArray, List.map_cons, List.map_nil, hse, hxe, hrun]
  exact hK _ _ (h A' c' w' h3 h4)
end
end Go.Proofs.Ytigbnmckdjlihab
