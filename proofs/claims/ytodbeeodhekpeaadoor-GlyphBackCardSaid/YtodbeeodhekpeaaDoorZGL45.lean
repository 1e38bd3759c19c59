/-
  GL: DRows, DTurns.
-/
import Derived.Test.YtodbeeodhekpeaaDoorZGL4
import Derived.Test.YtodbeeodhekpeaaDoorZGL35
import Derived.Deep.Slices
import Derived.Deep.Fields
import Derived.ChangeSame
import Derived.ChangeSlices
namespace Go.Proofs.YtodbeeodhekpeaaDoor
open Go.RowKit Go.ChangeShapes Go.WideShapes Go.Deep
theorem dlist_of {α : Type} {P : Nat → α → Prop} (n : Nat) (h : ∀ i, i < n → ∃ a, P i a) : ∃ l : List α, l.length = n ∧ ∀ i a, l[i]? = some a → P i a := by
  induction n with
  | zero => exact ⟨[], rfl, fun i a h => by simp at h⟩
  | succ n ih =>
    obtain ⟨l, hl, hx⟩ := ih fun i hi => h i (by omega)
    obtain ⟨a, ha⟩ := h n (by omega)
    refine ⟨l ++ [a], by simp [hl], fun i b hb => ?_⟩
    rcases Nat.lt_trichotomy i n with hi | hi | hi
    · rw [List.getElem?_append_left (by omega)] at hb
      exact hx i b hb
    · subst hi
      rw [← hl, List.getElem?_concat_length] at hb
      cases hb
      exact ha
    · rw [List.getElem?_eq_none (by simp; omega)] at hb
      cases hb
section
variable {H : Type} {enc : TypeId × Value → H} {w : World} {base : Nat} {held : Bool} {P : Program}
/-- A slice of structs: of each element and each field the cell, and that it is a datum of the field's type. -/
theorem rows_open {t e : TypeId} {fs : Array Field} (ht : P.underlying t = some (.slice e)) (hu : P.underlying e = some (.struct fs)) (hone : oneCellFields P fs = true) {m : Nat} (hm0 : fs.size = m) (hC : P.cellsOf e = m)
    {fuel : Nat} {cs : List Value} {x : DataW H × List MemPlace} (h : DataW.trod enc P w base (fun _ => true) held fuel t cs = some x) (v : Value) (hv : cs = [v]) :
    ∃ A n c, v = .slice A n c ∧ n ≤ c ∧ c ≤ maxLen ∧ ∀ i, i < n → ∃ (a : Addr) (us : List Value), A = some a ∧ us.length = m ∧ (∀ j u, us[j]? = some u → w.cell? ((a.add (i * m)).add j) = some u) ∧
      ∀ (j : Nat) (f : Field) (u : Value), fs[j]? = some f → us[j]? = some u → ∃ n' y, DataW.trod enc P w base (fun _ => true) held n' f.type [u] = some y := by
  subst hv
  rcases open_slice ht h with ⟨h0, _⟩ | ⟨a, len, cap, m', f, D, Pl, hcs, hb, hl, hm, hmm, hx, hi⟩
  · simp only [List.cons.injEq, and_true] at h0
    exact ⟨none, 0, 0, h0, Nat.le_refl _, by unfold maxLen; omega, fun i hi => by omega⟩
  · simp only [List.cons.injEq, and_true] at hcs
    rw [if_pos rfl] at hmm
    subst hmm
    refine ⟨some a, len, m', hcs, hl, hm, fun i hlt => ?_⟩
    obtain ⟨cs', hc, ht'⟩ := hi i (by omega)
    rw [hC] at hc
    obtain ⟨xs, n', hn', hy, hlen, hxl, hf⟩ := DataW.trod_struct hu ht'
    obtain ⟨_, hcl, hat⟩ := World.cells?_some hc
    refine ⟨a, cs', rfl, hcl, fun j u hj => ?_, fun j f u hj hu' => ?_⟩
    · have := hat j (by have := (List.getElem?_eq_some_iff.1 hj).1; omega)
      rw [this, hj]
    · have hfj := hf j f hj
      obtain ⟨o, k⟩ := hone_of hone j f hj
      rw [o, k] at hfj
      have hd : (cs'.drop j).take 1 = [u] := by
        have hlt := (List.getElem?_eq_some_iff.1 hu').1
        rw [List.drop_eq_getElem_cons hlt]
        simp only [List.take_succ_cons, List.take_zero]
        rw [(List.getElem?_eq_some_iff.1 hu').2]
      rw [hd] at hfj
      have hjx : j < xs.length := by rw [hxl]; exact (Array.getElem?_eq_some_iff.1 hj).1
      rw [List.getElem?_eq_getElem hjx] at hfj
      exact ⟨_, _, hfj⟩
end
theorem rfield_at {fs : Array Field} {ts : Array TypeId} (h : fs.map (·.type) = ts) (j : Nat) (t : TypeId) (hj : ts[j]? = some t) : ∃ f : Field, fs[j]? = some f ∧ f.type = t := by
  rw [← h, Array.getElem?_map] at hj
  cases hf : fs[j]? with
  | none => rw [hf] at hj; cases hj
  | some f => rw [hf] at hj; exact ⟨f, rfl, by simpa using hj⟩
theorem rspot_none {w : World} {x : Addr} {k : IntKind} {z : Int} (hc : w.cell? x = some (.int k z)) : x.spot = none := by
  cases hs : x.spot with
  | none => rfl
  | some u =>
    exfalso
    unfold World.cell? at hc
    rw [hs] at hc
    split at hc
    · simp at hc
    · cases hc
theorem arg_i32 {a : Int} (h : (Lit.int .i32 a).wf = true) : -2147483648 ≤ a ∧ a ≤ 2147483647 := by
  simpa [Lit.wf, IntKind.min, IntKind.max, IntKind.signed, IntKind.bits] using h
/-- Cells row by row as one list. -/
theorem src_rows {α : Type} {w : World} {a : Addr} {m : Nat} (C : α → List Value) (Cs : List α → List Value) (h0 : Cs [] = []) (h1 : ∀ x l, Cs (x :: l) = C x ++ Cs l) (hC : ∀ x, (C x).length = m) (l : List α) (ha : a.spot = none)
    (hl : ∀ i x, l[i]? = some x → ∀ j u, (C x)[j]? = some u → w.cell? ((a.add (i * m)).add j) = some u) : ∀ j u, (Cs l)[j]? = some u → w.cell? (a.add j) = some u := by
  obtain ⟨b, o, s⟩ := a
  simp only at ha
  subst ha
  simp only [add_plain] at hl ⊢
  induction l generalizing o with
  | nil => intro j u hj; rw [h0] at hj; simp at hj
  | cons x l ih =>
    intro j u hj
    rw [h1] at hj
    rcases Nat.lt_or_ge j (C x).length with hlt | hge
    · rw [List.getElem?_append_left hlt] at hj
      have := hl 0 x rfl j u hj
      simpa using this
    · rw [List.getElem?_append_right hge] at hj
      have := ih (o + m) (fun i y hy k v hk => by
        have := hl (i + 1) y (by simpa using hy) k v hk
        rw [show o + m + i * m + k = o + (i + 1) * m + k from by rw [Nat.add_mul]; omega]
        exact this) (j - (C x).length) u hj
      rw [hC] at this hge
      rw [show o + m + (j - m) = o + j from by omega] at this
      exact this
theorem add_nought (a : Addr) : a.add 0 = a := by unfold Addr.add; simp
/-- A row of structs whose cells are told one by one. -/
theorem rows_src {α : Type} {w : World} {A : Option Addr} {n m : Nat} {C : α → List Value} {Cs : List α → List Value} {l : List α} (h0 : Cs [] = []) (h1 : ∀ x l, Cs (x :: l) = C x ++ Cs l) (hC : ∀ x, (C x).length = m) (hk : ∀ x, ∃ k z, (C x)[0]? = some (.int k z)) (hl : l.length = n)
    (hx : ∀ i x, l[i]? = some x → ∃ a, A = some a ∧ ∀ j u, (C x)[j]? = some u → w.cell? ((a.add (i * m)).add j) = some u) : Src w A (Cs l) ∧ (0 < n → ∀ ad, A = some ad → ad.spot = none) := by
  have key : 0 < n → ∃ a, A = some a ∧ a.spot = none ∧ a.block < w.heap.size := fun h => by
    obtain ⟨a, rfl, hc⟩ := hx 0 _ (List.getElem?_eq_getElem (by omega))
    obtain ⟨k, z, hz⟩ := hk (l[0]'(by omega))
    have c0 := hc 0 _ hz
    rw [Nat.zero_mul, add_nought, add_nought] at c0
    have hs := rspot_none c0
    obtain ⟨b, o, s⟩ := a
    simp only at hs
    subst hs
    exact ⟨_, rfl, rfl, block_lt_of_cell c0⟩
  refine ⟨fun hp => ?_, fun h ad e => ?_⟩
  · have hn : 0 < n := by
      rcases Nat.eq_zero_or_pos n with h | h
      · exfalso
        have : l = [] := List.eq_nil_of_length_eq_zero (by omega)
        rw [this, h0] at hp
        simp at hp
      · exact h
    obtain ⟨a, rfl, hs, hb⟩ := key hn
    refine ⟨a, rfl, hb, src_rows C Cs h0 h1 hC l hs fun i x hi => ?_⟩
    obtain ⟨_, e, hc⟩ := hx i x hi
    injection e with e
    subst e
    exact hc
  · obtain ⟨a, e', hs, _⟩ := key h
    rw [e] at e'
    injection e' with e'
    subst e'
    exact hs
end Go.Proofs.YtodbeeodhekpeaaDoor
namespace Go.Proofs.YtodbeeodhekpeaaDoor
open Go.RowKit Go.ChangeShapes Go.WideShapes Go.Deep
theorem turn_fields : ∃ fs, Tryd.prog.underlying 68 = some (.struct fs) ∧ oneCellFields Tryd.prog fs = true ∧ fs.map (·.type) = #[3, 3, 3, 3, 9] :=
  ⟨_, Tryd.underlying68, by kernel_rfl, by kernel_rfl⟩
theorem five_list {α : Type} {l : List α} (h : l.length = 5) : ∃ a b c d e, l = [a, b, c, d, e] := by
  match l, h with
  | [a, b, c, d, e], _ => exact ⟨a, b, c, d, e, rfl⟩
section
variable {H : Type} {enc : TypeId × Value → H} {w : World} {base : Nat} {held : Bool}
theorem turns_open {fuel : Nat} {cs : List Value} {x : DataW H × List MemPlace} (h : DataW.trod enc Tryd.prog w base (fun _ => true) held fuel 39 cs = some x) (v : Value) (hv : cs = [v]) :
    ∃ A n c l, v = .slice A n c ∧ Trn w A n l ∧ n ≤ c ∧ c ≤ maxLen := by
  obtain ⟨fs, hu, hone, hty⟩ := turn_fields
  have hfs : fs.size = 5 := by have := congrArg Array.size hty; simpa using this
  obtain ⟨A, n, c, rfl, hnc, hcm, hrow⟩ := rows_open Tryd.underlying39 hu hone hfs (by kernel_rfl) h v hv
  have key : ∀ i, i < n → ∃ q : TurnV, TurnOk q ∧ ∃ a, A = some a ∧ ∀ j u, (turnC q)[j]? = some u → w.cell? ((a.add (i * 5)).add j) = some u := by
    intro i hi
    obtain ⟨a, us, rfl, hl, hc, hf⟩ := hrow i hi
    obtain ⟨v0, v1, v2, v3, v4, rfl⟩ := five_list hl
    obtain ⟨f0, g0, t0⟩ := rfield_at hty 0 _ rfl
    obtain ⟨f1, g1, t1⟩ := rfield_at hty 1 _ rfl
    obtain ⟨f2, g2, t2⟩ := rfield_at hty 2 _ rfl
    obtain ⟨f3, g3, t3⟩ := rfield_at hty 3 _ rfl
    obtain ⟨f4, g4, t4⟩ := rfield_at hty 4 _ rfl
    obtain ⟨_, _, q0⟩ := hf 0 _ _ g0 rfl
    obtain ⟨_, _, q1⟩ := hf 1 _ _ g1 rfl
    obtain ⟨_, _, q2⟩ := hf 2 _ _ g2 rfl
    obtain ⟨_, _, q3⟩ := hf 3 _ _ g3 rfl
    obtain ⟨_, _, q4⟩ := hf 4 _ _ g4 rfl
    rw [t0] at q0; rw [t1] at q1; rw [t2] at q2; rw [t3] at q3; rw [t4] at q4
    obtain ⟨z0, e0, _, w0⟩ := DataW.trod_int Tryd.underlying3 q0
    obtain ⟨z1, e1, _, w1⟩ := DataW.trod_int Tryd.underlying3 q1
    obtain ⟨z2, e2, _, w2⟩ := DataW.trod_int Tryd.underlying3 q2
    obtain ⟨z3, e3, _, w3⟩ := DataW.trod_int Tryd.underlying3 q3
    obtain ⟨s4, e4, _, w4⟩ := DataW.trod_string Tryd.underlying9 q4
    simp only [List.cons.injEq, and_true] at e0 e1 e2 e3 e4
    subst e0 e1 e2 e3 e4
    exact ⟨⟨z0, z1, z2, z3, s4⟩, ⟨arg_i64 w0, arg_i64 w1, arg_i64 w2, arg_i64 w3, w4⟩, a, rfl, hc⟩
  obtain ⟨l, hll, hlx⟩ := dlist_of n key
  obtain ⟨hsrc, hsp⟩ := rows_src (C := turnC) (Cs := turnCs) rfl (fun _ _ => rfl) (fun _ => rfl) (fun _ => ⟨_, _, rfl⟩) hll (fun i x hx => (hlx i x hx).2)
  refine ⟨A, n, c, l, rfl, ⟨hll, hsrc, hsp, fun q hq => ?_⟩, hnc, hcm⟩
  obtain ⟨i, hi, rfl⟩ := List.getElem_of_mem hq
  exact (hlx i _ (List.getElem?_eq_getElem hi)).1
end
end Go.Proofs.YtodbeeodhekpeaaDoor
