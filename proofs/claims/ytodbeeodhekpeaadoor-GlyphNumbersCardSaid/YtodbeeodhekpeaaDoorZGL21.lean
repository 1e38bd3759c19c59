/-
  GL: Fr, WkMem, WkEnd, WkLeave, WkTurn, WkStep, FlowFr.
-/
import Derived.Test.YtodbeeodhekpeaaDoorZGL3
import Derived.Test.YtodbeeodhekpeaaDoorZGL4
import Derived.Test.YtodbeeodhekpeaaDoorZGL5
import Derived.Test.YtodbeeodhekpeaaDoorZGL18
import Derived.Test.YtodbeeodhekpeaaDoorZGL19
import Derived.Test.YtodbeeodhekpeaaDoorZGL20
import Derived.StillTailTactics
namespace Go.Proofs.YtodbeeodhekpeaaDoor
open Go.RowKit
structure Fr (B : Nat) (TS : List TypeId) (a b : World) : Prop where
  os : b.os = a.os
  tape : b.tape = a.tape
  output : b.output = a.output
  size : a.heap.size ≤ b.heap.size
  block : ∀ k, k < a.heap.size → (k < B ∨ ∀ cs t fz, a.heap[k]? = some (.cells cs t fz) → t ∉ TS) → b.heap[k]? = a.heap[k]?
section
variable {B : Nat} {TS : List TypeId} {a b c : World}
theorem Fr.refl (B : Nat) (TS : List TypeId) (a : World) : Fr B TS a a := ⟨rfl, rfl, rfl, Nat.le_refl _, fun _ _ _ => rfl⟩
theorem Fr.trans (h : Fr B TS a b) (k : Fr B TS b c) : Fr B TS a c := by
  refine ⟨k.os.trans h.os, k.tape.trans h.tape, k.output.trans h.output, Nat.le_trans h.size k.size, fun i hi hc => ?_⟩
  have h1 := h.block i hi hc
  rw [← h1]
  refine k.block i (Nat.lt_of_lt_of_le hi h.size) ?_
  rw [h1]
  exact hc
theorem Fr.of_chg (h : Chg [] a b) : Fr B TS a b := ⟨h.os, h.tape, h.output, h.size, fun k hk _ => h.block k hk (by simp)⟩
theorem Fr.new (h : Fr B TS a b) (k : Chg [] b c) : Fr B TS a c := h.trans (Fr.of_chg k)
theorem Fr.sub {B' : Nat} {TS' : List TypeId} (h : Fr B TS a b) (hB : B' ≤ B) (hT : ∀ t, t ∈ TS → t ∈ TS') : Fr B' TS' a b :=
  ⟨h.os, h.tape, h.output, h.size, fun k hk hc => h.block k hk (hc.imp (fun h => Nat.lt_of_lt_of_le h hB) (fun h cs t fz e ht => h cs t fz e (hT t ht)))⟩
theorem Fr.chg (h : Fr B TS a b) (hB : a.heap.size ≤ B) : Chg [] a b := ⟨h.os, h.tape, h.output, h.size, fun k hk _ => h.block k hk (.inl (Nat.lt_of_lt_of_le hk hB))⟩
theorem Fr.set (h : Fr B TS a b) {p : Addr} (hp : B ≤ p.block) {cs : Array Value} {t : TypeId} {fz : Nat × Nat} (hb : b.heap[p.block]? = some (.cells cs t fz)) (ht : t ∈ TS) (u : Value) : Fr B TS a (b.setCell p u) := by
  refine h.trans ⟨rfl, rfl, rfl, ?_, fun k hk hc => ?_⟩
  · rw [size_set]; exact Nat.le_refl _
  · refine Below.heap_setCell b p u k (fun e => ?_)
    subst e
    rcases hc with h1 | h1
    · omega
    · exact h1 cs t fz hb ht
theorem Fr.setw (h : Fr B TS a b) {g j t : Nat} {cs : List Value} (hW : Whole b g t cs) (hp : B ≤ g) (ht : t ∈ TS) (u : Value) : Fr B TS a (b.setCell ⟨g, j, none⟩ u) := h.set (p := ⟨g, j, none⟩) hp hW ht u
theorem Fr.seto (h : Fr B TS a b) {g j B2 k n m e : Nat} {xs : List Value} {cap : Nat} (ho : b.ownsRow B2 e k (.slice (some ⟨g, 0, none⟩) n cap) m xs) (hB : B ≤ B2) (ht : e ∈ TS) (u : Value) : Fr B TS a (b.setCell ⟨g, j, none⟩ u) := by
  rcases ho.2 with ⟨e', _⟩ | ⟨g', cap', cur, e', hb, hg, _⟩
  · cases e'
  · injection e' with e1 _ _
    injection e1 with e1
    injection e1 with e1
    subst e1
    exact h.set (p := ⟨g, j, none⟩) (Nat.le_trans hB hb) hg ht u
theorem Fr.grown (h : Fr B TS a b) {B2 k n e : Nat} {v : Value} {xs : List Value} (ho : b.ownsRow B2 e k v n xs) (hB : B ≤ B2) (ht : e ∈ TS) (hg : b.grownBy c v.ownBlock) : Fr B TS a c := by
  refine h.trans ⟨hg.os, hg.tape, hg.output, hg.size, fun i hi hc => hg.block i hi (fun hr => ?_)⟩
  rcases ho.2 with ⟨rfl, _⟩ | ⟨g', cap', cur, rfl, hb, hgb, _⟩
  · simp [Value.ownBlock] at hr
  · simp [Value.ownBlock] at hr
    subst hr
    rcases hc with h1 | h1
    · omega
    · exact h1 _ _ _ hgb ht
theorem Fr.whole (h : Fr B TS a b) {g t : Nat} {cs : List Value} (hW : Whole a g t cs) (ht : t ∉ TS) : Whole b g t cs :=
  (h.block g hW.lt (.inr fun _ _ _ e => by rw [show a.heap[g]? = _ from hW] at e; injection e with e; injection e with _ e2 _; subst e2; exact ht)).trans hW
theorem Fr.obj (h : Fr B TS a b) {k : Nat} {o : Obj} (ho : a.heap[k]? = some o) (hn : ∀ cs t fz, o ≠ .cells cs t fz) : b.heap[k]? = some o := by
  have hk : k < a.heap.size := by
    rcases Nat.lt_or_ge k a.heap.size with h | h
    · exact h
    · rw [Array.getElem?_eq_none h] at ho; cases ho
  rw [h.block k hk (.inr fun cs t fz e => by rw [ho] at e; injection e with e; exact absurd e (hn cs t fz)), ho]
theorem Fr.own (h : Fr B TS a b) {B2 k n e : Nat} {v : Value} {xs : List Value} (ho : a.ownsRow B2 e k v n xs) (ht : e ∉ TS) : b.ownsRow B2 e k v n xs := by
  refine ⟨ho.1, ?_⟩
  rcases ho.2 with h1 | ⟨g, cap, cur, rfl, hb, hg, r⟩
  · exact .inl h1
  · refine .inr ⟨g, cap, cur, rfl, hb, ?_, r⟩
    have hlt : g < a.heap.size := by
      rcases Nat.lt_or_ge g a.heap.size with h | h
      · exact h
      · rw [Array.getElem?_eq_none h] at hg; cases hg
    exact (h.block g hlt (.inr fun _ _ _ e => by rw [hg] at e; injection e with e; injection e with _ e2 _; subst e2; exact ht)).trans hg
end
end Go.Proofs.YtodbeeodhekpeaaDoor
namespace Go.Proofs.YtodbeeodhekpeaaDoor
open Go.RowKit
def ptC (x : BkV) : List Value := [.bool (x.sign == 91), .int .i64 x.base, .bool (x.sign == 58), .int .i64 x.other, .bool x.left]
def ptCs : List BkV → List Value
  | [] => []
  | x :: l => ptC x ++ ptCs l
theorem ptCs_app : ∀ l m, ptCs (l ++ m) = ptCs l ++ ptCs m
  | [], m => rfl
  | t :: l, m => by rw [List.cons_append, ptCs, ptCs, ptCs_app l m, List.append_assoc]
theorem ptCs_one (x : BkV) : ptCs [x] = ptC x := by simp [ptCs]
abbrev wkT : List TypeId := [129, 88]
structure Wk (W : World) (g : Nat) (h : Int) (v : Value) (bs : List BkV) : Prop where
  rec_ : Whole W g 88 [.int .i64 h, v]
  own : W.ownsRow (g + 1) 129 5 v bs.length (ptCs bs)
  few : bs.length ≤ 100
  hr : -1 ≤ h ∧ h ≤ 64
  rb : ∀ x ∈ bs, 0 ≤ x.base ∧ x.base ≤ 64 ∧ -1 ≤ x.other ∧ x.other ≤ 64
section
variable {W W' : World} {g : Nat} {h : Int} {v : Value} {bs ys : List BkV} {x : BkV}
theorem Wk.keep (s : Wk W g h v bs) (hc : Chg [] W W') : Wk W' g h v bs := ⟨s.rec_.keep hc, rown_keep s.own hc, s.few, s.hr, s.rb⟩
theorem Wk.away (s : Wk W g h v bs) : v.ownBlock ≠ some g := fun e => by have := (s.own.lt g e).1; omega
theorem Wk.slice (s : Wk W g h v bs) : ∃ A n c, v = .slice A n c ∧ n = bs.length ∧ n ≤ c := by
  obtain ⟨A, c, e, hc, _⟩ := rown_slice s.own
  exact ⟨A, _, c, e, rfl, hc⟩
theorem Wk.high (s : Wk W g h v bs) (h' : Int) (hr : -1 ≤ h' ∧ h' ≤ 64) : Wk (W.setCell ⟨g, 0, none⟩ (.int .i64 h')) g h' v bs ∧ Fr g wkT W (W.setCell ⟨g, 0, none⟩ (.int .i64 h')) :=
  ⟨⟨s.rec_.set_ 0 _, rown_far s.own (fun e => s.away e), s.few, hr, s.rb⟩, (Fr.refl g wkT W).setw s.rec_ (Nat.le_refl _) (by simp [wkT]) _⟩
/-- A part more. -/
theorem Wk.push {W2 w3 : World} {v' : Value} {n1 : Nat} (s : Wk W g h v bs) (hc : Chg [] W W2) (hn1 : n1 = bs.length + 1) (ho : w3.ownsRow (g + 1) 129 5 v' n1 (ptCs bs ++ ptC x)) (hg : W2.grownBy w3 v.ownBlock) (hf : bs.length ≤ 99) (hx : 0 ≤ x.base ∧ x.base ≤ 64 ∧ -1 ≤ x.other ∧ x.other ≤ 64) :
    Wk (w3.setCell ⟨g, 1, none⟩ v') g h v' (bs ++ [x]) ∧ Fr g wkT W (w3.setCell ⟨g, 1, none⟩ v') := by
  subst hn1
  have s2 := s.keep hc
  have hr3 := whole_grown s2.rec_ s2.own (by decide) hg
  refine ⟨⟨hr3.set_ 1 _, ?_, by simp; omega, s.hr, fun y hy => ?_⟩, ((Fr.of_chg hc).grown s2.own (Nat.le_succ g) (by simp [wkT]) hg).setw hr3 (Nat.le_refl _) (by simp [wkT]) _⟩
  · rw [ptCs_app, ptCs_one, List.length_append, List.length_singleton]
    exact rown_far ho (fun e => by have := (ho.lt g e).1; omega)
  · rcases List.mem_append.1 hy with hy | hy
    · exact s.rb y hy
    · rw [List.mem_singleton] at hy; subst hy; exact hx
end
section
variable {W : World} {g : Nat} {h : Int} {v : Value} {bs ys : List BkV} {x : BkV}
theorem Wk.far {W : World} {g : Nat} {h : Int} {v : Value} {bs : List BkV} (s : Wk W g h v bs) {p : Addr} (hp : g ≠ p.block) (hv : v.ownBlock ≠ some p.block) (u : Value) : Wk (W.setCell p u) g h v bs := ⟨s.rec_.far hp u, rown_far s.own hv, s.few, s.hr, s.rb⟩
end
end Go.Proofs.YtodbeeodhekpeaaDoor
namespace Go.Proofs.YtodbeeodhekpeaaDoor
open Go.RowKit
def eEnd (h : Int) (ys : List BkV) (x : BkV) (r : Int) : Int × Int × List BkV := match rEnds h ys x r with | (true, h', bs') => (0, h', bs') | (false, h', bs') => (14, h', bs')
end Go.Proofs.YtodbeeodhekpeaaDoor
namespace Go.Proofs.YtodbeeodhekpeaaDoor
open Go.RowKit
def lLeave (h : Int) (bs : List BkV) (k : Nat) : Int × Int × List BkV := match rLeave h bs k with | (true, h', bs') => (0, h', bs') | (false, h', bs') => (14, h', bs')
end Go.Proofs.YtodbeeodhekpeaaDoor
namespace Go.Proofs.YtodbeeodhekpeaaDoor
open Go.RowKit
def cTurn (h : Int) (bs : List BkV) (s : Int) : Int × Int × List BkV :=
  if isEnd s then (match bs.getLast? with
    | none => (14, h, bs)
    | some x => eEnd h bs.dropLast x s)
  else if s = 63 ∨ s = 91 then (0, h, bs ++ [⟨s, h, 0, false⟩])
  else if s = 126 then lLeave h bs bs.length
  else if s = 161 then (0, -1, bs)
  else (0, h, bs)
theorem cTurn_end {h : Int} {ys : List BkV} {x : BkV} {s : Int} (hs : isEnd s) : cTurn h (ys ++ [x]) s = eEnd h ys x s := by
  unfold cTurn
  rw [if_pos hs]
  simp only [List.getLast?_append, List.getLast?_singleton, Option.some_or, List.dropLast_concat]
end Go.Proofs.YtodbeeodhekpeaaDoor
namespace Go.Proofs.YtodbeeodhekpeaaDoor
open Go.RowKit
structure Bas (h : Int) (bs : List BkV) : Prop where
  sorted : bs.Pairwise fun a b => a.base ≤ b.base
  oth : ∀ x ∈ bs, x.sign = 58 → x.other = -1 ∨ x.base ≤ x.other
  top : 0 ≤ h → ∀ x ∈ bs, x.base ≤ h
theorem Bas.base {h : Int} {bs : List BkV} (hb : Bas h bs) (h0 : 0 ≤ h) : baseOf bs ≤ h := by
  unfold baseOf
  cases hl : bs.getLast? with
  | none => exact h0
  | some x => exact hb.top h0 x (List.mem_of_getLast? hl)
end Go.Proofs.YtodbeeodhekpeaaDoor
namespace Go.Proofs.YtodbeeodhekpeaaDoor
open Go.RowKit
def frT (B : Nat) (TS : List TypeId) (hard soft : List Nat) : Turns := ⟨Chg [], Fr B TS, hard, soft⟩
theorem frT_ok {B : Nat} {TS : List TypeId} {hard soft : List Nat} : (frT B TS hard soft).Ok := ⟨Chg.refl [], fun _ _ h => Fr.of_chg h, fun _ _ _ h k => h.trans k⟩
theorem fr_hard {B : Nat} {TS : List TypeId} {hard soft : List Nat} {k : Nat} (hk : hard.contains k = true) {W W' : World} (h : Fr B TS W W') : (frT B TS hard soft).by_ k W W' := by
  unfold Turns.by_
  rw [if_pos (show (frT B TS hard soft).hard.contains k = true from hk)]
  exact h
theorem fr_star {a b : World} (h : Star (Chg []) a b) : Chg [] a b := h.fold (Chg.refl []) fun _ _ _ h k => h.trans k
end Go.Proofs.YtodbeeodhekpeaaDoor
