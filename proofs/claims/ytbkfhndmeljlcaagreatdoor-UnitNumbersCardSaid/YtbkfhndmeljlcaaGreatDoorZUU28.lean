/-
  UU: Odd.
-/
import Derived.Test.YtbkfhndmeljlcaaGreatDoorZUU3
import Derived.Test.YtbkfhndmeljlcaaGreatDoorZUU27
import Derived.Laws.Entries
import Derived.Deep.CutBlock
import Derived.StillTailTactics
namespace Go.Proofs.YtbkfhndmeljlcaaGreatDoor
open Go.RowKit
def AtPost (m : Nat) (w : World) (e : Ending) (w' : World) : Prop := ∃ r : Nat, e = .returned (.int .i64 (r : Int)) ∧ r < m ∧ w = w'
section
variable {w : World}
theorem at_any (z : Int) (k m : Nat) (hm : m = max k 1) (hz0 : -9223372036854775808 ≤ z) (hz1 : z ≤ 9223372036854775807) (hk : k ≤ 9223372036854775807) :
    Calls Tryz.prog 71 #[.int .i64 z, .int .i64 (k : Int)] w (AtPost m w) := by
  obtain ⟨q, hq, hq2⟩ : ∃ q : Nat, withinI z 0 1048576 = (q : Int) ∧ q ≤ 1048576 := by
    have hin := into_within z 0 1048576 (by omega)
    exact ⟨(withinI z 0 1048576).toNat, by have := hin.1; omega, by have h1 := hin.1; have h2 := hin.2.1; omega⟩
  have HQ := Lib.hid hq
  have hmx : max (k : Int) 1 = (m : Int) := by omega
  have hm0 : (1 : Int) ≤ (m : Int) := by omega
  have hm1 : 0 < m := by omega
  have hmz : ((m : Int) == 0) = false := by simp; omega
  have HP := Lib.hid (show AtPost m w (.returned (.int .i64 ((q % m : Nat) : Int))) w from ⟨_, rfl, Nat.mod_lt _ hm1, rfl⟩)
  clear hq hm
  go_enter Tryz.func71, Tryz.ntmps71
  go_wp2_with fail
  refine (within_big z 0 1048576 (by omega) (by omega) (by omega) hz0 hz1).mono ?_
  rw [HQ.out]
  rintro e w' ⟨rfl, rfl⟩
  go_wp2_with fail
  go_ret
  exact HP.out
end
/-- What of a program is made another one. -/
structure TurnV where
  what : Int
  func : Int
  at_ : Int
  n : Int
  text : ByteArray
def turnC (t : TurnV) : List Value := [.int .i64 t.what, .int .i64 t.func, .int .i64 t.at_, .int .i64 t.n, .string t.text]
structure TurnOk (t : TurnV) : Prop where
  what : -9223372036854775808 ≤ t.what ∧ t.what ≤ 9223372036854775807
  func : -9223372036854775808 ≤ t.func ∧ t.func ≤ 9223372036854775807
  at_ : -9223372036854775808 ≤ t.at_ ∧ t.at_ ≤ 9223372036854775807
  n : -9223372036854775808 ≤ t.n ∧ t.n ≤ 9223372036854775807
  text : t.text.size ≤ 9223372036854775807
/-- What is said of a program with some things turned. -/
structure Oddly (q : Nat) (l : List FnV) : Prop where
  pos : 0 < l.length
  few : l.length ≤ 3 + q
  fn : ∀ f ∈ l, (-9223372036854775808 ≤ f.args ∧ f.args ≤ 9223372036854775807) ∧ f.code.size ≤ 1000 + 12 * q ∧ (-2147483648 ≤ f.name ∧ f.name ≤ 2147483647)
theorem Oddly.more {q q' : Nat} {l : List FnV} (h : Oddly q l) (hq : q ≤ q') : Oddly q' l := ⟨h.pos, by have := h.few; omega, fun f hf => by have := h.fn f hf; omega⟩
theorem Oddly.add {q : Nat} {l : List FnV} (h : Oddly q l) {f : FnV} (h1 : -9223372036854775808 ≤ f.args ∧ f.args ≤ 9223372036854775807) (h2 : f.code.size ≤ 1000 + 12 * (q + 1)) (h3 : -2147483648 ≤ f.name ∧ f.name ≤ 2147483647) : Oddly (q + 1) (l ++ [f]) := by
  refine ⟨by simp, by have := h.few; simp; omega, fun x hx => ?_⟩
  rcases List.mem_append.1 hx with hx | hx
  · exact (h.more (Nat.le_succ q)).fn x hx
  · rw [List.mem_singleton] at hx; subst hx; exact ⟨h1, h2, h3⟩
theorem Oddly.set {q : Nat} {l : List FnV} (h : Oddly q l) {f : FnV} (k : Nat) (h1 : -9223372036854775808 ≤ f.args ∧ f.args ≤ 9223372036854775807) (h2 : f.code.size ≤ 1000 + 12 * (q + 1)) (h3 : -2147483648 ≤ f.name ∧ f.name ≤ 2147483647) : Oddly (q + 1) (l.set k f) := by
  refine ⟨by have := h.pos; simpa using this, by have := h.few; simp; omega, fun x hx => ?_⟩
  rcases List.mem_or_eq_of_mem_set hx with hx | rfl
  · exact (h.more (Nat.le_succ q)).fn x hx
  · exact ⟨h1, h2, h3⟩
theorem GoodU.oddly {l : List FnV} (h : GoodU l) (h0 : 0 < l.length) : Oddly 0 l := ⟨h0, by have := h.lo; omega, fun f hf => by
  have h1 := h.args f hf
  have h2 := h.size f hf
  obtain ⟨i, hi, rfl⟩ := List.getElem_of_mem hf
  have h3 := (h.fn i _ (List.getElem?_eq_getElem hi)).1
  have hl := h.lo
  have : i = 0 ∨ i = 1 ∨ i = 2 := by omega
  refine ⟨by omega, by omega, ?_⟩
  rcases this with rfl | rfl | rfl <;> (simp [nmL] at h3; omega)⟩
/-- Where odd stands. -/
structure Od (w W : World) (g gt gr B : Nat) (pg ms : Int) (vf : Value) (l : List FnV) (t : TurnV) : Prop where
  u : Whole W g 24 [.int .i64 pg, .int .i64 ms, vf]
  t : Whole W gt 84 (turnC t)
  r : Whole W gr 24 [.int .i64 0, .int .i64 0, .slice none 0 0]
  o : W.ownsRow B 58 3 vf l.length (fnCs l)
  c : Chg [] w W
  z : w.heap.size ≤ g ∧ g < gt ∧ gt < gr ∧ gr < B ∧ B ≤ W.heap.size
section
variable {w W W' : World} {g gt gr B : Nat} {pg ms : Int} {vf : Value} {l : List FnV} {t : TurnV}
theorem Od.keep (h : Od w W g gt gr B pg ms vf l t) (hc : Chg [] W W') : Od w W' g gt gr B pg ms vf l t :=
  ⟨h.u.keep hc, h.t.keep hc, h.r.keep hc, rown_keep h.o hc, h.c.new hc, by have := h.z; have := hc.size; omega⟩
theorem Od.far (h : Od w W g gt gr B pg ms vf l t) {p : Addr} (hp : B ≤ p.block) (hv : vf.ownBlock ≠ some p.block) (u : Value) : Od w (W.setCell p u) g gt gr B pg ms vf l t := by
  have := h.z
  exact ⟨h.u.far (by omega) u, h.t.far (by omega) u, h.r.far (by omega) u, rown_far h.o hv, h.c.setCell (fun hh => by omega) u, by rw [size_set]; exact h.z⟩
theorem Od.page (h : Od w W g gt gr B pg ms vf l t) (x : Int) : Od w (W.setCell ⟨g, 0, none⟩ (.int .i64 x)) g gt gr B x ms vf l t := by
  have := h.z
  exact ⟨h.u.set_ 0 _, h.t.far (by simp only; omega) _, h.r.far (by simp only; omega) _, rown_far h.o (fun hb => by have := (h.o.lt _ hb).1; simp only at this; omega), h.c.setCell (fun hh => by simp only at hh; omega) _, by rw [size_set]; exact h.z⟩
theorem Od.most (h : Od w W g gt gr B pg ms vf l t) (x : Int) : Od w (W.setCell ⟨g, 1, none⟩ (.int .i64 x)) g gt gr B pg x vf l t := by
  have := h.z
  exact ⟨h.u.set_ 1 _, h.t.far (by simp only; omega) _, h.r.far (by simp only; omega) _, rown_far h.o (fun hb => by have := (h.o.lt _ hb).1; simp only at this; omega), h.c.setCell (fun hh => by simp only at hh; omega) _, by rw [size_set]; exact h.z⟩
/-- Another row of functions. -/
theorem Od.funcs {v' : Value} {m : List FnV} (h : Od w W g gt gr B pg ms vf l t) (ho : W'.ownsRow B 58 3 v' m.length (fnCs m)) (hg : W.grownBy W' vf.ownBlock) : Od w (W'.setCell ⟨g, 2, none⟩ v') g gt gr B pg ms v' m t := by
  have := h.z
  exact ⟨(whole_grown h.u h.o (by decide) hg).set_ 2 _, (whole_grown h.t h.o (by decide) hg).far (by simp only; omega) _, (whole_grown h.r h.o (by decide) hg).far (by simp only; omega) _, rown_far ho (fun hb => by have := (ho.lt _ hb).1; simp only at this; omega),
    (chg_grown2 h.c hg (fun b hb => by have := (h.o.lt b hb).1; omega)).setCell (fun hh => by simp only at hh; omega) _, by rw [size_set]; have := hg.size; omega⟩
/-- A cell of the row. -/
theorem Od.cell_ {gf n c j : Nat} {m : List FnV} (h : Od w W g gt gr B pg ms (.slice (some ⟨gf, 0, none⟩) n c) l t) (hn : n = l.length) (u : Value) (hm : (fnCs l).set j u = fnCs m) (hml : m.length = l.length) : Od w (W.setCell ⟨gf, j, none⟩ u) g gt gr B pg ms (.slice (some ⟨gf, 0, none⟩) n c) m t := by
  subst hn
  have := h.z
  have hb := (h.o.lt gf rfl).1
  refine ⟨h.u.far (by simp only; omega) _, h.t.far (by simp only; omega) _, h.r.far (by simp only; omega) _, ?_, h.c.setCell (fun hh => by simp only at hh; omega) _, by rw [size_set]; exact h.z⟩
  have := rown_set (j := j) (u := u) h.o
  rw [hm] at this
  rw [hml]
  exact this
end
def OddPost (q : Nat) (w : World) (e : Ending) (w' : World) : Prop :=
  ∃ (pg ms : Int) (v : Value) (l : List FnV), e = .returned (.agg #[.int .i64 pg, .int .i64 ms, v]) ∧ (-9223372036854775808 ≤ pg ∧ pg ≤ 9223372036854775807) ∧ (-9223372036854775808 ≤ ms ∧ ms ≤ 9223372036854775807) ∧ w'.ownsRow w.heap.size 58 3 v l.length (fnCs l) ∧ Oddly q l ∧ Chg [] w w'
theorem fnCs_set : ∀ (l : List FnV) (k : Nat) (x y : FnV) (j : Nat) (u : Value), l[k]? = some x → j < 3 → (fnC x).set j u = fnC y → (fnCs l).set (k * 3 + j) u = fnCs (l.set k y)
  | [], k, x, y, j, u, h, hj, e => by simp at h
  | a :: l, 0, x, y, j, u, h, hj, e => by
    simp at h; subst h
    rw [fnCs, List.set_append_left _ _ (by simp [fnC]; omega), Nat.zero_mul, Nat.zero_add, e]
    rfl
  | a :: l, k + 1, x, y, j, u, h, hj, e => by
    simp at h
    rw [fnCs, List.set_append_right _ _ (by simp [fnC]; omega)]
    rw [show (k + 1) * 3 + j - (fnC a).length = k * 3 + j from by simp [fnC]; omega, fnCs_set l k x y j u h hj e]
    rfl
theorem Od.func_ {w W : World} {g gt gr B gf n c k : Nat} {pg ms : Int} {l : List FnV} {t : TurnV} (h : Od w W g gt gr B pg ms (.slice (some ⟨gf, 0, none⟩) n c) l t) (hn : n = l.length) (hk : k < n) (f : FnV) :
    Od w (((W.setCell ⟨gf, k * 3, none⟩ (.int .i32 f.name)).setCell ⟨gf, k * 3 + 1, none⟩ (.int .i64 f.args)).setCell ⟨gf, k * 3 + 2, none⟩ (.string f.code)) g gt gr B pg ms (.slice (some ⟨gf, 0, none⟩) n c) (l.set k f) t := by
  have hkl : k < l.length := by omega
  obtain ⟨x, hx⟩ : ∃ x, l[k]? = some x := ⟨l[k]'hkl, by simp⟩
  have h1 := h.cell_ (j := k * 3 + 0) (m := l.set k ⟨f.name, x.args, x.code⟩) hn (.int .i32 f.name) (fnCs_set l k x _ 0 _ hx (by omega) rfl) (by simp)
  have h2 := h1.cell_ (j := k * 3 + 1) (m := (l.set k ⟨f.name, x.args, x.code⟩).set k ⟨f.name, f.args, x.code⟩) (by simpa using hn) (.int .i64 f.args) (fnCs_set _ k ⟨f.name, x.args, x.code⟩ _ 1 _ (by simp [hkl]) (by omega) rfl) (by simp)
  have h3 := h2.cell_ (j := k * 3 + 2) (m := ((l.set k ⟨f.name, x.args, x.code⟩).set k ⟨f.name, f.args, x.code⟩).set k f) (by simpa using hn) (.string f.code) (fnCs_set _ k ⟨f.name, f.args, x.code⟩ _ 2 _ (by simp [hkl]) (by omega) rfl) (by simp)
  rw [List.set_set, List.set_set] at h3
  exact h3
/-- It is given back. -/
theorem Od.ret {w W : World} {g gt gr B q : Nat} {pg ms : Int} {vf : Value} {l : List FnV} {t : TurnV} (h : Od w W g gt gr B pg ms vf l t) (hO : Oddly q l) (hpg : -9223372036854775808 ≤ pg ∧ pg ≤ 9223372036854775807) (hms : -9223372036854775808 ≤ ms ∧ ms ≤ 9223372036854775807) :
    Hid (OddPost q w (.returned (.agg #[.int .i64 pg, .int .i64 ms, vf])) (((W.setCell ⟨gr, 0, none⟩ (.int .i64 pg)).setCell ⟨gr, 1, none⟩ (.int .i64 ms)).setCell ⟨gr, 2, none⟩ vf)) ∧
      Hid (Whole (((W.setCell ⟨gr, 0, none⟩ (.int .i64 pg)).setCell ⟨gr, 1, none⟩ (.int .i64 ms)).setCell ⟨gr, 2, none⟩ vf) gr 24 [.int .i64 pg, .int .i64 ms, vf]) := by
  have hz := h.z
  have haw : ∀ b, vf.ownBlock = some b → b ≠ gr := fun b hb => by have := (h.o.lt b hb).1; omega
  have ho := rown_far (p := ⟨gr, 2, none⟩) (u := vf) (rown_far (p := ⟨gr, 1, none⟩) (u := .int .i64 ms) (rown_far (p := ⟨gr, 0, none⟩) (u := .int .i64 pg) h.o (fun hb => haw _ hb rfl)) (fun hb => haw _ hb rfl)) (fun hb => haw _ hb rfl)
  refine ⟨Lib.hid ⟨pg, ms, vf, l, rfl, hpg, hms, own_more_n ho (by omega), hO, ((h.c.setCell (fun hh => by simp at hh; omega) _).setCell (fun hh => by simp at hh; omega) _).setCell (fun hh => by simp at hh; omega) _⟩, Lib.hid ?_⟩
  have := ((h.r.set_ 0 (.int .i64 pg)).set_ 1 (.int .i64 ms)).set_ 2 vf
  simpa using this
theorem tdiv5 {z : Int} (h0 : -9223372036854775808 ≤ z) (h1 : z ≤ 9223372036854775807) : -9223372036854775808 ≤ z.tdiv 5 ∧ z.tdiv 5 ≤ 9223372036854775807 := by
  have h := Int.tmod_add_mul_tdiv z 5
  have h2 := Int.tmod_lt_of_pos z (show (0 : Int) < 5 by omega)
  have h3 := Int.lt_tmod_of_pos z (show (0 : Int) < 5 by omega)
  omega
theorem own_empty3 (w : World) (e : TypeId) : (w.alloc (.cells #[] e)).ownsRow w.heap.size e 3 (.slice (some ⟨w.heap.size, 0, none⟩) 0 0) 0 [] :=
  ⟨rfl, .inr ⟨w.heap.size, 0, #[], rfl, Nat.le_refl _, heap_alloc_new w _, Nat.le_refl _, by unfold maxLen; omega, rfl, rfl⟩⟩
theorem fnCs_ones (l : List FnV) : ∀ u ∈ fnCs l, u.oneCell' = true := by
  induction l with
  | nil => intro u hu; simp [fnCs] at hu
  | cons t l ih =>
    intro u hu
    rw [fnCs] at hu
    rcases List.mem_append.1 hu with h | h
    · simp only [fnC, List.mem_cons, List.not_mem_nil, or_false] at h
      rcases h with rfl | rfl | rfl <;> rfl
    · exact ih u h
section
variable {w : World} {A : Option Addr} {n c q : Nat} {l : List FnV} {pg ms : Int}
set_option maxHeartbeats 8000000 in
set_option maxRecDepth 100000 in
theorem odd_any (hF : Fnr w A n c l) (hO : Oddly q l) (hq : q < 4) (hpg : -9223372036854775808 ≤ pg ∧ pg ≤ 9223372036854775807) (hms : -9223372036854775808 ≤ ms ∧ ms ≤ 9223372036854775807) (t : TurnV) (hT : TurnOk t) :
    Calls Tryz.prog 45 #[unitV pg ms A n c, .agg (turnC t).toArray] w (OddPost (q + 1) w) := by
  obtain ⟨i0, hi0, hz0, hz1, hz2⟩ := info_parts info_func
  unfold unitV turnC
  have HF := Lib.hid hF
  have HO := Lib.hid hO
  have HT := Lib.hid hT
  have HB := Lib.hid (And.intro hpg hms)
  have hn0 : 0 < n := by have := hO.pos; have := hF.len; omega
  have hn7 : n ≤ 6 := by have := hO.few; have := hF.len; omega
  clear hF hO hT hpg hms
  go_enter Tryz.func45, Tryz.ntmps45
  go_upto_region 1 with fail
  have HOd := Lib.hid (show ∀ W, W = ((w.alloc (.cells #[.int .i64 pg, .int .i64 ms, .slice A n c] 24)).alloc (.cells #[.int .i64 t.what, .int .i64 t.func, .int .i64 t.at_, .int .i64 t.n, .string t.text] 84)).alloc (.cells #[.int .i64 0, .int .i64 0, .slice none 0 0] 24) →
      Whole W w.heap.size 24 [.int .i64 pg, .int .i64 ms, .slice A n c] ∧ Whole W (w.heap.size + 1) 84 (turnC t) ∧ Whole W (w.heap.size + 1 + 1) 24 [.int .i64 0, .int .i64 0, .slice none 0 0] ∧ Chg [] w W ∧ W.heap.size = w.heap.size + 1 + 1 + 1 from by
    rintro W rfl
    have h1 := Whole.new w 24 [.int .i64 pg, .int .i64 ms, .slice A n c]
    have c1 := (Chg.refl [] w).alloc (.cells #[.int .i64 pg, .int .i64 ms, .slice A n c] 24)
    have z1 : (w.alloc (.cells #[.int .i64 pg, .int .i64 ms, .slice A n c] 24)).heap.size = w.heap.size + 1 := Array.size_push _
    generalize w.alloc (.cells #[.int .i64 pg, .int .i64 ms, .slice A n c] 24) = w1 at *
    have h2 := Whole.new w1 84 (turnC t)
    have c2 := (Chg.refl [] w1).alloc (.cells (turnC t).toArray 84)
    have z2 : (w1.alloc (.cells (turnC t).toArray 84)).heap.size = w1.heap.size + 1 := Array.size_push _
    show Whole ((w1.alloc (.cells (turnC t).toArray 84)).alloc _) _ _ _ ∧ Whole ((w1.alloc (.cells (turnC t).toArray 84)).alloc _) _ _ _ ∧ Whole ((w1.alloc (.cells (turnC t).toArray 84)).alloc _) _ _ _ ∧ Chg [] _ ((w1.alloc (.cells (turnC t).toArray 84)).alloc _) ∧ ((w1.alloc (.cells (turnC t).toArray 84)).alloc _).heap.size = _
    generalize w1.alloc (.cells (turnC t).toArray 84) = w2 at *
    have h3 := Whole.new w2 24 [.int .i64 0, .int .i64 0, .slice none 0 0]
    have c3 := (Chg.refl [] w2).alloc (.cells #[.int .i64 0, .int .i64 0, .slice none 0 0] 24)
    have z3 : (w2.alloc (.cells #[.int .i64 0, .int .i64 0, .slice none 0 0] 24)).heap.size = w2.heap.size + 1 := Array.size_push _
    rw [z1] at h2 z2
    rw [z2] at h3 z3
    exact ⟨(h1.keep c2).keep c3, h2.keep c3, h3, (c1.new c2).new c3, z3⟩)
  generalize hw3 : ((w.alloc (.cells #[.int .i64 pg, .int .i64 ms, .slice A n c] 24)).alloc (.cells #[.int .i64 t.what, .int .i64 t.func, .int .i64 t.at_, .int .i64 t.n, .string t.text] 84)).alloc (.cells #[.int .i64 0, .int .i64 0, .slice none 0 0] 24) = w3
  obtain ⟨hu3, ht3, hr3, hc3, hz3⟩ := HOd.out w3 hw3.symm
  clear HOd hw3
  obtain ⟨g, hg⟩ : ∃ g, g = w.heap.size := ⟨_, rfl⟩
  obtain ⟨gt, hgt⟩ : ∃ gt, gt = w.heap.size + 1 := ⟨_, rfl⟩
  obtain ⟨gr, hgr⟩ : ∃ gr, gr = w.heap.size + 1 + 1 := ⟨_, rfl⟩
  obtain ⟨B, hB⟩ : ∃ B, B = w.heap.size + 1 + 1 + 1 := ⟨_, rfl⟩
  rw [← hgr] at hr3 ⊢
  rw [← hgt] at ht3 ⊢
  rw [← hg] at hu3 ⊢
  have HZ := Lib.hid (show w.heap.size ≤ g ∧ g < gt ∧ gt < gr ∧ gr < B ∧ B ≤ w3.heap.size from by omega)
  have HU3 := Lib.hid hu3
  have HT3 := Lib.hid ht3
  have HR3 := Lib.hid hr3
  have HC3 := Lib.hid hc3
  have u2 := hu3.cell 2
  have fu2 := hu3.frozen 2
  clear hu3 ht3 hr3 hc3 hz3 hg hgt hgr hB
  have hal : Chg [] w3 (w3.alloc (.cells #[] 58)) := (Chg.refl [] w3).alloc _
  obtain ⟨ad, hA, hX4⟩ : ∃ ad, A = some ad ∧ ∀ j u, (fnCs l)[j]? = some u → (w3.alloc (.cells #[] 58)).cell? (ad.add j) = some u := by
    obtain ⟨ad, e, _, hx⟩ := (HF.out.src.keep HC3.out).keep hal (by rw [fnCs_len]; have := HO.out.pos; omega)
    exact ⟨ad, e, hx⟩
  subst hA
  have HX4 := Lib.hid hX4
  have HO4 := Lib.hid (own_more_n (own_empty3 w3 58) (show B ≤ w3.heap.size from HZ.out.2.2.2.2))
  have HL := Lib.hid (show l.length = n from HF.out.len)
  have HAL := Lib.hid hal
  have hgz : g < w3.heap.size := by have := HZ.out; omega
  have hgz' : g ≠ w3.heap.size := by have := HZ.out; omega
  have u2a := (HU3.out.keep hal).cell 2
  clear hX4 hal
  go_upto_region 2 with (at_builtin
                         refine wpList_append_own _ rfl (.tmp 9) (.tmp 11) _ rfl B 58 i0 _ 3 32 Tryz.underlying22 hi0 hz0 hz1 hz2 rfl (by decide) (.slice (some ⟨w3.heap.size, 0, none⟩) 0 0) 0 [] rfl HO4.out ad n c (fnCs l) rfl (by rw [fnCs_len, HL.out]) HX4.out (fnCs_ones l) (by simp only [maxLen]; omega) (by omega) (by have := HZ.out; have := HAL.out.size; omega) ?_
                         intro v' w5 ho5 hg5 _
                         obtain ⟨A5, c5, rfl, _⟩ := rown_slice ho5
                         rw [Nat.zero_add, List.nil_append] at ho5
                         have hu5 := whole_grown (HU3.out.keep HAL.out) HO4.out (by decide) hg5
                         have u2 := hu5.cell 2
                         have fu2 := hu5.frozen 2
                         have HO5 := Lib.hid ho5
                         have HG5 := Lib.hid hg5
                         clear ho5 hg5 hu5)
  have HOd := Lib.hid (show Od w (w5.setCell ⟨g, 2, none⟩ (.slice A5 n c5)) g gt gr B pg ms (.slice A5 n c5) l t from by
    have hz := HZ.out
    have hg5 := HG5.out
    refine ⟨by have := (whole_grown (HU3.out.keep HAL.out) HO4.out (by decide) hg5).set_ 2 (.slice A5 n c5); simpa using this, (whole_grown (HT3.out.keep HAL.out) HO4.out (by decide) hg5).far (by simp only; omega) _, (whole_grown (HR3.out.keep HAL.out) HO4.out (by decide) hg5).far (by simp only; omega) _, ?_, ?_, ?_⟩
    · rw [HL.out]
      exact rown_far HO5.out (fun hb => by have := (HO5.out.lt _ hb).1; simp only at this; omega)
    · exact (chg_grown2 (HC3.out.new HAL.out) hg5 (fun b hb => by have := (HO4.out.lt b hb).1; omega)).setCell (fun hh => by simp only at hh; omega) _
    · rw [size_set]; have := hg5.size; have := HAL.out.size; omega)
  clear HU3 HT3 HR3 HC3 HAL HO4 HO5 HG5 HX4 HZ u2 u2a fu2 hgz hgz'
  generalize w5.setCell ⟨g, 2, none⟩ (.slice A5 n c5) = w6 at HOd ⊢
  obtain ⟨⟨hw0, hw1⟩, ⟨hf0, hf1⟩, ⟨ha0, ha1⟩, ⟨hm0, hm1⟩, hts⟩ := HT.out
  obtain ⟨tw, tf, ta, tn, tx⟩ := t
  simp only at hw0 hw1 hf0 hf1 ha0 ha1 hm0 hm1 hts
  have t4 : w6.cell? ⟨gt, 4, none⟩ = some (.string tx) := HOd.out.t.cell 4
  have t0 : w6.cell? ⟨gt, 0, none⟩ = some (.int .i64 tw) := HOd.out.t.cell 0
  have t1 : w6.cell? ⟨gt, 1, none⟩ = some (.int .i64 tf) := HOd.out.t.cell 1
  have t2 : w6.cell? ⟨gt, 2, none⟩ = some (.int .i64 ta) := HOd.out.t.cell 2
  have t3 : w6.cell? ⟨gt, 3, none⟩ = some (.int .i64 tn) := HOd.out.t.cell 3
  have u2 : w6.cell? ⟨g, 2, none⟩ = some (.slice A5 n c5) := HOd.out.u.cell 2
  go_upto_if 18 with fail
  go_cut [5] (fun v wx => ∃ s : ByteArray, v = .string s ∧ s.size ≤ 12 ∧ w6 = wx)
  case first =>
    by_cases h12 : 12 < tx.size
    · have h12I : (12 : Int) < (tx.size : Int) := by omega
      go_wp2_with fail
      go_meet
      exact ⟨_, rfl, by simp; omega, rfl⟩
    · have h12I : (tx.size : Int) ≤ 12 := by omega
      go_wp2_with fail
      go_meet
      exact ⟨_, rfl, by omega, rfl⟩
  case rest =>
    obtain ⟨s, rfl, hs, rfl⟩ := hcut
    have HS := Lib.hid hs
    clear hs
    have qn : ((n : Int) == 0) = false := by simp; omega
    by_cases h4 : tw.tmod 5 = 4
    · have q4 : (tw.tmod 5 == 4) = true := by simpa using h4
      clear h4
      have hd0 := tdiv5 hw0 hw1
      go_wp2_with fail
      refine (at_any (tw.tdiv 5) 3 3 rfl hd0.1 hd0.2 (by omega)).mono ?_
      rintro e w7 ⟨r, rfl, hr, rfl⟩
      have h3 : r = 0 ∨ r = 1 ∨ r = 2 := by omega
      rcases h3 with rfl | rfl | rfl
      · have g0 := HOd.out.u.frozen 0
        have g0c := HOd.out.u.cell 0
        go_upto_region 12 with fail
        have HOe := Lib.hid (HOd.out.page tn)
        generalize w6.setCell ⟨g, 0, none⟩ (.int .i64 tn) = w8 at HOe ⊢
        clear g0 g0c t0 t1 t2 t3 t4 u2 q4 qn
        have ⟨HP, hWf⟩ := HOe.out.ret (HO.out.more (Nat.le_succ q)) ⟨by omega, by omega⟩ HB.out.2
        have v0 : w8.cell? ⟨g, 0, none⟩ = some (.int .i64 tn) := HOe.out.u.cell 0
        have v1 : w8.cell? ⟨g, 1, none⟩ = some (.int .i64 ms) := HOe.out.u.cell 1
        have v2 : w8.cell? ⟨g, 2, none⟩ = some (.slice A5 n c5) := HOe.out.u.cell 2
        have r0 := HOe.out.r.cell 0
        have r1 := HOe.out.r.cell 1
        have r2 := HOe.out.r.cell 2
        have f0 := HOe.out.r.frozen 0
        have f1 := HOe.out.r.frozen 1
        have f2 := HOe.out.r.frozen 2
        go_wp2_with fail
        have e0 := hWf.out.cell 0
        have e1 := hWf.out.cell 1
        have e2 := hWf.out.cell 2
        generalize ((w8.setCell ⟨gr, 0, none⟩ (.int .i64 tn)).setCell ⟨gr, 1, none⟩ (.int .i64 ms)).setCell ⟨gr, 2, none⟩ (.slice A5 n c5) = wf at HP e0 e1 e2 ⊢
        simp only [List.getElem?_cons_zero, List.getElem?_cons_succ] at e0 e1 e2
        refine bodyPost_ret (v := .agg #[.int .i64 tn, .int .i64 ms, .slice A5 n c5]) (by simp [results, Tryz.results45, go_sem, e0, e1, e2]) rfl HP.out
      · have g1 := HOd.out.u.frozen 1
        have g1c := HOd.out.u.cell 1
        go_upto_region 12 with fail
        have HOe := Lib.hid (HOd.out.most tn)
        generalize w6.setCell ⟨g, 1, none⟩ (.int .i64 tn) = w8 at HOe ⊢
        clear g1 g1c t0 t1 t2 t3 t4 u2 q4 qn
        have ⟨HP, hWf⟩ := HOe.out.ret (HO.out.more (Nat.le_succ q)) HB.out.1 ⟨by omega, by omega⟩
        have v0 : w8.cell? ⟨g, 0, none⟩ = some (.int .i64 pg) := HOe.out.u.cell 0
        have v1 : w8.cell? ⟨g, 1, none⟩ = some (.int .i64 tn) := HOe.out.u.cell 1
        have v2 : w8.cell? ⟨g, 2, none⟩ = some (.slice A5 n c5) := HOe.out.u.cell 2
        have r0 := HOe.out.r.cell 0
        have r1 := HOe.out.r.cell 1
        have r2 := HOe.out.r.cell 2
        have f0 := HOe.out.r.frozen 0
        have f1 := HOe.out.r.frozen 1
        have f2 := HOe.out.r.frozen 2
        go_wp2_with fail
        have e0 := hWf.out.cell 0
        have e1 := hWf.out.cell 1
        have e2 := hWf.out.cell 2
        generalize ((w8.setCell ⟨gr, 0, none⟩ (.int .i64 pg)).setCell ⟨gr, 1, none⟩ (.int .i64 tn)).setCell ⟨gr, 2, none⟩ (.slice A5 n c5) = wf at HP e0 e1 e2 ⊢
        simp only [List.getElem?_cons_zero, List.getElem?_cons_succ] at e0 e1 e2
        refine bodyPost_ret (v := .agg #[.int .i64 pg, .int .i64 tn, .slice A5 n c5]) (by simp [results, Tryz.results45, go_sem, e0, e1, e2]) rfl HP.out
      · have HAL := Lib.hid (show Chg [] w6 (w6.alloc (.cells #[.int .i32 107, .int .i64 0, .string s] 58)) from (Chg.refl [] w6).alloc _)
        have u2a : (w6.alloc (.cells #[.int .i32 107, .int .i64 0, .string s] 58)).cell? ⟨g, 2, none⟩ = some (.slice A5 n c5) := (HOd.out.keep HAL.out).u.cell 2
        have HOA := Lib.hid (HOd.out.keep HAL.out)
        have hoa := HOA.out.o
        rw [HL.out] at hoa
        have HOW := Lib.hid hoa
        clear hoa
        go_upto_region 12 with (at_builtin
                                refine wpList_append_own _ rfl (.tmp 36) (.tmp 39) _ rfl B 58 i0 _ 3 32 Tryz.underlying22 hi0 hz0 hz1 hz2 rfl (by decide) (.slice A5 n c5) n (fnCs l) rfl HOW.out ⟨w6.heap.size, 0, none⟩ 1 1 [.int .i32 107, .int .i64 0, .string s] rfl rfl (cells_page _ _ _) (by simp [Value.oneCell']) (by simp only [maxLen]; omega) (by omega) (by have := HOA.out.z; omega) ?_
                                intro v' w7 ho7 hg7 _
                                obtain ⟨A7, c7, rfl, _⟩ := rown_slice ho7
                                have hu7 := whole_grown HOA.out.u HOA.out.o (by decide) hg7
                                have fu7 := hu7.frozen 2
                                have cu7 := hu7.cell 2
                                have HO7 := Lib.hid ho7
                                have HG7 := Lib.hid hg7
                                clear ho7 hg7 hu7)
        have HOe := Lib.hid (Od.funcs (l := l) (m := l ++ [⟨107, 0, s⟩]) HOA.out (v' := .slice A7 (n + 1) c7) (W' := w7) (by rw [fnCs_app, fnCs_one, List.length_append, HL.out]; exact HO7.out) HG7.out)
        have HO8 := Lib.hid (HO.out.add (f := ⟨107, 0, s⟩) ⟨by simp, by simp⟩ (by have := HS.out; simp only; omega) ⟨by simp, by simp⟩)
        generalize w7.setCell ⟨g, 2, none⟩ (.slice A7 (n + 1) c7) = w8 at HOe ⊢
        clear t0 t1 t2 t3 t4 u2 q4 qn cu7 fu7 u2a
        have ⟨HP, hWf⟩ := HOe.out.ret HO8.out HB.out.1 HB.out.2
        have v0 : w8.cell? ⟨g, 0, none⟩ = some (.int .i64 pg) := HOe.out.u.cell 0
        have v1 : w8.cell? ⟨g, 1, none⟩ = some (.int .i64 ms) := HOe.out.u.cell 1
        have v2 : w8.cell? ⟨g, 2, none⟩ = some (.slice A7 (n + 1) c7) := HOe.out.u.cell 2
        have r0 := HOe.out.r.cell 0
        have r1 := HOe.out.r.cell 1
        have r2 := HOe.out.r.cell 2
        have f0 := HOe.out.r.frozen 0
        have f1 := HOe.out.r.frozen 1
        have f2 := HOe.out.r.frozen 2
        go_wp2_with fail
        have e0 := hWf.out.cell 0
        have e1 := hWf.out.cell 1
        have e2 := hWf.out.cell 2
        generalize ((w8.setCell ⟨gr, 0, none⟩ (.int .i64 pg)).setCell ⟨gr, 1, none⟩ (.int .i64 ms)).setCell ⟨gr, 2, none⟩ (.slice A7 (n + 1) c7) = wf at HP e0 e1 e2 ⊢
        simp only [List.getElem?_cons_zero, List.getElem?_cons_succ] at e0 e1 e2
        refine bodyPost_ret (v := .agg #[.int .i64 pg, .int .i64 ms, .slice A7 (n + 1) c7]) (by simp [results, Tryz.results45, go_sem, e0, e1, e2]) rfl HP.out
    · have q4 : (tw.tmod 5 == 4) = false := by simpa using h4
      clear h4
      have hd0 := tdiv5 hw0 hw1
      go_wp2_with fail
      refine (at_any tf n n (by omega) hf0 hf1 (by omega)).mono ?_
      rintro e w7 ⟨r, rfl, hr, rfl⟩
      obtain ⟨f, hfr⟩ : ∃ f, l[r]? = some f := ⟨l[r]'(by rw [HL.out]; exact hr), by simp⟩
      have HFR := Lib.hid hfr
      obtain ⟨⟨hfa0, hfa1⟩, hfc, hfn⟩ := HO.out.fn f (List.mem_of_getElem? hfr)
      have hrI : (r : Int) < (n : Int) := by omega
      obtain ⟨gf, e, y0⟩ := rown_cell HOd.out.o (by rw [HL.out]) ((fnCs_get _ r _ 0 hfr (by omega)).trans rfl)
      subst e
      obtain ⟨_, e, y1⟩ := rown_cell HOd.out.o (by rw [HL.out]) ((fnCs_get _ r _ 1 hfr (by omega)).trans rfl)
      injection e with e; injection e with e; subst e
      obtain ⟨_, e, y2⟩ := rown_cell HOd.out.o (by rw [HL.out]) ((fnCs_get _ r _ 2 hfr (by omega)).trans rfl)
      injection e with e; injection e with e; subst e
      obtain ⟨fn, fa, fc⟩ := f
      simp only at hfa0 hfa1 hfc hfn y0 y1 y2
      rw [Nat.add_zero] at y0
      have hgf := HOd.out.o.lt gf rfl
      clear hfr
      go_upto_region 15 with fail
      have HAL := Lib.hid (show Chg [] w6 (w6.alloc (.cells #[.int .i32 fn, .int .i64 fa, .string fc] 58)) from (Chg.refl [] w6).alloc _)
      have HX := Lib.hid (Whole.new w6 58 [.int .i32 fn, .int .i64 fa, .string fc])
      have HO7 := Lib.hid (HOd.out.keep HAL.out)
      obtain ⟨gx, hgx⟩ : ∃ gx, gx = w6.heap.size := ⟨_, rfl⟩
      have HGX := Lib.hid (show gf < gx ∧ B ≤ gx from by have := HOd.out.z; omega)
      rw [← hgx] at HX ⊢
      generalize w6.alloc (.cells #[.int .i32 fn, .int .i64 fa, .string fc] 58) = w7 at HAL HX HO7 ⊢
      clear t0 t1 t2 t3 t4 u2 hgx y0 y1 y2 HAL HOd hgf
      have t0 : w7.cell? ⟨gt, 0, none⟩ = some (.int .i64 tw) := HO7.out.t.cell 0
      have t2 : w7.cell? ⟨gt, 2, none⟩ = some (.int .i64 ta) := HO7.out.t.cell 2
      have t3 : w7.cell? ⟨gt, 3, none⟩ = some (.int .i64 tn) := HO7.out.t.cell 3
      have x0 := HX.out.cell 0
      have x1 := HX.out.cell 1
      have x2 := HX.out.cell 2
      have hfc2 : fc.size ≤ 1000000 := by omega
      have hat := at_any (w := w7) ta (fc.size + 1) (fc.size + 1) (by omega) ha0 ha1 (by omega)
      rw [show ((fc.size + 1 : Nat) : Int) = (fc.size : Int) + 1 from by omega] at hat
      have HAT := Lib.hid hat
      clear hat
      go_wp2_with fail
      refine HAT.out.mono ?_
      rintro e w8 ⟨p, rfl, hp, rfl⟩
      clear HAT
      go_wp2_with fail
      refine (at_any (tw.tdiv 5) 5 5 rfl hd0.1 hd0.2 (by omega)).mono ?_
      rintro e w8 ⟨k5, rfl, hk5, rfl⟩
      have f0 := HX.out.frozen 0
      have f1 := HX.out.frozen 1
      have f2 := HX.out.frozen 2
      go_upto_block 1 with fail
      go_cut [] (fun wx => ∃ f : FnV, Hid (Whole wx gx 58 [.int .i32 f.name, .int .i64 f.args, .string f.code]) ∧ Hid (Od w wx g gt gr B pg ms (.slice (some ⟨gf, 0, none⟩) n c5) l ⟨tw, tf, ta, tn, tx⟩) ∧ (-9223372036854775808 ≤ f.args ∧ f.args ≤ 9223372036854775807) ∧ f.code.size ≤ 1000 + 12 * (q + 1) ∧ (-2147483648 ≤ f.name ∧ f.name ≤ 2147483647))
      case first =>
        have h5 : k5 = 0 ∨ k5 = 1 ∨ k5 = 2 ∨ k5 = 3 ∨ k5 = 4 := by omega
        have hps : p ≤ fc.size := by omega
        rcases h5 with rfl | rfl | rfl | rfl | rfl
        · go_upto_region 19 with fail
          obtain ⟨y1, hy1, ha1⟩ := addS (fc.extract 0 p) s p 12 (by simp; omega) HS.out (by omega)
          obtain ⟨y2, hy2, ha2⟩ := addS y1 (fc.extract p fc.size) (p + 12) (fc.size - p) hy1 (by simp) (by omega)
          have HX8 := Lib.hid HX.out.drew
          have HO8 := Lib.hid (HO7.out.keep (Chg.refl [] w7).drew)
          go_still_tail 12, (by kernel_rfl)
          change wpList _ _ _ _ _ w7.drew
          generalize w7.drew = w8 at HX8 HO8 ⊢
          have x2 := HX8.out.cell 2
          have f2 := HX8.out.frozen 2
          have h9 := HX8.out.set_ 2 (.string y2)
          have h8 := HO8.out.far (p := ⟨gx, 2, none⟩) (by have := HGX.out; simp only; omega) (by have := HGX.out; simp [Value.ownBlock]; omega) (.string y2)
          go_wp2_with fail
          go_meet
          exact ⟨⟨fn, fa, y2⟩, Lib.hid (by simpa using h9), Lib.hid h8, by simp only; omega, by simp only; omega, by simp only; omega⟩
        · go_upto_region 21 with fail
          obtain ⟨y2, hy2, ha2⟩ := addS (fc.extract 0 p) (fc.extract (min (p + 1) fc.size) fc.size) p (fc.size - p) (by simp; omega) (by simp; omega) (by omega)
          have hmn : min ((p : Int) + 1) (fc.size : Int) = ((min (p + 1) fc.size : Nat) : Int) := by omega
          obtain ⟨mn, hmm⟩ : ∃ mn, mn = min (p + 1) fc.size := ⟨_, rfl⟩
          have hmn2 : mn ≤ fc.size := by omega
          rw [← hmm] at hmn ha2
          clear hmm
          have hwp : IntKind.i64.wrap ((p : Int) + 1) = (p : Int) + 1 := IntWalk.i64_in _ (by omega)
          have hmnI : (mn : Int) ≤ (fc.size : Int) := by omega
          have hmn0 : (0 : Int) ≤ (mn : Int) := by omega
          have hmnN : (mn : Int).toNat = mn := Int.toNat_natCast _
          have HX8 := Lib.hid HX.out.drew
          have HO8 := Lib.hid (HO7.out.keep (Chg.refl [] w7).drew)
          go_still_tail 15, (by kernel_rfl)
          change wpList _ _ _ _ _ w7.drew
          generalize w7.drew = w8 at HX8 HO8 ⊢
          have x2 := HX8.out.cell 2
          have f2 := HX8.out.frozen 2
          have h9 := HX8.out.set_ 2 (.string y2)
          have h8 := HO8.out.far (p := ⟨gx, 2, none⟩) (by have := HGX.out; simp only; omega) (by have := HGX.out; simp [Value.ownBlock]; omega) (.string y2)
          go_wp2_with fail
          go_meet
          exact ⟨⟨fn, fa, y2⟩, Lib.hid (by simpa using h9), Lib.hid h8, by simp only; omega, by simp only; omega, by simp only; omega⟩
        · go_upto_region 23 with fail
          obtain ⟨y1, hy1, ha1⟩ := addS (fc.extract 0 p) s p 12 (by simp; omega) HS.out (by omega)
          obtain ⟨y2, hy2, ha2⟩ := addS y1 (fc.extract (min (p + 1) fc.size) fc.size) (p + 12) (fc.size - p) hy1 (by simp; omega) (by omega)
          have hmn : min ((p : Int) + 1) (fc.size : Int) = ((min (p + 1) fc.size : Nat) : Int) := by omega
          obtain ⟨mn, hmm⟩ : ∃ mn, mn = min (p + 1) fc.size := ⟨_, rfl⟩
          have hmn2 : mn ≤ fc.size := by omega
          rw [← hmm] at hmn ha2
          clear hmm
          have hwp : IntKind.i64.wrap ((p : Int) + 1) = (p : Int) + 1 := IntWalk.i64_in _ (by omega)
          have hmnI : (mn : Int) ≤ (fc.size : Int) := by omega
          have hmn0 : (0 : Int) ≤ (mn : Int) := by omega
          have hmnN : (mn : Int).toNat = mn := Int.toNat_natCast _
          have HX8 := Lib.hid HX.out.drew
          have HO8 := Lib.hid (HO7.out.keep (Chg.refl [] w7).drew)
          go_still_tail 17, (by kernel_rfl)
          change wpList _ _ _ _ _ w7.drew
          generalize w7.drew = w8 at HX8 HO8 ⊢
          have x2 := HX8.out.cell 2
          have f2 := HX8.out.frozen 2
          have h9 := HX8.out.set_ 2 (.string y2)
          have h8 := HO8.out.far (p := ⟨gx, 2, none⟩) (by have := HGX.out; simp only; omega) (by have := HGX.out; simp [Value.ownBlock]; omega) (.string y2)
          go_wp2_with fail
          go_meet
          exact ⟨⟨fn, fa, y2⟩, Lib.hid (by simpa using h9), Lib.hid h8, by simp only; omega, by simp only; omega, by simp only; omega⟩
        · have h9 := (HX.out.set_ 1 (.int .i64 tn))
          have h8 := HO7.out.far (p := ⟨gx, 1, none⟩) (by have := HGX.out; simp only; omega) (by have := HGX.out; simp [Value.ownBlock]; omega) (.int .i64 tn)
          go_wp2_with fail
          go_meet
          exact ⟨⟨fn, tn, fc⟩, Lib.hid (by simpa using h9), Lib.hid h8, by simp only; omega, by simp only; omega, by simp only; omega⟩
        · have h9 := (HX.out.set_ 0 (.int .i32 (wrap32 tn)))
          have h8 := HO7.out.far (p := ⟨gx, 0, none⟩) (by have := HGX.out; simp only; omega) (by have := HGX.out; simp [Value.ownBlock]; omega) (.int .i32 (wrap32 tn))
          have hwr : -2147483648 ≤ wrap32 tn ∧ wrap32 tn ≤ 2147483647 := by
            have := wrap32_wf tn
            simpa [Lit.wf, IntKind.min, IntKind.max, IntKind.signed, IntKind.bits] using this
          go_wp2_with fail
          go_meet
          exact ⟨⟨wrap32 tn, fa, fc⟩, Lib.hid (by simpa using h9), Lib.hid h8, by simp only; omega, by simp only; omega, by simp only; omega⟩
      case rest =>
        obtain ⟨f', HX', HO', hz⟩ := hcut
        obtain ⟨w8, rfl⟩ : ∃ w8 : World, w8 = wc := ⟨_, rfl⟩
        obtain ⟨hz1, hz2, hz3⟩ := hz
        have HM := Lib.hid (HO.out.set (f := f') r hz1 hz2 hz3)
        have hgf := HO'.out.o.lt gf rfl
        obtain ⟨gn, ga, gc⟩ := f'
        simp only at hz1 hz2 hz3
        clear x0 x1 x2 f0 f1 f2 t0 t2 t3 HX HO7
        have x0 := HX'.out.cell 0
        have x1 := HX'.out.cell 1
        have x2 := HX'.out.cell 2
        have u2 : w8.cell? ⟨g, 2, none⟩ = some (.slice (some ⟨gf, 0, none⟩) n c5) := HO'.out.u.cell 2
        have y0 : w8.cell? ⟨gf, r * 3, none⟩ = some (.int .i32 fn) := by
          obtain ⟨_, e, y⟩ := rown_cell HO'.out.o (by rw [HL.out]) ((fnCs_get _ r _ 0 HFR.out (by omega)).trans rfl)
          injection e with e; injection e with e; subst e; exact y
        have y1 : w8.cell? ⟨gf, r * 3 + 1, none⟩ = some (.int .i64 fa) := by
          obtain ⟨_, e, y⟩ := rown_cell HO'.out.o (by rw [HL.out]) ((fnCs_get _ r _ 1 HFR.out (by omega)).trans rfl)
          injection e with e; injection e with e; subst e; exact y
        have y2 : w8.cell? ⟨gf, r * 3 + 2, none⟩ = some (.string fc) := by
          obtain ⟨_, e, y⟩ := rown_cell HO'.out.o (by rw [HL.out]) ((fnCs_get _ r _ 2 HFR.out (by omega)).trans rfl)
          injection e with e; injection e with e; subst e; exact y
        have hO8 := HO'.out.o
        rw [HL.out] at hO8
        have z0 := rown_frozen (j := r * 3) hO8
        have z1 := rown_frozen (j := r * 3 + 1) hO8
        have z2 := rown_frozen (j := r * 3 + 2) hO8
        have HO8 := Lib.hid hO8
        clear hO8
        go_upto_region 27 with fail
        have HOe := Lib.hid (HO'.out.func_ HL.out.symm hr ⟨gn, ga, gc⟩)
        clear x0 x1 x2 u2 y0 y1 y2 z0 z1 z2 HO' HX' HO8 hgf
        generalize ((w8.setCell ⟨gf, r * 3, none⟩ (.int .i32 gn)).setCell ⟨gf, r * 3 + 1, none⟩ (.int .i64 ga)).setCell ⟨gf, r * 3 + 2, none⟩ (.string gc) = w9 at HOe ⊢
        have ⟨HP, hWf⟩ := HOe.out.ret HM.out HB.out.1 HB.out.2
        have v0 : w9.cell? ⟨g, 0, none⟩ = some (.int .i64 pg) := HOe.out.u.cell 0
        have v1 : w9.cell? ⟨g, 1, none⟩ = some (.int .i64 ms) := HOe.out.u.cell 1
        have v2 : w9.cell? ⟨g, 2, none⟩ = some (.slice (some ⟨gf, 0, none⟩) n c5) := HOe.out.u.cell 2
        have r0 := HOe.out.r.cell 0
        have r1 := HOe.out.r.cell 1
        have r2 := HOe.out.r.cell 2
        have f0 := HOe.out.r.frozen 0
        have f1 := HOe.out.r.frozen 1
        have f2 := HOe.out.r.frozen 2
        go_wp2_with fail
        have e0 := hWf.out.cell 0
        have e1 := hWf.out.cell 1
        have e2 := hWf.out.cell 2
        generalize ((w9.setCell ⟨gr, 0, none⟩ (.int .i64 pg)).setCell ⟨gr, 1, none⟩ (.int .i64 ms)).setCell ⟨gr, 2, none⟩ (.slice (some ⟨gf, 0, none⟩) n c5) = wf at HP e0 e1 e2 ⊢
        simp only [List.getElem?_cons_zero, List.getElem?_cons_succ] at e0 e1 e2
        refine bodyPost_ret (v := .agg #[.int .i64 pg, .int .i64 ms, .slice (some ⟨gf, 0, none⟩) n c5]) (by simp [results, Tryz.results45, go_sem, e0, e1, e2]) rfl HP.out
end
end Go.Proofs.YtbkfhndmeljlcaaGreatDoor
