/-
  PB: Odd, Odds, ChkPure, UPure.
-/
import Derived.Test.YtbkfhndmeljlcaaGreatDoorZPB3
import Derived.Test.YtbkfhndmeljlcaaGreatDoorZPB4
import Derived.Test.YtbkfhndmeljlcaaGreatDoorZPB5
import Derived.Test.YtbkfhndmeljlcaaGreatDoorZPB8
import Derived.Test.YtbkfhndmeljlcaaGreatDoorZPB10
import Derived.Test.YtbkfhndmeljlcaaGreatDoorZPB17
import Derived.Test.YtbkfhndmeljlcaaGreatDoorZPB25
import Derived.Test.YtbkfhndmeljlcaaGreatDoorZPB27
import Derived.Test.YtbkfhndmeljlcaaGreatDoorZPB29
import Derived.Laws.Entries
import Derived.Deep.CutBlock
import Derived.StillTailTactics
import Derived.Deep.DeepCutAuto
import Derived.Deep.QuietTactic
import Derived.BigQuiet
namespace Go.Proofs.YtbkfhndmeljlcaaGreatDoor
open Go.RowKit
/-- What of a program is made another one. -/
structure TurnV where
  what : Int
  func : Int
  at_ : Int
  n : Int
  text : ByteArray
def turnC (t : TurnV) : List Value := [.int .i64 t.what, .int .i64 t.func, .int .i64 t.at_, .int .i64 t.n, .string t.text]
structure TurnOk (t : TurnV) : Prop where
  what : -9223372036854775808 ≤ t.what ∧ t.what ≤ 9223372036854775807
  func : -9223372036854775808 ≤ t.func ∧ t.func ≤ 9223372036854775807
  at_ : -9223372036854775808 ≤ t.at_ ∧ t.at_ ≤ 9223372036854775807
  n : -9223372036854775808 ≤ t.n ∧ t.n ≤ 9223372036854775807
  text : t.text.size ≤ 9223372036854775807
/-- What is said of a program with some things turned. -/
structure Oddly (q : Nat) (l : List FnV) : Prop where
  pos : 0 < l.length
  few : l.length ≤ 3 + q
  fn : ∀ f ∈ l, (-9223372036854775808 ≤ f.args ∧ f.args ≤ 9223372036854775807) ∧ f.code.size ≤ 1000 + 12 * q ∧ (-2147483648 ≤ f.name ∧ f.name ≤ 2147483647)
theorem Oddly.more {q q' : Nat} {l : List FnV} (h : Oddly q l) (hq : q ≤ q') : Oddly q' l := ⟨h.pos, by have := h.few; omega, fun f hf => by have := h.fn f hf; omega⟩
theorem Oddly.add {q : Nat} {l : List FnV} (h : Oddly q l) {f : FnV} (h1 : -9223372036854775808 ≤ f.args ∧ f.args ≤ 9223372036854775807) (h2 : f.code.size ≤ 1000 + 12 * (q + 1)) (h3 : -2147483648 ≤ f.name ∧ f.name ≤ 2147483647) : Oddly (q + 1) (l ++ [f]) := by
  refine ⟨by simp, by have := h.few; simp; omega, fun x hx => ?_⟩
  rcases List.mem_append.1 hx with hx | hx
  · exact (h.more (Nat.le_succ q)).fn x hx
  · rw [List.mem_singleton] at hx; subst hx; exact ⟨h1, h2, h3⟩
theorem Oddly.set {q : Nat} {l : List FnV} (h : Oddly q l) {f : FnV} (k : Nat) (h1 : -9223372036854775808 ≤ f.args ∧ f.args ≤ 9223372036854775807) (h2 : f.code.size ≤ 1000 + 12 * (q + 1)) (h3 : -2147483648 ≤ f.name ∧ f.name ≤ 2147483647) : Oddly (q + 1) (l.set k f) := by
  refine ⟨by have := h.pos; simpa using this, by have := h.few; simp; omega, fun x hx => ?_⟩
  rcases List.mem_or_eq_of_mem_set hx with hx | rfl
  · exact (h.more (Nat.le_succ q)).fn x hx
  · exact ⟨h1, h2, h3⟩
/-- Where odd stands. -/
structure Od (w W : World) (g gt gr B : Nat) (pg ms : Int) (vf : Value) (l : List FnV) (t : TurnV) : Prop where
  u : Whole W g 24 [.int .i64 pg, .int .i64 ms, vf]
  t : Whole W gt 84 (turnC t)
  r : Whole W gr 24 [.int .i64 0, .int .i64 0, .slice none 0 0]
  o : W.ownsRow B 58 3 vf l.length (fnCs l)
  c : Chg [] w W
  z : w.heap.size ≤ g ∧ g < gt ∧ gt < gr ∧ gr < B ∧ B ≤ W.heap.size
section
variable {w W W' : World} {g gt gr B : Nat} {pg ms : Int} {vf : Value} {l : List FnV} {t : TurnV}
theorem Od.keep (h : Od w W g gt gr B pg ms vf l t) (hc : Chg [] W W') : Od w W' g gt gr B pg ms vf l t :=
  ⟨h.u.keep hc, h.t.keep hc, h.r.keep hc, rown_keep h.o hc, h.c.new hc, by have := h.z; have := hc.size; omega⟩
theorem Od.far (h : Od w W g gt gr B pg ms vf l t) {p : Addr} (hp : B ≤ p.block) (hv : vf.ownBlock ≠ some p.block) (u : Value) : Od w (W.setCell p u) g gt gr B pg ms vf l t := by
  have := h.z
  exact ⟨h.u.far (by omega) u, h.t.far (by omega) u, h.r.far (by omega) u, rown_far h.o hv, h.c.setCell (fun hh => by omega) u, by rw [size_set]; exact h.z⟩
theorem Od.page (h : Od w W g gt gr B pg ms vf l t) (x : Int) : Od w (W.setCell ⟨g, 0, none⟩ (.int .i64 x)) g gt gr B x ms vf l t := by
  have := h.z
  exact ⟨h.u.set_ 0 _, h.t.far (by simp only; omega) _, h.r.far (by simp only; omega) _, rown_far h.o (fun hb => by have := (h.o.lt _ hb).1; simp only at this; omega), h.c.setCell (fun hh => by simp only at hh; omega) _, by rw [size_set]; exact h.z⟩
theorem Od.most (h : Od w W g gt gr B pg ms vf l t) (x : Int) : Od w (W.setCell ⟨g, 1, none⟩ (.int .i64 x)) g gt gr B pg x vf l t := by
  have := h.z
  exact ⟨h.u.set_ 1 _, h.t.far (by simp only; omega) _, h.r.far (by simp only; omega) _, rown_far h.o (fun hb => by have := (h.o.lt _ hb).1; simp only at this; omega), h.c.setCell (fun hh => by simp only at hh; omega) _, by rw [size_set]; exact h.z⟩
/-- Another row of functions. -/
theorem Od.funcs {v' : Value} {m : List FnV} (h : Od w W g gt gr B pg ms vf l t) (ho : W'.ownsRow B 58 3 v' m.length (fnCs m)) (hg : W.grownBy W' vf.ownBlock) : Od w (W'.setCell ⟨g, 2, none⟩ v') g gt gr B pg ms v' m t := by
  have := h.z
  exact ⟨(whole_grown h.u h.o (by decide) hg).set_ 2 _, (whole_grown h.t h.o (by decide) hg).far (by simp only; omega) _, (whole_grown h.r h.o (by decide) hg).far (by simp only; omega) _, rown_far ho (fun hb => by have := (ho.lt _ hb).1; simp only at this; omega),
    (chg_grown2 h.c hg (fun b hb => by have := (h.o.lt b hb).1; omega)).setCell (fun hh => by simp only at hh; omega) _, by rw [size_set]; have := hg.size; omega⟩
/-- A cell of the row. -/
theorem Od.cell_ {gf n c j : Nat} {m : List FnV} (h : Od w W g gt gr B pg ms (.slice (some ⟨gf, 0, none⟩) n c) l t) (hn : n = l.length) (u : Value) (hm : (fnCs l).set j u = fnCs m) (hml : m.length = l.length) : Od w (W.setCell ⟨gf, j, none⟩ u) g gt gr B pg ms (.slice (some ⟨gf, 0, none⟩) n c) m t := by
  subst hn
  have := h.z
  have hb := (h.o.lt gf rfl).1
  refine ⟨h.u.far (by simp only; omega) _, h.t.far (by simp only; omega) _, h.r.far (by simp only; omega) _, ?_, h.c.setCell (fun hh => by simp only at hh; omega) _, by rw [size_set]; exact h.z⟩
  have := rown_set (j := j) (u := u) h.o
  rw [hm] at this
  rw [hml]
  exact this
end
end Go.Proofs.YtbkfhndmeljlcaaGreatDoor
namespace Go.Proofs.YtbkfhndmeljlcaaGreatDoor
open Go.RowKit
def turnCs : List TurnV → List Value
  | [] => []
  | t :: l => turnC t ++ turnCs l
theorem turnCs_len : ∀ l, (turnCs l).length = l.length * 5
  | [] => rfl
  | t :: l => by rw [turnCs, List.length_append, turnCs_len l]; simp [turnC]; omega
theorem turnCs_get : ∀ (l : List TurnV) (k : Nat) (t : TurnV) (j : Nat), l[k]? = some t → j < 5 → (turnCs l)[k * 5 + j]? = (turnC t)[j]?
  | [], k, t, j, h, hj => by simp at h
  | u :: l, 0, t, j, h, hj => by
    simp at h; subst h
    rw [turnCs, List.getElem?_append_left (by simp [turnC]; omega)]
    congr 1; omega
  | u :: l, k + 1, t, j, h, hj => by
    simp at h
    rw [turnCs, List.getElem?_append_right (by simp [turnC]; omega)]
    rw [← turnCs_get l k t j h hj]
    congr 1; simp [turnC]; omega
/-- The slice value '.slice A n c' is the turns l. -/
structure Trn (W : World) (A : Option Addr) (n : Nat) (l : List TurnV) : Prop where
  len : l.length = n
  src : Src W A (turnCs l)
  spot : 0 < n → ∀ ad, A = some ad → ad.spot = none
  ok : ∀ t ∈ l, TurnOk t
theorem Trn.keep {W W' : World} {A : Option Addr} {n : Nat} {l : List TurnV} (h : Trn W A n l) (hc : Chg [] W W') : Trn W' A n l := ⟨h.len, h.src.keep hc, h.spot, h.ok⟩
theorem Trn.cell {W : World} {A : Option Addr} {n : Nat} {l : List TurnV} (h : Trn W A n l) {k : Nat} {t : TurnV} (hk : l[k]? = some t) : ∃ b o, A = some ⟨b, o, none⟩ ∧ b < W.heap.size ∧ W.cell? ⟨b, o + k * 5, none⟩ = some (.int .i64 t.what) ∧ W.cell? ⟨b, o + k * 5 + 1, none⟩ = some (.int .i64 t.func) ∧ W.cell? ⟨b, o + k * 5 + 2, none⟩ = some (.int .i64 t.at_) ∧ W.cell? ⟨b, o + k * 5 + 3, none⟩ = some (.int .i64 t.n) ∧ W.cell? ⟨b, o + k * 5 + 4, none⟩ = some (.string t.text) := by
  have hkl := (List.getElem?_eq_some_iff.1 hk).1
  obtain ⟨⟨b, o, s⟩, e, hb, hx⟩ := h.src (by rw [turnCs_len]; omega)
  obtain rfl : s = none := h.spot (by have := h.len; omega) _ e
  refine ⟨b, o, e, hb, ?_, ?_, ?_, ?_, ?_⟩
  · have := hx _ _ ((turnCs_get l k t 0 hk (by omega)).trans rfl); rwa [add_plain] at this
  · have := hx _ _ ((turnCs_get l k t 1 hk (by omega)).trans rfl); rwa [add_plain] at this
  · have := hx _ _ ((turnCs_get l k t 2 hk (by omega)).trans rfl); rwa [add_plain] at this
  · have := hx _ _ ((turnCs_get l k t 3 hk (by omega)).trans rfl); rwa [add_plain] at this
  · have := hx _ _ ((turnCs_get l k t 4 hk (by omega)).trans rfl); rwa [add_plain] at this
/-- A row of functions stays, if another block is written. -/
theorem Fnr.besides {W : World} {A : Option Addr} {n c : Nat} {l : List FnV} (h : Fnr W A n c l) {p : Addr} (hp : ∀ ad, A = some ad → ad.block ≠ p.block) (u : Value) : Fnr (W.setCell p u) A n c l := by
  refine ⟨h.len, fun h0 => ?_, h.cap, h.max, h.spot, h.args⟩
  obtain ⟨ad, e, hb, hx⟩ := h.src h0
  refine ⟨ad, e, by rw [size_set]; exact hb, fun j v hj => ?_⟩
  have e2 : (ad.add j).block = ad.block := by unfold Addr.add; split <;> rfl
  rw [← hx j v hj]
  exact World.cell?_of_block (w := W) (Below.heap_setCell W p u _ (by rw [e2]; exact hp ad e))
def Ranged (x : Int) : Prop := -9223372036854775808 ≤ x ∧ x ≤ 9223372036854775807
/-- What goes round in Odd: a program that lies besides two blocks. -/
structure OdR (w W : World) (g gr : Nat) (pg ms : Int) (A : Option Addr) (n c : Nat) (l : List FnV) : Prop where
  u : Whole W g 24 [.int .i64 pg, .int .i64 ms, .slice A n c]
  r : Whole W gr 24 [.int .i64 0, .int .i64 0, .slice none 0 0]
  f : Fnr W A n c l
  a : ∀ ad, A = some ad → ad.block ≠ g ∧ ad.block ≠ gr
  p : Ranged pg
  m : Ranged ms
  c : Chg [] w W
  z : w.heap.size ≤ g ∧ g < gr ∧ gr < W.heap.size
theorem OdR.keep {w W W' : World} {g gr : Nat} {pg ms : Int} {A : Option Addr} {n c : Nat} {l : List FnV} (h : OdR w W g gr pg ms A n c l) (hc : Chg [] W W') : OdR w W' g gr pg ms A n c l :=
  ⟨h.u.keep hc, h.r.keep hc, h.f.keep hc, h.a, h.p, h.m, h.c.new hc, by have := h.z; have := hc.size; omega⟩
theorem OdR.turn {w W W' : World} {g gr : Nat} {pg ms pg' ms' : Int} {A : Option Addr} {n c : Nat} {l l' : List FnV} {v : Value} {q : Nat} (h : OdR w W g gr pg ms A n c l) (hc : Chg [] W W') (hp : Ranged pg') (hm : Ranged ms') (ho : W'.ownsRow W.heap.size 58 3 v l'.length (fnCs l')) (hO : Oddly q l') (hq : q ≤ 4) :
    ∃ A' c', v = .slice A' l'.length c' ∧ OdR w (((W'.setCell ⟨g, 0, none⟩ (.int .i64 pg')).setCell ⟨g, 1, none⟩ (.int .i64 ms')).setCell ⟨g, 2, none⟩ v) g gr pg' ms' A' l'.length c' l' := by
  have hz := h.z
  obtain ⟨A', c', rfl, hF⟩ := Fnr.of_own ho (by have := hO.few; omega) (fun f hf => (hO.fn f hf).1)
  have ha : ∀ ad, A' = some ad → ad.block ≠ g ∧ ad.block ≠ gr := fun ad e => by
    subst e
    obtain ⟨_, _, e', _, _, hb⟩ := rown_slice ho
    injection e' with e1 _ _
    have := (hb ad e1.symm).2.1
    omega
  refine ⟨A', c', rfl, ?_, ((h.r.keep hc).far (by simp only; omega) _ |>.far (by simp only; omega) _).far (by simp only; omega) _, ((hF.besides (fun ad e => (ha ad e).1) _).besides (fun ad e => (ha ad e).1) _).besides (fun ad e => (ha ad e).1) _, ha, hp, hm, ?_, ?_⟩
  · have := (((h.u.keep hc).set_ 0 (.int .i64 pg')).set_ 1 (.int .i64 ms')).set_ 2 (.slice A' l'.length c')
    simpa using this
  · exact (((h.c.new hc).setCell (fun hh => by simp only at hh; omega) _).setCell (fun hh => by simp only at hh; omega) _).setCell (fun hh => by simp only at hh; omega) _
  · rw [size_set, size_set, size_set]; have := hc.size; omega
end Go.Proofs.YtbkfhndmeljlcaaGreatDoor
namespace Go.Proofs.YtbkfhndmeljlcaaGreatDoor
open Go.RowKit
theorem callA_add (l m : List FnV) (name : Int) (h : (callA l name).2.2 = true) : callA (l ++ m) name = callA l name := by
  unfold callA at h ⊢
  cases hk : findK name l 0 with
  | none => rw [hk] at h; simp at h
  | some k =>
    rw [findK_add l m 0 k hk]
    simp only
    obtain ⟨f, _, hf, _⟩ := findK_at hk
    rw [Nat.sub_zero] at hf
    rw [List.getElem?_append_left (List.getElem?_eq_some_iff.1 hf).1]
theorem rTakes_add (l m : List FnV) (s name : Int) (h : (rTakes l s name).2.2 = true) : rTakes (l ++ m) s name = rTakes l s name := by
  unfold rTakes at h ⊢
  by_cases h955 : s = 955
  · subst h955
    exact callA_add l m name h
  · repeat' split
    all_goals first | rfl | (rename_i hh; exact absurd hh h955)
theorem rTok_add (l m : List FnV) (h : Int) (bs : List BkV) (s name : Int) (he : (rTok l h bs s name).1 = 0) : rTok (l ++ m) h bs s name = rTok l h bs s name := by
  by_cases hs : isEnd s
  · unfold rTok; rw [if_pos hs, if_pos hs]
  · unfold rTok at he ⊢
    rw [if_neg hs] at he
    rw [if_neg hs, if_neg hs]
    by_cases h0 : h < 0
    · rw [if_pos h0, if_pos h0]
    · rw [if_neg h0] at he
      rw [if_neg h0, if_neg h0]
      cases ht : rTakes l s name with
      | mk p r =>
        obtain ⟨q, ok⟩ := r
        rw [ht] at he
        cases ok with
        | false => simp at he
        | true => rw [rTakes_add l m s name (by rw [ht]), ht]
theorem rWalk_add (l m : List FnV) : ∀ (ts : List TkV) (h : Int) (bs : List BkV) (out : List Int), (rWalk l ts h bs out).1 = 0 → rWalk (l ++ m) ts h bs out = rWalk l ts h bs out
  | [], h, bs, out, _ => by rw [rWalk, rWalk]
  | t :: ts, h, bs, out, he => by
    rw [rWalk_next] at he
    rw [rWalk_next, rWalk_next]
    by_cases h0 : (rTok l h bs t.sign t.name).1 = 0
    · rw [if_pos h0] at he
      rw [rTok_add l m h bs t.sign t.name h0, if_pos h0, if_pos h0]
      exact rWalk_add l m ts _ _ _ he
    · rw [if_neg h0] at he
      exact absurd he h0
theorem rFunc_add (l m : List FnV) (code : ByteArray) (he : (rFunc l code).1 = 0) : rFunc (l ++ m) code = rFunc l code := by
  unfold rFunc at he ⊢
  cases ht : tokR code with
  | none => rfl
  | some ts =>
    rw [ht] at he
    simp only at he ⊢
    cases hn : rNest (signs ts) with
    | none => rfl
    | some R => rw [hn] at he; exact rWalk_add l m ts 0 [] [] he
theorem GoodU.func {l : List FnV} (h : GoodU l) {k : Nat} {f : FnV} (hk : l[k]? = some f) : (rFunc l f.code).1 = 0 ∧ rFn l (k : Int) = rFunc l f.code := by
  obtain ⟨_, _, _, _, h0⟩ := h.fn k f hk
  have hlt := (List.getElem?_eq_some_iff.1 hk).1
  have e := rFunc_add (l.take (k + 1)) (l.drop (k + 1)) f.code h0
  rw [List.take_append_drop] at e
  refine ⟨by rw [e]; exact h0, ?_⟩
  unfold rFn
  rw [if_neg (by omega), show ((k : Int)).toNat = k from rfl, hk]
end Go.Proofs.YtbkfhndmeljlcaaGreatDoor
namespace Go.Proofs.YtbkfhndmeljlcaaGreatDoor
open Go.RowKit
open Go.Lib
/-- The tokens of a code, and how they are written. -/
def toksOf (s : ByteArray) : List TkV := (tokR s).getD []
def txC (s : ByteArray) : List UInt8 := txB false (toksOf s)
def plainF (f : FnV) : FnV := ⟨f.name, f.args, ⟨(txC f.code).toArray⟩⟩
def nameE (l : List FnV) : List FnV → Nat → Bool
  | [], _ => true
  | f :: r, k => (nameB f.name && (findI l f.name == (k : Int)) && decide (0 ≤ f.args) && decide (f.args ≤ 4)) && nameE l r (k + 1)
def funcE (l : List FnV) : Nat → Nat → Int
  | 0, _ => 0
  | q + 1, k => if (rFn l (k : Int)).1 = 0 then funcE l q (k + 1) else (rFn l (k : Int)).1
/-- Is it a program? -/
def rRight (pages most : Int) (l : List FnV) : Int :=
  if pages < 0 ∨ most < pages ∨ 64 < most then 25
  else if 32 < l.length then 3
  else if nameE l l 0 = true then funcE l l.length 0 else 12
def utF (f : FnV) : List UInt8 := encodeRune f.name ++ (decDigits f.args.toNat ++ (32 :: (txC f.code ++ [10])))
def utFs : List FnV → List UInt8
  | [] => []
  | f :: l => utF f ++ utFs l
/-- A program's text. -/
def utx (pages most : Int) (l : List FnV) : List UInt8 := 117 :: 110 :: 105 :: 116 :: 32 :: (decDigits pages.toNat ++ (32 :: (decDigits most.toNat ++ (10 :: utFs l))))
def rText (pages most : Int) (l : List FnV) : List UInt8 × Int :=
  if rRight pages most l = 0 then (if 2048 < (utx pages most l).length then ([], 3) else (utx pages most l, 0)) else ([], rRight pages most l)
/-- Lines. -/
def splitL : List UInt8 → List UInt8 → List (List UInt8) × List UInt8
  | [], acc => ([], acc)
  | b :: t, acc => if b = 10 then (acc :: (splitL t []).1, (splitL t []).2) else splitL t (acc ++ [b])
def valN : List UInt8 → Nat → Option Nat
  | [], n => some n
  | b :: t, n => if 48 ≤ b.toNat ∧ b.toNat ≤ 57 then (if (9223372036854775807 - (b.toNat - 48)) / 10 < n then none else valN t (n * 10 + (b.toNat - 48))) else none
def valP (s : List UInt8) : Option Nat := if s = [] ∨ (1 < s.length ∧ s.getD 0 0 = 48) then none else valN s 0
def cut1 : List UInt8 → Option (List UInt8 × List UInt8)
  | [] => none
  | b :: t => if b = 32 then some ([], t) else (cut1 t).map fun p => (b :: p.1, p.2)
def headP (s : List UInt8) : Option (Nat × Nat) :=
  if s.take 5 = [117, 110, 105, 116, 32] then (match cut1 (s.drop 5) with
    | none => none
    | some (a, b) => match valP a, valP b with
      | some x, some y => some (x, y)
      | _, _ => none) else none
def funcP (s : List UInt8) : Option FnV :=
  match s.drop (Utf8.decode ⟨s.toArray⟩ 0).2 with
  | x :: y :: code => if s ≠ [] ∧ 48 ≤ x.toNat ∧ x.toNat ≤ 57 ∧ y = 32 then some ⟨((Utf8.decode ⟨s.toArray⟩ 0).1 : Int), ((x.toNat - 48 : Nat) : Int), ⟨code.toArray⟩⟩ else none
  | _ => none
def funcsP : List (List UInt8) → Option (List FnV)
  | [] => some []
  | s :: l => match funcP s with
    | none => none
    | some f => (funcsP l).map (f :: ·)
def parseP (s : List UInt8) : Option (Nat × Nat × List FnV) :=
  match (splitL s []).1 with
  | [] => none
  | a :: l => if (splitL s []).2 = [] then (match headP a with
    | none => none
    | some (p, m) => (funcsP l).map fun fs => (p, m, fs)) else none
/-- What a text is read as. -/
def rParse (s : List UInt8) : Int × Int × Int × List FnV :=
  if 2048 < s.length then (3, 0, 0, [])
  else match parseP s with
    | none => (12, 0, 0, [])
    | some (p, m, l) => if rRight p m l = 0 then (if (rText p m l).1 = s then (0, (p : Int), (m : Int), l) else (12, 0, 0, [])) else (rRight p m l, 0, 0, [])
/- What was written is right. -/
theorem tok_plain {s : ByteArray} {ts : List TkV} (h : tokR s = some ts) : tokR ⟨(txC s).toArray⟩ = some ts ∧ (txC s).length ≤ s.size := by
  have hs : ¬ 512 < s.size := by
    intro hh
    unfold tokR at h
    rw [if_pos hh] at h
    cases h
  have hr := gRun_is s hs
  rw [h] at hr
  have e : txC s = txB false ts := by unfold txC toksOf; rw [h]; rfl
  have hlen := tx_len hr.symm
  have hok := gRun_tk _ hr.symm (fun t ht => by simp at ht) trivial
  rw [e]
  refine ⟨?_, hlen⟩
  rw [gRun_is _ (by rw [ba_size]; omega)]
  exact tx_run ts hok
theorem findK_map (name : Int) : ∀ (l : List FnV) (k : Nat), findK name (l.map plainF) k = findK name l k
  | [], _ => rfl
  | f :: l, k => by
    rw [List.map_cons, findK, findK, findK_map name l (k + 1)]
    rfl
theorem findI_map (l : List FnV) (name : Int) : findI (l.map plainF) name = findI l name := by
  unfold findI
  rw [findK_map]
theorem callA_map (l : List FnV) (name : Int) : callA (l.map plainF) name = callA l name := by
  unfold callA
  rw [findK_map]
  cases findK name l 0 with
  | none => rfl
  | some k =>
    simp only [List.getElem?_map]
    cases l[k]? with
    | none => rfl
    | some f => rfl
theorem rTakes_map (l : List FnV) (s name : Int) : rTakes (l.map plainF) s name = rTakes l s name := by
  unfold rTakes
  rw [callA_map]
theorem rTok_map (l : List FnV) (h : Int) (bs : List BkV) (s name : Int) : rTok (l.map plainF) h bs s name = rTok l h bs s name := by
  unfold rTok
  rw [rTakes_map]
theorem rWalk_map (l : List FnV) : ∀ (ts : List TkV) (h : Int) (bs : List BkV) (out : List Int), rWalk (l.map plainF) ts h bs out = rWalk l ts h bs out
  | [], _, _, _ => rfl
  | t :: ts, h, bs, out => by
    rw [rWalk_next, rWalk_next, rTok_map, rWalk_map l ts]
theorem rFunc_map {l : List FnV} {f : FnV} (h : (rFunc l f.code).1 = 0) : rFunc (l.map plainF) (plainF f).code = rFunc l f.code := by
  unfold rFunc at h ⊢
  cases ht : tokR f.code with
  | none =>
    rw [ht] at h
    simp only at h
    unfold tokE at h
    split at h <;> omega
  | some ts =>
    rw [show tokR (plainF f).code = some ts from (tok_plain ht).1]
    simp only
    cases rNest (signs ts) with
    | none => rfl
    | some R => exact rWalk_map l ts 0 [] []
theorem rFn_at {l : List FnV} {k : Nat} {f : FnV} (hk : l[k]? = some f) : rFn l (k : Int) = rFunc l f.code := by
  have hl := (List.getElem?_eq_some_iff.1 hk).1
  unfold rFn
  rw [if_neg (by omega), show ((k : Int)).toNat = k from rfl, hk]
theorem rFn_map {l : List FnV} {k : Nat} (hk : k < l.length) (h : (rFn l (k : Int)).1 = 0) : rFn (l.map plainF) (k : Int) = rFn l (k : Int) := by
  have h1 : l[k]? = some l[k] := List.getElem?_eq_getElem hk
  have h2 : (l.map plainF)[k]? = some (plainF l[k]) := by rw [List.getElem?_map, h1]; rfl
  rw [rFn_at h1] at h ⊢
  rw [rFn_at h2, rFunc_map h]
theorem nameE_map (l : List FnV) : ∀ (r : List FnV) (k : Nat), nameE (l.map plainF) (r.map plainF) k = nameE l r k
  | [], _ => rfl
  | f :: r, k => by
    rw [List.map_cons, nameE, nameE, nameE_map l r (k + 1), findI_map]
    rfl
theorem funcE_ok {l : List FnV} : ∀ (q k : Nat), funcE l q k = 0 ↔ ∀ j, k ≤ j → j < k + q → (rFn l (j : Int)).1 = 0
  | 0, k => by rw [funcE]; exact ⟨fun _ j h1 h2 => by omega, fun _ => rfl⟩
  | q + 1, k => by
    rw [funcE]
    by_cases h : (rFn l (k : Int)).1 = 0
    · rw [if_pos h, funcE_ok q (k + 1)]
      refine ⟨fun hh j h1 h2 => ?_, fun hh j h1 h2 => hh j (by omega) (by omega)⟩
      by_cases e : j = k
      · rw [e]; exact h
      · exact hh j (by omega) (by omega)
    · rw [if_neg h]
      exact ⟨fun hh => absurd hh h, fun hh => absurd (hh k (by omega) (by omega)) h⟩
/-- What is known of a right program. -/
structure RightF (pages most : Int) (l : List FnV) : Prop where
  p0 : 0 ≤ pages
  pm : pages ≤ most
  m64 : most ≤ 64
  few : l.length ≤ 32
  name : nameE l l 0 = true
  ok : ∀ k : Nat, k < l.length → (rFn l (k : Int)).1 = 0
theorem rRight_ok {pages most : Int} {l : List FnV} : rRight pages most l = 0 ↔ RightF pages most l := by
  unfold rRight
  constructor
  · intro h
    split at h
    · omega
    · split at h
      · omega
      · split at h
        · rename_i h1 h2 h3
          exact ⟨by omega, by omega, by omega, by omega, h3, fun k hk => (funcE_ok _ _).1 h k (by omega) (by omega)⟩
        · omega
  · rintro ⟨h1, h2, h3, h4, h5, h6⟩
    rw [if_neg (by omega), if_neg (by omega), if_pos h5, funcE_ok]
    exact fun j _ h => h6 j (by omega)
theorem nameE_at {l : List FnV} : ∀ {r : List FnV} {k : Nat}, nameE l r k = true → ∀ (j : Nat) (f : FnV), r[j]? = some f → nameB f.name = true ∧ findI l f.name = ((k + j : Nat) : Int) ∧ 0 ≤ f.args ∧ f.args ≤ 4
  | [], _, _, j, f, hj => by simp at hj
  | g :: r, k, h, j, f, hj => by
    rw [nameE] at h
    simp only [Bool.and_eq_true, decide_eq_true_eq, beq_iff_eq] at h
    cases j with
    | zero => simp at hj; subst hj; exact ⟨h.1.1.1.1, h.1.1.1.2, h.1.1.2, h.1.2⟩
    | succ j =>
      have := nameE_at h.2 j f (by simpa using hj)
      rw [show k + (j + 1) = k + 1 + j from by omega]
      exact this
theorem RightF.fn {pages most : Int} {l : List FnV} (h : RightF pages most l) {k : Nat} {f : FnV} (hk : l[k]? = some f) : nameB f.name = true ∧ findI l f.name = (k : Int) ∧ 0 ≤ f.args ∧ f.args ≤ 4 := by
  have := nameE_at h.name k f hk
  rw [Nat.zero_add] at this
  exact this
theorem RightF.plain {pages most : Int} {l : List FnV} (h : RightF pages most l) : RightF pages most (l.map plainF) := by
  refine ⟨h.p0, h.pm, h.m64, by rw [List.length_map]; exact h.few, by rw [nameE_map]; exact h.name, fun k hk => ?_⟩
  rw [List.length_map] at hk
  rw [rFn_map hk (h.ok k hk)]
  exact h.ok k hk
theorem RightF.tok {pages most : Int} {l : List FnV} (h : RightF pages most l) {f : FnV} (hf : f ∈ l) : ∃ ts, tokR f.code = some ts := by
  obtain ⟨k, hk, e⟩ := List.getElem_of_mem hf
  have h1 : l[k]? = some f := by rw [List.getElem?_eq_getElem hk, e]
  have := h.ok k hk
  rw [rFn_at h1] at this
  unfold rFunc at this
  cases ht : tokR f.code with
  | none =>
    rw [ht] at this
    simp only at this
    unfold tokE at this
    split at this <;> omega
  | some ts => exact ⟨ts, rfl⟩
theorem txC_plain {f : FnV} {ts : List TkV} (h : tokR f.code = some ts) : txC (plainF f).code = txC f.code := by
  have e := (tok_plain h).1
  unfold txC toksOf
  rw [show tokR (plainF f).code = some ts from e, h]
theorem utFs_plain : ∀ {l : List FnV}, (∀ f ∈ l, ∃ ts, tokR f.code = some ts) → utFs (l.map plainF) = utFs l
  | [], _ => rfl
  | f :: l, h => by
    obtain ⟨ts, ht⟩ := h f (by simp)
    rw [List.map_cons, utFs, utFs, utFs_plain (fun g hg => h g (by simp [hg])), utF, utF, txC_plain ht]
    rfl
theorem RightF.text {pages most : Int} {l : List FnV} (h : RightF pages most l) : utx pages most (l.map plainF) = utx pages most l := by
  unfold utx
  rw [utFs_plain (fun f hf => h.tok hf)]
/- Bytes that are no end of a line, and no blank. -/
theorem dig_byte : ∀ (n : Nat), ∀ b ∈ decDigits n, 48 ≤ b.toNat ∧ b.toNat ≤ 57 := by
  intro n
  induction n using Nat.strongRecOn with
  | _ n ih =>
    by_cases h : n < 10
    · rw [decDigits_one h]
      intro b hb
      rw [List.mem_singleton] at hb
      subst hb
      simp; omega
    · rw [decDigits, dif_neg h]
      intro b hb
      rcases List.mem_append.1 hb with hb | hb
      · exact ih (n / 10) (by omega) b hb
      · rw [List.mem_singleton] at hb
        subst hb
        simp; omega
theorem u8_ne {b c : UInt8} (h : b.toNat ≠ c.toNat) : b ≠ c := fun e => h (by rw [e])
theorem enc_ne10 {r : Int} (hr : okR r) (h : 33 ≤ r) : ∀ b ∈ encodeRune r, b ≠ 10 := by
  intro b hb
  unfold encodeRune at hb
  obtain ⟨z, hz, rfl⟩ := List.mem_map.1 hb
  have h10 : (10 : UInt8).toNat = 10 := rfl
  refine u8_ne ?_
  have hbd := encodeRuneZ_byte r z hz
  rw [toN8 z hbd.1 hbd.2, h10]
  have hc : (0 ≤ r ∧ r ≤ 127) ∨ (128 ≤ r ∧ r ≤ 2047) ∨ ((2048 ≤ r ∧ r < 55296) ∨ (57343 < r ∧ r ≤ 65535)) ∨ (65536 ≤ r ∧ r ≤ 1114111) := by unfold okR at hr; omega
  rcases hc with h | h | h | h
  · rw [encodeRuneZ_one h.1 h.2, List.mem_singleton] at hz; omega
  · rw [encodeRuneZ_two h.1 h.2] at hz; simp at hz; omega
  · rw [encodeRuneZ_three h] at hz; simp at hz; omega
  · rw [encodeRuneZ_four h.1 h.2] at hz; simp at hz; omega
theorem txB_ne10 : ∀ (l : List TkV) (nb : Bool), ∀ b ∈ txB nb l, b ≠ 10
  | [], _, b, hb => by simp [txB] at hb
  | t :: l, nb, b, hb => by
    rw [txB] at hb
    split at hb
    · rcases List.mem_append.1 hb with hb | hb
      · cases nb <;> simp at hb
        subst hb; decide
      · rcases List.mem_append.1 hb with hb | hb
        · have := dig_byte _ b hb
          exact u8_ne (by show b.toNat ≠ 10; omega)
        · exact txB_ne10 l true b hb
    · split at hb
      · rename_i hn
        split at hb
        · rename_i hm
          have h1 := known_okR (named_known hn).1
          have h2 := name_okR hm
          rcases List.mem_append.1 hb with hb | hb
          · exact enc_ne10 h1.1 h1.2.2.1 b hb
          · rcases List.mem_append.1 hb with hb | hb
            · exact enc_ne10 h2.1 (by omega) b hb
            · exact txB_ne10 l false b hb
        · exact txB_ne10 l nb b hb
      · split at hb
        · rename_i hk
          have h1 := known_okR hk
          rcases List.mem_append.1 hb with hb | hb
          · exact enc_ne10 h1.1 h1.2.2.1 b hb
          · exact txB_ne10 l false b hb
        · exact txB_ne10 l nb b hb
theorem split_line : ∀ (a : List UInt8) (t acc : List UInt8), (∀ b ∈ a, b ≠ 10) → splitL (a ++ 10 :: t) acc = ((acc ++ a) :: (splitL t []).1, (splitL t []).2)
  | [], t, acc, _ => by rw [List.nil_append, splitL, if_pos rfl, List.append_nil]
  | b :: a, t, acc, h => by
    rw [List.cons_append, splitL, if_neg (h b (by simp)), split_line a t (acc ++ [b]) (fun c hc => h c (by simp [hc]))]
    simp
theorem cut_blank : ∀ (a b : List UInt8), (∀ x ∈ a, x ≠ 32) → cut1 (a ++ 32 :: b) = some (a, b)
  | [], b, _ => by rw [List.nil_append, cut1, if_pos rfl]
  | x :: a, b, h => by
    rw [List.cons_append, cut1, if_neg (h x (by simp)), cut_blank a b (fun y hy => h y (by simp [hy]))]
    rfl
theorem valN_app : ∀ (a b : List UInt8) (n : Nat), valN (a ++ b) n = (valN a n).bind (valN b)
  | [], b, n => rfl
  | x :: a, b, n => by
    rw [List.cons_append, valN, valN]
    split
    · split
      · rfl
      · exact valN_app a b _
    · rfl
theorem valN_dig : ∀ (n : Nat), n ≤ 9223372036854775807 → valN (decDigits n) 0 = some n := by
  intro n
  induction n using Nat.strongRecOn with
  | _ n ih =>
    intro hn
    by_cases h : n < 10
    · rw [decDigits_one h]
      have e : (UInt8.ofNat (48 + n)).toNat = 48 + n := by simp; omega
      rw [valN, e, if_pos (by omega), if_neg (by omega), valN]
      congr 1
      omega
    · rw [decDigits, dif_neg h, valN_app, ih (n / 10) (by omega) (by omega)]
      have e : (UInt8.ofNat (48 + n % 10)).toNat = 48 + n % 10 := by simp; omega
      simp only [Option.bind_some]
      rw [valN, e, if_pos (by omega), if_neg (by omega), valN]
      congr 1
      omega
theorem dig_ne (n : Nat) : decDigits n ≠ [] := by
  intro h
  have := decDigits_length n
  have h2 := nDigits_pos n
  rw [h, List.length_nil] at this
  omega
theorem dig_head : ∀ (n : Nat), 1 ≤ n → (decDigits n).getD 0 0 ≠ 48 := by
  intro n
  induction n using Nat.strongRecOn with
  | _ n ih =>
    intro hn
    by_cases h : n < 10
    · rw [decDigits_one h]
      refine u8_ne ?_
      show (UInt8.ofNat (48 + n)).toNat ≠ 48
      simp; omega
    · rw [decDigits, dif_neg h]
      have h1 := ih (n / 10) (by omega) (by omega)
      have h2 := dig_ne (n / 10)
      cases hd : decDigits (n / 10) with
      | nil => exact absurd hd h2
      | cons x y =>
        rw [hd] at h1
        simpa using h1
theorem valP_dig (n : Nat) (hn : n ≤ 9223372036854775807) : valP (decDigits n) = some n := by
  unfold valP
  rw [if_neg, valN_dig n hn]
  rintro (h | ⟨h1, h2⟩)
  · exact dig_ne n h
  · by_cases h0 : 1 ≤ n
    · exact dig_head n h0 h2
    · have : n = 0 := by omega
      subst this
      rw [decDigits_one (by omega)] at h1
      simp at h1
theorem funcP_utF {f : FnV} (hn : nameB f.name = true) (ha : 0 ≤ f.args ∧ f.args ≤ 4) : funcP (encodeRune f.name ++ (decDigits f.args.toNat ++ (32 :: txC f.code))) = some (plainF f) := by
  obtain ⟨ho, _, h97⟩ := name_okR hn
  have hd := dec_enc f.name ho (decDigits f.args.toNat ++ (32 :: txC f.code))
  have e1 : decDigits f.args.toNat = [UInt8.ofNat (48 + f.args.toNat)] := decDigits_one (by omega)
  rw [e1] at hd ⊢
  unfold funcP
  rw [hd]
  simp only [List.drop_left, List.cons_append, List.nil_append]
  have e2 : (UInt8.ofNat (48 + f.args.toNat)).toNat = 48 + f.args.toNat := by simp; omega
  rw [e2, if_pos ⟨by have := enc_pos f.name; intro hh; have := congrArg List.length hh; simp at this, by omega, by omega, trivial⟩]
  unfold plainF
  congr 2
  · omega
  · omega
theorem funcs_back : ∀ {l : List FnV}, (∀ f ∈ l, nameB f.name = true ∧ 0 ≤ f.args ∧ f.args ≤ 4) → (splitL (utFs l) []).2 = [] ∧ funcsP (splitL (utFs l) []).1 = some (l.map plainF)
  | [], _ => ⟨rfl, rfl⟩
  | f :: l, h => by
    obtain ⟨h1, h2⟩ := h f (by simp)
    obtain ⟨i1, i2⟩ := funcs_back (l := l) (fun g hg => h g (by simp [hg]))
    have e : utFs (f :: l) = (encodeRune f.name ++ (decDigits f.args.toNat ++ (32 :: txC f.code))) ++ 10 :: utFs l := by
      rw [utFs, utF]
      simp
    have hne : ∀ b ∈ (encodeRune f.name ++ (decDigits f.args.toNat ++ (32 :: txC f.code))), b ≠ 10 := by
      intro b hb
      rcases List.mem_append.1 hb with hb | hb
      · exact enc_ne10 (name_okR h1).1 (by have := (name_okR h1).2.2; omega) b hb
      · rcases List.mem_append.1 hb with hb | hb
        · have := dig_byte _ b hb
          exact u8_ne (by show b.toNat ≠ 10; omega)
        · rcases List.mem_cons.1 hb with rfl | hb
          · decide
          · exact txB_ne10 _ _ b hb
    rw [e, split_line _ _ _ hne]
    refine ⟨i1, ?_⟩
    simp only [List.nil_append]
    rw [funcsP, funcP_utF h1 h2]
    simp only
    rw [i2]
    rfl
theorem parse_text {p m : Nat} {l : List FnV} (hp : p ≤ 64) (hm : m ≤ 64) (h : ∀ f ∈ l, nameB f.name = true ∧ 0 ≤ f.args ∧ f.args ≤ 4) : parseP (utx (p : Int) (m : Int) l) = some (p, m, l.map plainF) := by
  obtain ⟨i1, i2⟩ := funcs_back h
  have e : utx (p : Int) (m : Int) l = (117 :: 110 :: 105 :: 116 :: 32 :: (decDigits p ++ (32 :: decDigits m))) ++ 10 :: utFs l := by
    unfold utx
    simp
  have hdig : ∀ (q : Nat) (b : UInt8), b ∈ decDigits q → b ≠ 10 ∧ b ≠ 32 := fun q b hb => by
    have := dig_byte _ b hb
    exact ⟨u8_ne (by show b.toNat ≠ 10; omega), u8_ne (by show b.toNat ≠ 32; omega)⟩
  have hne : ∀ b ∈ (117 :: 110 :: 105 :: 116 :: 32 :: (decDigits p ++ (32 :: decDigits m))), b ≠ (10 : UInt8) := by
    intro b hb
    simp only [List.mem_cons, List.mem_append] at hb
    rcases hb with rfl | rfl | rfl | rfl | rfl | hb | rfl | hb
    · decide
    · decide
    · decide
    · decide
    · decide
    · exact (hdig _ b hb).1
    · decide
    · exact (hdig _ b hb).1
  unfold parseP
  rw [e, split_line _ _ _ hne]
  simp only [List.nil_append]
  rw [if_pos i1]
  have hh : headP (117 :: 110 :: 105 :: 116 :: 32 :: (decDigits p ++ (32 :: decDigits m))) = some (p, m) := by
    unfold headP
    rw [if_pos (by rfl)]
    rw [show List.drop 5 (117 :: 110 :: 105 :: 116 :: 32 :: (decDigits p ++ (32 :: decDigits m))) = decDigits p ++ (32 :: decDigits m) from rfl, cut_blank _ _ (fun b hb => (hdig _ b hb).2)]
    simp only
    rw [valP_dig p (by omega), valP_dig m (by omega)]
  rw [hh]
  simp only
  rw [i2]
  rfl
theorem parse_back {pages most : Int} {l : List FnV} (h : RightF pages most l) (hlen : (utx pages most l).length ≤ 2048) : rParse (utx pages most l) = (0, pages, most, l.map plainF) := by
  obtain ⟨p, rfl⟩ : ∃ p : Nat, pages = (p : Int) := ⟨pages.toNat, by have := h.p0; omega⟩
  obtain ⟨m, rfl⟩ : ∃ m : Nat, most = (m : Int) := ⟨most.toNat, by have := h.p0; have := h.pm; omega⟩
  have hm := h.m64
  have hpm := h.pm
  unfold rParse
  rw [if_neg (by omega), parse_text (by omega) (by omega) (fun f hf => by
    obtain ⟨k, hk, e⟩ := List.getElem_of_mem hf
    have := h.fn (k := k) (f := f) (by rw [List.getElem?_eq_getElem hk, e])
    exact ⟨this.1, this.2.2⟩)]
  simp only
  have h2 := h.plain
  have hu := h.text
  have h3 := rRight_ok.2 h2
  rw [if_pos h3, if_pos]
  unfold rText
  rw [if_pos h3, hu, if_neg (by omega)]
end Go.Proofs.YtbkfhndmeljlcaaGreatDoor
