/-
  EF: Odd, Odds, ChkPure, URight, GoodR, EgTop0, MdToks, MdWalk.
-/
import Derived.Test.YtfhgnoajfipjdaaZEF3
import Derived.Test.YtfhgnoajfipjdaaZEF5
import Derived.Test.YtfhgnoajfipjdaaZEF8
import Derived.Test.YtfhgnoajfipjdaaZEF18
import Derived.Test.YtfhgnoajfipjdaaZEF22
import Derived.Test.YtfhgnoajfipjdaaZEF23
import Derived.Test.YtfhgnoajfipjdaaZEF24
import Derived.Test.YtfhgnoajfipjdaaZEF25
import Derived.Test.YtfhgnoajfipjdaaZEF27
import Derived.Test.YtfhgnoajfipjdaaZEF28
import Derived.Laws.Entries
import Derived.Deep.CutBlock
import Derived.StillTailTactics
import Derived.Deep.DeepCutAuto
import Derived.Deep.QuietTactic
import Derived.BigQuiet
import Derived.Lib.DecodeN
import Derived.Lib.MapLaws
import Derived.Lib.FieldsU
namespace Go.Proofs.Ytfhgnoajfipjdaa
open Go.RowKit
/-- What of a program is made another one. -/
structure TurnV where
  what : Int
  func : Int
  at_ : Int
  n : Int
  text : ByteArray
def turnC (t : TurnV) : List Value := [.int .i64 t.what, .int .i64 t.func, .int .i64 t.at_, .int .i64 t.n, .string t.text]
structure TurnOk (t : TurnV) : Prop where
  what : -9223372036854775808 ≤ t.what ∧ t.what ≤ 9223372036854775807
  func : -9223372036854775808 ≤ t.func ∧ t.func ≤ 9223372036854775807
  at_ : -9223372036854775808 ≤ t.at_ ∧ t.at_ ≤ 9223372036854775807
  n : -9223372036854775808 ≤ t.n ∧ t.n ≤ 9223372036854775807
  text : t.text.size ≤ 9223372036854775807
/-- What is said of a program with some things turned. -/
structure Oddly (q : Nat) (l : List FnV) : Prop where
  pos : 0 < l.length
  few : l.length ≤ 3 + q
  fn : ∀ f ∈ l, (-9223372036854775808 ≤ f.args ∧ f.args ≤ 9223372036854775807) ∧ f.code.size ≤ 1000 + 12 * q ∧ (-2147483648 ≤ f.name ∧ f.name ≤ 2147483647)
theorem Oddly.more {q q' : Nat} {l : List FnV} (h : Oddly q l) (hq : q ≤ q') : Oddly q' l := ⟨h.pos, by have := h.few; omega, fun f hf => by have := h.fn f hf; omega⟩
theorem Oddly.add {q : Nat} {l : List FnV} (h : Oddly q l) {f : FnV} (h1 : -9223372036854775808 ≤ f.args ∧ f.args ≤ 9223372036854775807) (h2 : f.code.size ≤ 1000 + 12 * (q + 1)) (h3 : -2147483648 ≤ f.name ∧ f.name ≤ 2147483647) : Oddly (q + 1) (l ++ [f]) := by
  refine ⟨by simp, by have := h.few; simp; omega, fun x hx => ?_⟩
  rcases List.mem_append.1 hx with hx | hx
  · exact (h.more (Nat.le_succ q)).fn x hx
  · rw [List.mem_singleton] at hx; subst hx; exact ⟨h1, h2, h3⟩
theorem Oddly.set {q : Nat} {l : List FnV} (h : Oddly q l) {f : FnV} (k : Nat) (h1 : -9223372036854775808 ≤ f.args ∧ f.args ≤ 9223372036854775807) (h2 : f.code.size ≤ 1000 + 12 * (q + 1)) (h3 : -2147483648 ≤ f.name ∧ f.name ≤ 2147483647) : Oddly (q + 1) (l.set k f) := by
  refine ⟨by have := h.pos; simpa using this, by have := h.few; simp; omega, fun x hx => ?_⟩
  rcases List.mem_or_eq_of_mem_set hx with hx | rfl
  · exact (h.more (Nat.le_succ q)).fn x hx
  · exact ⟨h1, h2, h3⟩
end Go.Proofs.Ytfhgnoajfipjdaa
namespace Go.Proofs.Ytfhgnoajfipjdaa
open Go.RowKit
def turnCs : List TurnV → List Value
  | [] => []
  | t :: l => turnC t ++ turnCs l
theorem turnCs_len : ∀ l, (turnCs l).length = l.length * 5
  | [] => rfl
  | t :: l => by rw [turnCs, List.length_append, turnCs_len l]; simp [turnC]; omega
theorem turnCs_get : ∀ (l : List TurnV) (k : Nat) (t : TurnV) (j : Nat), l[k]? = some t → j < 5 → (turnCs l)[k * 5 + j]? = (turnC t)[j]?
  | [], k, t, j, h, hj => by simp at h
  | u :: l, 0, t, j, h, hj => by
    simp at h; subst h
    rw [turnCs, List.getElem?_append_left (by simp [turnC]; omega)]
    congr 1; omega
  | u :: l, k + 1, t, j, h, hj => by
    simp at h
    rw [turnCs, List.getElem?_append_right (by simp [turnC]; omega)]
    rw [← turnCs_get l k t j h hj]
    congr 1; simp [turnC]; omega
/-- The slice value '.slice A n c' is the turns l. -/
structure Trn (W : World) (A : Option Addr) (n : Nat) (l : List TurnV) : Prop where
  len : l.length = n
  src : Src W A (turnCs l)
  spot : 0 < n → ∀ ad, A = some ad → ad.spot = none
  ok : ∀ t ∈ l, TurnOk t
theorem Trn.keep {W W' : World} {A : Option Addr} {n : Nat} {l : List TurnV} (h : Trn W A n l) (hc : Chg [] W W') : Trn W' A n l := ⟨h.len, h.src.keep hc, h.spot, h.ok⟩
theorem Trn.cell {W : World} {A : Option Addr} {n : Nat} {l : List TurnV} (h : Trn W A n l) {k : Nat} {t : TurnV} (hk : l[k]? = some t) : ∃ b o, A = some ⟨b, o, none⟩ ∧ b < W.heap.size ∧ W.cell? ⟨b, o + k * 5, none⟩ = some (.int .i64 t.what) ∧ W.cell? ⟨b, o + k * 5 + 1, none⟩ = some (.int .i64 t.func) ∧ W.cell? ⟨b, o + k * 5 + 2, none⟩ = some (.int .i64 t.at_) ∧ W.cell? ⟨b, o + k * 5 + 3, none⟩ = some (.int .i64 t.n) ∧ W.cell? ⟨b, o + k * 5 + 4, none⟩ = some (.string t.text) := by
  have hkl := (List.getElem?_eq_some_iff.1 hk).1
  obtain ⟨⟨b, o, s⟩, e, hb, hx⟩ := h.src (by rw [turnCs_len]; omega)
  obtain rfl : s = none := h.spot (by have := h.len; omega) _ e
  refine ⟨b, o, e, hb, ?_, ?_, ?_, ?_, ?_⟩
  · have := hx _ _ ((turnCs_get l k t 0 hk (by omega)).trans rfl); rwa [add_plain] at this
  · have := hx _ _ ((turnCs_get l k t 1 hk (by omega)).trans rfl); rwa [add_plain] at this
  · have := hx _ _ ((turnCs_get l k t 2 hk (by omega)).trans rfl); rwa [add_plain] at this
  · have := hx _ _ ((turnCs_get l k t 3 hk (by omega)).trans rfl); rwa [add_plain] at this
  · have := hx _ _ ((turnCs_get l k t 4 hk (by omega)).trans rfl); rwa [add_plain] at this
/-- A row of functions stays, if another block is written. -/
theorem Fnr.besides {W : World} {A : Option Addr} {n c : Nat} {l : List FnV} (h : Fnr W A n c l) {p : Addr} (hp : ∀ ad, A = some ad → ad.block ≠ p.block) (u : Value) : Fnr (W.setCell p u) A n c l := by
  refine ⟨h.len, fun h0 => ?_, h.cap, h.max, h.spot, h.args⟩
  obtain ⟨ad, e, hb, hx⟩ := h.src h0
  refine ⟨ad, e, by rw [size_set]; exact hb, fun j v hj => ?_⟩
  have e2 : (ad.add j).block = ad.block := by unfold Addr.add; split <;> rfl
  rw [← hx j v hj]
  exact World.cell?_of_block (w := W) (Below.heap_setCell W p u _ (by rw [e2]; exact hp ad e))
def Ranged (x : Int) : Prop := -9223372036854775808 ≤ x ∧ x ≤ 9223372036854775807
/-- What goes round in Odd: a program that lies besides two blocks. -/
structure OdR (w W : World) (g gr : Nat) (pg ms : Int) (A : Option Addr) (n c : Nat) (l : List FnV) : Prop where
  u : Whole W g 28 [.int .i64 pg, .int .i64 ms, .slice A n c]
  r : Whole W gr 28 [.int .i64 0, .int .i64 0, .slice none 0 0]
  f : Fnr W A n c l
  a : ∀ ad, A = some ad → ad.block ≠ g ∧ ad.block ≠ gr
  p : Ranged pg
  m : Ranged ms
  c : Chg [] w W
  z : w.heap.size ≤ g ∧ g < gr ∧ gr < W.heap.size
theorem OdR.keep {w W W' : World} {g gr : Nat} {pg ms : Int} {A : Option Addr} {n c : Nat} {l : List FnV} (h : OdR w W g gr pg ms A n c l) (hc : Chg [] W W') : OdR w W' g gr pg ms A n c l :=
  ⟨h.u.keep hc, h.r.keep hc, h.f.keep hc, h.a, h.p, h.m, h.c.new hc, by have := h.z; have := hc.size; omega⟩
theorem OdR.turn {w W W' : World} {g gr : Nat} {pg ms pg' ms' : Int} {A : Option Addr} {n c : Nat} {l l' : List FnV} {v : Value} {q : Nat} (h : OdR w W g gr pg ms A n c l) (hc : Chg [] W W') (hp : Ranged pg') (hm : Ranged ms') (ho : W'.ownsRow W.heap.size 51 3 v l'.length (fnCs l')) (hO : Oddly q l') (hq : q ≤ 4) :
    ∃ A' c', v = .slice A' l'.length c' ∧ OdR w (((W'.setCell ⟨g, 0, none⟩ (.int .i64 pg')).setCell ⟨g, 1, none⟩ (.int .i64 ms')).setCell ⟨g, 2, none⟩ v) g gr pg' ms' A' l'.length c' l' := by
  have hz := h.z
  obtain ⟨A', c', rfl, hF⟩ := Fnr.of_own ho (by have := hO.few; omega) (fun f hf => (hO.fn f hf).1)
  have ha : ∀ ad, A' = some ad → ad.block ≠ g ∧ ad.block ≠ gr := fun ad e => by
    subst e
    obtain ⟨_, _, e', _, _, hb⟩ := rown_slice ho
    injection e' with e1 _ _
    have := (hb ad e1.symm).2.1
    omega
  refine ⟨A', c', rfl, ?_, ((h.r.keep hc).far (by simp only; omega) _ |>.far (by simp only; omega) _).far (by simp only; omega) _, ((hF.besides (fun ad e => (ha ad e).1) _).besides (fun ad e => (ha ad e).1) _).besides (fun ad e => (ha ad e).1) _, ha, hp, hm, ?_, ?_⟩
  · have := (((h.u.keep hc).set_ 0 (.int .i64 pg')).set_ 1 (.int .i64 ms')).set_ 2 (.slice A' l'.length c')
    simpa using this
  · exact (((h.c.new hc).setCell (fun hh => by simp only at hh; omega) _).setCell (fun hh => by simp only at hh; omega) _).setCell (fun hh => by simp only at hh; omega) _
  · rw [size_set, size_set, size_set]; have := hc.size; omega
end Go.Proofs.Ytfhgnoajfipjdaa
namespace Go.Proofs.Ytfhgnoajfipjdaa
open Go.RowKit
theorem callA_add (l m : List FnV) (name : Int) (h : (callA l name).2.2 = true) : callA (l ++ m) name = callA l name := by
  unfold callA at h ⊢
  cases hk : findK name l 0 with
  | none => rw [hk] at h; simp at h
  | some k =>
    rw [findK_add l m 0 k hk]
    simp only
    obtain ⟨f, _, hf, _⟩ := findK_at hk
    rw [Nat.sub_zero] at hf
    rw [List.getElem?_append_left (List.getElem?_eq_some_iff.1 hf).1]
theorem rTakes_add (l m : List FnV) (s name : Int) (h : (rTakes l s name).2.2 = true) : rTakes (l ++ m) s name = rTakes l s name := by
  unfold rTakes at h ⊢
  by_cases h955 : s = 955
  · subst h955
    exact callA_add l m name h
  · repeat' split
    all_goals first | rfl | (rename_i hh; exact absurd hh h955)
theorem rTok_add (l m : List FnV) (h : Int) (bs : List BkV) (s name : Int) (he : (rTok l h bs s name).1 = 0) : rTok (l ++ m) h bs s name = rTok l h bs s name := by
  by_cases hs : isEnd s
  · unfold rTok; rw [if_pos hs, if_pos hs]
  · unfold rTok at he ⊢
    rw [if_neg hs] at he
    rw [if_neg hs, if_neg hs]
    by_cases h0 : h < 0
    · rw [if_pos h0, if_pos h0]
    · rw [if_neg h0] at he
      rw [if_neg h0, if_neg h0]
      cases ht : rTakes l s name with
      | mk p r =>
        obtain ⟨q, ok⟩ := r
        rw [ht] at he
        cases ok with
        | false => simp at he
        | true => rw [rTakes_add l m s name (by rw [ht]), ht]
theorem rWalk_add (l m : List FnV) : ∀ (ts : List TkV) (h : Int) (bs : List BkV) (out : List Int), (rWalk l ts h bs out).1 = 0 → rWalk (l ++ m) ts h bs out = rWalk l ts h bs out
  | [], h, bs, out, _ => by rw [rWalk, rWalk]
  | t :: ts, h, bs, out, he => by
    rw [rWalk_next] at he
    rw [rWalk_next, rWalk_next]
    by_cases h0 : (rTok l h bs t.sign t.name).1 = 0
    · rw [if_pos h0] at he
      rw [rTok_add l m h bs t.sign t.name h0, if_pos h0, if_pos h0]
      exact rWalk_add l m ts _ _ _ he
    · rw [if_neg h0] at he
      exact absurd he h0
theorem rFunc_add (l m : List FnV) (code : ByteArray) (he : (rFunc l code).1 = 0) : rFunc (l ++ m) code = rFunc l code := by
  unfold rFunc at he ⊢
  cases ht : tokR code with
  | none => rfl
  | some ts =>
    rw [ht] at he
    simp only at he ⊢
    cases hn : rNest (signs ts) with
    | none => rfl
    | some R => rw [hn] at he; exact rWalk_add l m ts 0 [] [] he
theorem GoodU.func {l : List FnV} (h : GoodU l) {k : Nat} {f : FnV} (hk : l[k]? = some f) : (rFunc l f.code).1 = 0 ∧ rFn l (k : Int) = rFunc l f.code := by
  obtain ⟨_, _, _, _, h0⟩ := h.fn k f hk
  have hlt := (List.getElem?_eq_some_iff.1 hk).1
  have e := rFunc_add (l.take (k + 1)) (l.drop (k + 1)) f.code h0
  rw [List.take_append_drop] at e
  refine ⟨by rw [e]; exact h0, ?_⟩
  unfold rFn
  rw [if_neg (by omega), show ((k : Int)).toNat = k from rfl, hk]
def Rb (bs : List BkV) : Prop := ∀ x ∈ bs, 0 ≤ x.base ∧ x.base ≤ 64 ∧ -1 ≤ x.other ∧ x.other ≤ 64
theorem rLeave_rb {h : Int} {bs : List BkV} (hb : Rb bs) (k : Nat) : Rb (rLeave h bs k).2.2 := fun x hx => by
  have hk := rLeave_map bkey (fun _ => rfl) h bs k
  have : bkey x ∈ bs.map bkey := by rw [← hk]; exact List.mem_map_of_mem hx
  obtain ⟨y, hy, e⟩ := List.mem_map.1 this
  simp only [bkey, Prod.mk.injEq] at e
  have := hb y hy
  omega
theorem cTurn_rng {h : Int} {bs : List BkV} {s : Int} (hh : -1 ≤ h ∧ h ≤ 64) (hb : Rb bs) (hpos : (s = 63 ∨ s = 91) → 0 ≤ h) (he : (cTurn h bs s).1 = 0) : (-1 ≤ (cTurn h bs s).2.1 ∧ (cTurn h bs s).2.1 ≤ 64) ∧ Rb (cTurn h bs s).2.2 := by
  by_cases hs : isEnd s
  · rcases List.eq_nil_or_concat bs with rfl | ⟨ys, x, rfl⟩
    · unfold cTurn at he
      rw [if_pos hs] at he
      simp at he
    · rw [List.concat_eq_append] at *
      rw [cTurn_end hs] at he ⊢
      obtain ⟨h1, h2⟩ := eEnd_ok he
      rw [h2]
      have hx := hb x (by simp)
      have hy : Rb ys := fun y hy => hb y (by simp [hy])
      by_cases h58 : s = 58
      · subst h58
        unfold rEnds
        rw [if_pos rfl]
        refine ⟨by simp only; omega, fun z hz => ?_⟩
        rcases List.mem_append.1 hz with hz | hz
        · exact hy z hz
        · simp at hz; subst hz; simp only; omega
      · refine ⟨?_, by rw [rEnds_ys h58]; exact hy⟩
        unfold rEnds
        rw [if_neg h58]
        split
        · split
          · simp only; omega
          · simp only; omega
        · split
          · simp only; omega
          · simp only
            split <;> omega
  · unfold cTurn at he ⊢
    rw [if_neg hs] at he ⊢
    by_cases h1 : s = 63 ∨ s = 91
    · rw [if_pos h1]
      have h0 := hpos h1
      refine ⟨hh, fun z hz => ?_⟩
      rcases List.mem_append.1 hz with hz | hz
      · exact hb z hz
      · simp at hz; subst hz; simp only; omega
    · rw [if_neg h1] at he ⊢
      by_cases h2 : s = 126
      · rw [if_pos h2] at he ⊢
        unfold lLeave at he ⊢
        have hk := rLeave_rb (h := h) hb bs.length
        have hl := rLeave_h h bs bs.length
        rcases hr : rLeave h bs bs.length with ⟨b, h', bs'⟩
        rw [hr] at hk he hl
        cases b with
        | true =>
          have e : h' = -1 := hl rfl
          exact ⟨by simp only; omega, hk⟩
        | false => simp at he
      · rw [if_neg h2]
        by_cases h3 : s = 161
        · rw [if_pos h3]; exact ⟨by simp, hb⟩
        · rw [if_neg h3]; exact ⟨hh, hb⟩
/-- A sign behind which one may go elsewhere. -/
def Odd1 (s : Int) : Prop := s = 58 ∨ s = 59 ∨ s = 93 ∨ s = 126 ∨ s = 161
theorem rTok_more {l : List FnV} {h : Int} {bs : List BkV} {s name : Int} (hb : Bas h bs) (hrb : Rb bs) (hr : -1 ≤ h ∧ h ≤ 64) (he : (rTok l h bs s name).1 = 0) :
    ((-1 ≤ (rTok l h bs s name).2.1 ∧ (rTok l h bs s name).2.1 ≤ 64) ∧ Rb (rTok l h bs s name).2.2) ∧ (0 ≤ h → ¬ Odd1 s → ∃ p q, rTakes l s name = (p, q, true) ∧ p ≤ h ∧ (rTok l h bs s name).2.1 = h - p + q) := by
  by_cases h0 : h < 0
  · rw [rTok_dead h0] at he ⊢
    by_cases hs : isEnd s
    · rw [if_pos hs] at he ⊢
      exact ⟨cTurn_rng hr hrb (fun h => by unfold isEnd at hs; omega) he, fun h => by omega⟩
    · rw [if_neg hs] at he; simp at he
  · obtain ⟨T, hT⟩ : ∃ T, T = rTakes l s name := ⟨_, rfl⟩
    obtain ⟨p, q, ok⟩ := T
    cases ok with
    | false => rw [rTok_none (by omega) hT.symm] at he; simp at he
    | true =>
      rw [rTok_alive (by omega) hr.2 (hb.base (by omega)) hT.symm] at he ⊢
      have hin := rTakes_in l s name
      rw [← hT] at hin
      simp only at hin
      have hbase : 0 ≤ baseOf bs := by
        unfold baseOf
        cases hl : bs.getLast? with
        | none => exact Int.le_refl 0
        | some x => exact (hrb x (List.mem_of_getLast? hl)).1
      by_cases hc : h - baseOf bs < p ∨ 64 < h - p + q
      · rw [if_pos hc] at he; simp at he
      · rw [if_neg hc] at he ⊢
        refine ⟨cTurn_rng (by omega) hrb (fun _ => by omega) he, fun _ ho => ⟨p, q, hT.symm, by omega, ?_⟩⟩
        unfold Odd1 at ho
        unfold cTurn
        rw [if_neg (by unfold isEnd; omega)]
        split
        · rfl
        · rw [if_neg (by omega), if_neg (by omega)]
end Go.Proofs.Ytfhgnoajfipjdaa
namespace Go.Proofs.Ytfhgnoajfipjdaa
open Go.RowKit
structure RightU (pages most : Int) (l : List FnV) : Prop where
  p0 : 0 ≤ pages
  pm : pages ≤ most
  m64 : most ≤ 64
  few : l.length ≤ 32
  fn : ∀ (k : Nat) (f : FnV), l[k]? = some f → nameB f.name = true ∧ findI l f.name = (k : Int) ∧ 0 ≤ f.args ∧ f.args ≤ 4
  ok : ∀ k : Nat, k < l.length → (rFn l (k : Int)).1 = 0
  small : ∀ f ∈ l, f.code.size ≤ 1000000
def RightPost (W : World) (r : Int) (e : Ending) (w' : World) : Prop := e = .returned (.int .i64 r) ∧ Chg [] W w'
section
variable {W : World} {A : Option Addr} {n c : Nat} {l : List FnV} {pages most : Int}
set_option maxHeartbeats 8000000 in
set_option maxRecDepth 100000 in
theorem right_ok (h : Fnr W A n c l) (hr : RightU pages most l) : Calls Try.prog 22 #[unitV pages most A n c] W (RightPost W 0) := by
  have hn32 : n ≤ 32 := by rw [← h.len]; exact hr.few
  have hp0 := hr.p0
  have hpm := hr.pm
  have hm64 := hr.m64
  have H := Lib.hid h
  have HR := Lib.hid hr
  have HCF := Lib.hid (fun (w : World) (hc : Chg [] W w) (k : Int) => cfunc_any (pages := pages) (most := most) (h.keep hc) hr.small k)
  have HFI := Lib.hid (fun (w : World) (hc : Chg [] W w) (nm : Int) => cfind_any (pages := pages) (most := most) (h.keep hc) nm)
  unfold unitV at HCF HFI ⊢
  clear h hr
  have b1 : decide (pages < 0) = false := by simp; omega
  have b2 : decide (most < pages) = false := by simp; omega
  have b3 : decide (64 < most) = false := by simp; omega
  have b4 : decide (32 < (n : Int)) = false := by simp; omega
  go_enter Try.func22, Try.ntmps22
  go_upto_region 1 with fail
  have hN := Whole.new W 28 [.int .i64 pages, .int .i64 most, .slice A n c]
  have hal : Chg [] W (W.alloc (.cells #[.int .i64 pages, .int .i64 most, .slice A n c] 28)) := (Chg.refl [] W).alloc _
  obtain ⟨g, hg⟩ : ∃ g, g = W.heap.size := ⟨_, rfl⟩
  rw [← hg] at hN ⊢
  have HU := Lib.hid hN
  have HC := Lib.hid hal
  generalize W.alloc (.cells #[.int .i64 pages, .int .i64 most, .slice A n c] 28) = w1 at HU HC ⊢
  clear hN hal hg
  have u0 := HU.out.cell 0
  have u1 := HU.out.cell 1
  have u2 := HU.out.cell 2
  go_wp2_with fail
  go_loopw [30] (fun i wr => ∃ k : Nat, i = .int .i64 (k : Int) ∧ k ≤ n ∧ Hid (Chg [] w1 wr)) (fun i _ => n - (intOf i).toNat)
  case atStart => exact ⟨0, rfl, by omega, Lib.hid (Chg.refl [] _)⟩
  case round =>
    obtain ⟨k, rfl, hk, HCr⟩ := hrel
    have HUr := Lib.hid (HU.out.keep HCr.out)
    by_cases hkn : k < n
    · have hkI : (k : Int) < (n : Int) := by omega
      obtain ⟨t, htk⟩ : ∃ t, l[k]? = some t := ⟨l[k]'(by rw [H.out.len]; exact hkn), by simp⟩
      obtain ⟨hnm, hfi, ha0, ha4⟩ := HR.out.fn k t htk
      obtain ⟨fb, fo, rfl, hfbl, e0, e1, e2⟩ := (H.out.keep (HC.out.new HCr.out)).cell htk
      obtain ⟨tn, ta, tc⟩ := t
      simp only at e0 e1 e2 hnm hfi ha0 ha4
      clear htk
      go_upto_region 8 with fail
      have hX := Whole.new wr 51 [.int .i32 tn, .int .i64 ta, .string tc]
      have hc2 := (Chg.refl [] wr).alloc (.cells #[.int .i32 tn, .int .i64 ta, .string tc] 51)
      have HX2 := Lib.hid hX
      have HC2 := Lib.hid (HCr.out.new hc2)
      have HU2 := Lib.hid (HUr.out.keep hc2)
      generalize wr.heap.size = gx at HX2 ⊢
      generalize wr.alloc (.cells #[.int .i32 tn, .int .i64 ta, .string tc] 51) = w3 at HX2 HC2 HU2 ⊢
      clear hX e0 e1 e2 hfbl hc2
      have x0 := HX2.out.cell 0
      have x1 := HX2.out.cell 1
      have v0 := HU2.out.cell 0
      have v1 := HU2.out.cell 1
      have v2 := HU2.out.cell 2
      have q1 : decide (ta < 0) = false := by simp; omega
      have q2 : decide (4 < ta) = false := by simp; omega
      have HNM := Lib.hid (fun w => gname_any tn w)
      rw [hnm] at HNM
      have HFX := Lib.hid (HFI.out w3 (HC.out.new HC2.out) tn)
      rw [hfi] at HFX
      clear hnm hfi
      go_wp2_with (first
        | (go_at_call 62
           refine (HNM.out _).mono ?_
           rintro e w4 ⟨rfl, rfl⟩)
        | (go_at_call 51
           refine HFX.out.mono ?_
           rintro e w5 ⟨rfl, hc5⟩
           have y1 := cell_keep (by simpa using x1 : w3.cell? ⟨gx, 1, none⟩ = some (.int .i64 ta)) hc5
           have HC5 := Lib.hid (HC2.out.new hc5)
           clear hc5))
      exact ⟨⟨k + 1, by simp, by omega, HC5⟩, by simp [intOf]; omega⟩
    · have hkI : (n : Int) ≤ (k : Int) := by omega
      have v0 := HUr.out.cell 0
      have v1 := HUr.out.cell 1
      have v2 := HUr.out.cell 2
      go_wp2_with fail
      go_loopw [61] (fun i ws => ∃ k : Nat, i = .int .i64 (k : Int) ∧ k ≤ n ∧ Hid (Chg [] w1 ws)) (fun i _ => n - (intOf i).toNat)
      case atStart => exact ⟨0, rfl, by omega, HCr⟩
      case round =>
        obtain ⟨j, rfl, hj, HCs⟩ := hrel
        have HUs := Lib.hid (HU.out.keep HCs.out)
        by_cases hjn : j < n
        · have hjI : (j : Int) < (n : Int) := by omega
          have s0 := HUs.out.cell 0
          have s1 := HUs.out.cell 1
          have s2 := HUs.out.cell 2
          have HOK := Lib.hid (HR.out.ok j (by rw [H.out.len]; exact hjn))
          have HFN := Lib.hid (HCF.out wr (HC.out.new HCs.out) (j : Int))
          generalize rFn l (j : Int) = R at HOK HFN
          go_wp2_with fail
          refine HFN.out.mono ?_
          rintro e w5 ⟨v, rfl, ho, hc5⟩
          have HC5 := Lib.hid (HCs.out.new hc5)
          obtain ⟨Av, cv, rfl, _⟩ := own_slice ho
          rw [HOK.out]
          clear ho hc5
          go_wp2_with fail
          go_roundw
          case rel => exact ⟨j + 1, by go_num, by omega, HC5⟩
          case measure => simp [intOf]; omega
        · have hjI : (n : Int) ≤ (j : Int) := by omega
          have HP := Lib.hid (show RightPost W 0 (.returned (.int .i64 0)) wr from ⟨rfl, HC.out.new HCs.out⟩)
          go_wp2_with fail
          go_ret
          exact HP.out
end
end Go.Proofs.Ytfhgnoajfipjdaa
namespace Go.Proofs.Ytfhgnoajfipjdaa
open Go.RowKit
theorem GoodU.find {l : List FnV} (h : GoodU l) {k : Nat} {f : FnV} (hk : l[k]? = some f) : findI l f.name = (k : Int) ∧ nameB f.name = true := by
  have nm : ∀ (i : Nat) (g : FnV), l[i]? = some g → nmL[i]? = some g.name := fun i g hg => (h.fn i g hg).1
  have hlo := h.lo
  have hkl := (List.getElem?_eq_some_iff.1 hk).1
  have e := nm k f hk
  have hk3 : k = 0 ∨ k = 1 ∨ k = 2 := by omega
  rcases hk3 with rfl | rfl | rfl
  · have hn : f.name = 102 := by simpa [nmL] using e.symm
    match l, hk with
    | a :: r, hk =>
      simp only [List.getElem?_cons_zero, Option.some.injEq] at hk
      subst hk
      refine ⟨?_, by rw [hn]; decide⟩
      simp [findI, findK]
  · have hn : f.name = 103 := by simpa [nmL] using e.symm
    match l, hk with
    | a :: b :: r, hk =>
      have h0 := nm 0 a rfl
      have hn0 : a.name = 102 := by simpa [nmL] using h0.symm
      simp only [List.getElem?_cons_zero, List.getElem?_cons_succ, Option.some.injEq] at hk
      subst hk
      refine ⟨?_, by rw [hn]; decide⟩
      simp [findI, findK, hn0, hn]
  · have hn : f.name = 945 := by simpa [nmL] using e.symm
    match l, hk with
    | a :: b :: d :: r, hk =>
      have h0 := nm 0 a rfl
      have hn0 : a.name = 102 := by simpa [nmL] using h0.symm
      have h1 := nm 1 b rfl
      have hn1 : b.name = 103 := by simpa [nmL] using h1.symm
      simp only [List.getElem?_cons_zero, List.getElem?_cons_succ, Option.some.injEq] at hk
      subst hk
      refine ⟨?_, by rw [hn]; decide⟩
      simp [findI, findK, hn0, hn1, hn]
theorem GoodU.right {l : List FnV} (h : GoodU l) {pg ms : Int} (h0 : 0 ≤ pg) (h1 : pg ≤ ms) (h2 : ms ≤ 64) : RightU pg ms l := by
  refine ⟨h0, h1, h2, by have := h.lo; omega, fun k f hk => ?_, fun k hk => ?_, fun f hf => by have := h.size f hf; omega⟩
  · have ha := h.args f (List.mem_of_getElem? hk)
    exact ⟨(h.find hk).2, (h.find hk).1, ha.1, by omega⟩
  · have hf := h.func (List.getElem?_eq_getElem hk)
    rw [hf.2]
    exact hf.1
end Go.Proofs.Ytfhgnoajfipjdaa
namespace Go.Proofs.Ytfhgnoajfipjdaa
open Go.RowKit
theorem readable_of {pages most : Int} {l : List FnV} (h : RightU pages most l) : Readable l := by
  intro f hf
  obtain ⟨k, hk⟩ := List.getElem?_of_mem hf
  have hkl := (List.getElem?_eq_some_iff.1 hk).1
  refine ⟨(h.fn k f hk).2.2.1, ?_⟩
  have h0 := h.ok k hkl
  unfold rFn at h0
  rw [if_neg (by omega), Int.toNat_natCast, hk] at h0
  simp only at h0
  unfold rFunc at h0
  cases ht : tokR f.code with
  | none => rw [ht] at h0; simp only [tokE] at h0; exfalso; revert h0; split <;> simp
  | some ts =>
    rw [ht] at h0
    simp only at h0
    cases hn : rNest (signs ts) with
    | none => rw [hn] at h0; simp at h0
    | some R => exact ⟨ts, R, rfl, hn⟩
/-- Asks as a slice, in a row of asks. -/
def QSl (w : World) (v : Value) (qs : List (Int × Int)) : Prop := ∃ A c, v = .slice A qs.length c ∧ qs.length ≤ c ∧ Src w A (qsC qs) ∧ (∀ ad, A = some ad → ad.spot = none) ∧ (0 < qs.length → ∀ ad, A = some ad → ∃ cs fz, w.heap[ad.block]? = some (.cells cs 53 fz))
theorem QSl.keep {w w' : World} {v : Value} {qs : List (Int × Int)} (h : QSl w v qs) (hc : Chg [] w w') : QSl w' v qs := by
  obtain ⟨A, c, e, h1, h2, h3, h4⟩ := h
  refine ⟨A, c, e, h1, h2.keep hc, h3, fun h0 ad ha => ?_⟩
  obtain ⟨cs, fz, hb⟩ := h4 h0 ad ha
  have hlt : ad.block < w.heap.size := by
    rcases Nat.lt_or_ge ad.block w.heap.size with h | h
    · exact h
    · rw [Array.getElem?_eq_none h] at hb; cases hb
  exact ⟨cs, fz, (hc.block _ hlt (by simp)).trans hb⟩
theorem rown_src {w : World} {B n k : Nat} {e : TypeId} {v : Value} {xs : List Value} (h : w.ownsRow B e k v n xs) : ∃ A c, v = .slice A n c ∧ n ≤ c ∧ Src w A xs ∧ ∀ ad, A = some ad → ad.spot = none := by
  have hx := h.1
  rcases h.2 with ⟨rfl, rfl⟩ | ⟨g, cap, cur, rfl, hb, hg, hn, hc, hs, ht⟩
  · exact ⟨none, 0, rfl, Nat.le_refl _, fun h0 => by rw [hx] at h0; simp at h0, fun ad h => by cases h⟩
  · refine ⟨_, cap, rfl, hn, fun h0 => ⟨_, rfl, ?_, fun j u hj => h.cells rfl j u hj⟩, fun ad h => by injection h with h; subst h; rfl⟩
    rcases Nat.lt_or_ge g w.heap.size with h | h
    · exact h
    · rw [Array.getElem?_eq_none h] at hg; cases hg
theorem qsC_drop (qs : List (Int × Int)) : ∀ n, qsC (qs.drop n) = (qsC qs).drop (n * 2) := by
  induction qs with
  | nil => intro n; simp [qsC]
  | cons x l ih =>
    intro n
    cases n with
    | zero => simp
    | succ n =>
      rw [List.drop_succ_cons, ih n, show (n + 1) * 2 = n * 2 + 1 + 1 from by omega]
      simp [qsC]
theorem qsl_drop {w : World} {B m c n : Nat} {A : Option Addr} {qs : List (Int × Int)} (h : w.ownsRow B 53 2 (.slice A m c) m (qsC qs)) (hm : m = qs.length) (hn : n ≤ m) : QSl w (.slice (if c = n then A else Option.map (fun x => x.add (n * 2)) A) (m - n) (c - n)) (qs.drop n) := by
  obtain ⟨A', c', e', hc, hs, hA⟩ := rown_src h
  injection e' with e1 _ e3
  subst e1
  subst e3
  refine ⟨_, c - n, by rw [List.length_drop, hm], by rw [List.length_drop]; omega, fun h0 => ?_, fun ad had => ?_, fun h0 ad had => ?_⟩
  · rw [qsC_len, List.length_drop] at h0
    obtain ⟨ad, rfl, hlt, hx⟩ := hs (by rw [qsC_len]; omega)
    obtain ⟨b, o, sp⟩ := ad
    obtain rfl : sp = none := hA _ rfl
    rw [if_neg (by omega)]
    refine ⟨⟨b, o + n * 2, none⟩, by simp [add_plain], hlt, fun j u hj => ?_⟩
    have := hx (n * 2 + j) u (by rw [qsC_drop, List.getElem?_drop] at hj; exact hj)
    rw [add_plain] at this ⊢
    rw [Nat.add_assoc]
    exact this
  · split at had
    · exact hA ad had
    · cases A with
      | none => cases had
      | some x =>
        simp only [Option.map_some] at had
        injection had with had
        subst had
        obtain ⟨b, o, sp⟩ := x
        obtain rfl : sp = none := hA _ rfl
        simp [add_plain]
  · rw [List.length_drop] at h0
    rcases h.2 with ⟨e1, e2⟩ | ⟨g, cap, cur, e1, hb, hg, _⟩
    · subst e2; omega
    · injection e1 with e1 _ e3
      subst e1
      subst e3
      have hbl : ad.block = g := by
        split at had
        · injection had with had; rw [← had]
        · simp only [Option.map_some, Option.some.injEq] at had; rw [← had, add_plain]
      rw [hbl]
      exact ⟨_, _, hg⟩
section
variable {w : World} {p : Nat} {rs : List (Option Int)} {qs : List (Int × Int)} {a q : Value}
set_option maxHeartbeats 2000000 in
set_option maxRecDepth 100000 in
theorem asks_every (h : Rq w p rs qs a q) (hq : qs.length ≤ 1000000000) : Calls Try.prog 20 #[.pointer (some ⟨p, 0, none⟩)] w (AsksPost w qs) := by
  by_cases h0 : 0 < qs.length
  · exact asks_any h hq h0
  · obtain rfl : qs = [] := List.eq_nil_of_length_eq_zero (by omega)
    obtain ⟨i0, hi, hz0, hz1, hz2⟩ := info_parts info_rask
    obtain ⟨A2, c2, rfl, _, hcm2, hsp⟩ := rown_slice h.asks
    have e1 := h.rec_.cell 1
    have HSP := Lib.hid hsp
    clear h h0 hsp
    have HP := Lib.hid (show AsksPost w [] (.returned (.slice none 0 0)) w from ⟨_, rfl, World.ownsRow_nil _ _ _ _, Chg.refl _ _⟩)
    rcases A2 with _ | ⟨g, o, sp⟩
    · go_enter Try.func20, Try.ntmps20
      go_wp2_with fail
      go_ret
      exact HP.out
    · obtain rfl : sp = none := (HSP.out _ rfl).1
      go_enter Try.func20, Try.ntmps20
      go_wp2_with fail
      go_ret
      exact HP.out
end
end Go.Proofs.Ytfhgnoajfipjdaa
namespace Go.Proofs.Ytfhgnoajfipjdaa
open Go.RowKit
def sgs (ys : List TkV) : List Int := ys.map (·.sign)
end Go.Proofs.Ytfhgnoajfipjdaa
namespace Go.Proofs.Ytfhgnoajfipjdaa
open Go.RowKit
/-- Tokens from a height on, without the end. -/
def wSt (l : List FnV) : List TkV → Int → List BkV → Int × Int × List BkV
  | [], h, bs => (0, h, bs)
  | t :: ts, h, bs => if (rTok l h bs t.sign t.name).1 = 0 then wSt l ts (rTok l h bs t.sign t.name).2.1 (rTok l h bs t.sign t.name).2.2 else rTok l h bs t.sign t.name
def wEnd (q : Int × Int × List BkV) : Int := if q.1 = 0 then (if q.2.1 ≠ 1 ∧ 0 ≤ q.2.1 then 14 else 0) else q.1
theorem rWalk_st (l : List FnV) : ∀ (ts : List TkV) (h : Int) (bs : List BkV) (out : List Int), (rWalk l ts h bs out).1 = wEnd (wSt l ts h bs)
  | [], h, bs, out => by
    rw [rWalk, wSt]
    unfold wEnd
    rw [if_pos rfl]
    split <;> rfl
  | t :: ts, h, bs, out => by
    rw [rWalk_next, wSt]
    by_cases h0 : (rTok l h bs t.sign t.name).1 = 0
    · rw [if_pos h0, if_pos h0]; exact rWalk_st l ts _ _ _
    · rw [if_neg h0, if_neg h0]
      unfold wEnd
      rw [if_neg h0]
structure WInv (h : Int) (bs : List BkV) : Prop where
  b : Bas h bs
  r : Rb bs
  m : -1 ≤ h ∧ h ≤ 64
theorem WInv.nil : WInv 0 [] := ⟨⟨by simp, fun x hx => by simp at hx, fun _ x hx => by simp at hx⟩, fun x hx => by simp at hx, by omega⟩
theorem WInv.tok {l : List FnV} {h : Int} {bs : List BkV} {s name : Int} (w : WInv h bs) (he : (rTok l h bs s name).1 = 0) : WInv (rTok l h bs s name).2.1 (rTok l h bs s name).2.2 ∧ (rTok l h bs s name).2.2.map (·.sign) = sNext s (bs.map (·.sign)) := by
  obtain ⟨h1, h2⟩ := rTok_ok w.b (fun x hx => (w.r x hx).1) w.m he
  obtain ⟨⟨h3, h4⟩, _⟩ := rTok_more w.b w.r w.m he
  exact ⟨⟨h1, h4, h3⟩, h2⟩
def sEnds (ss : List Int) (st : List Int) : List Int := ss.foldl (fun st s => sNext s st) st
theorem WInv.run {l : List FnV} : ∀ (ts : List TkV) {h : Int} {bs : List BkV}, WInv h bs → (wSt l ts h bs).1 = 0 → WInv (wSt l ts h bs).2.1 (wSt l ts h bs).2.2 ∧ (wSt l ts h bs).2.2.map (·.sign) = sEnds (sgs ts) (bs.map (·.sign))
  | [], h, bs, w, _ => ⟨w, rfl⟩
  | t :: ts, h, bs, w, he => by
    rw [wSt] at he ⊢
    by_cases h0 : (rTok l h bs t.sign t.name).1 = 0
    · rw [if_pos h0] at he ⊢
      obtain ⟨h1, h2⟩ := w.tok h0
      obtain ⟨h3, h4⟩ := WInv.run ts h1 he
      refine ⟨h3, ?_⟩
      rw [h4, h2]
      rfl
    · rw [if_neg h0] at he; exact absurd he h0
end Go.Proofs.Ytfhgnoajfipjdaa
