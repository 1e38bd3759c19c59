/-
  UU: DRows, Digits, Txt, FnRow, StPure, Find, DFuncs.
-/
import Derived.Test.YtbkfhndmeljlcaaGreatDoorZUU3
import Derived.Test.YtbkfhndmeljlcaaGreatDoorZUU4
import Derived.Test.YtbkfhndmeljlcaaGreatDoorZUU5
import Derived.Test.YtbkfhndmeljlcaaGreatDoorZUU6
import Derived.Test.YtbkfhndmeljlcaaGreatDoorZUU7
import Derived.Deep.Slices
import Derived.Deep.Fields
import Derived.ChangeSame
import Derived.ChangeSlices
import Derived.Laws.Cover4
namespace Go.Proofs.YtbkfhndmeljlcaaGreatDoor
open Go.RowKit Go.ChangeShapes Go.WideShapes Go.Deep
theorem dlist_of {α : Type} {P : Nat → α → Prop} (n : Nat) (h : ∀ i, i < n → ∃ a, P i a) : ∃ l : List α, l.length = n ∧ ∀ i a, l[i]? = some a → P i a := by
  induction n with
  | zero => exact ⟨[], rfl, fun i a h => by simp at h⟩
  | succ n ih =>
    obtain ⟨l, hl, hx⟩ := ih fun i hi => h i (by omega)
    obtain ⟨a, ha⟩ := h n (by omega)
    refine ⟨l ++ [a], by simp [hl], fun i b hb => ?_⟩
    rcases Nat.lt_trichotomy i n with hi | hi | hi
    · rw [List.getElem?_append_left (by omega)] at hb
      exact hx i b hb
    · subst hi
      rw [← hl, List.getElem?_concat_length] at hb
      cases hb
      exact ha
    · rw [List.getElem?_eq_none (by simp; omega)] at hb
      cases hb
section
variable {H : Type} {enc : TypeId × Value → H} {w : World} {base : Nat} {held : Bool} {P : Program}
/-- A slice of structs: of each element and each field the cell, and that it is a datum of the field's type. -/
theorem rows_open {t e : TypeId} {fs : Array Field} (ht : P.underlying t = some (.slice e)) (hu : P.underlying e = some (.struct fs)) (hone : oneCellFields P fs = true) {m : Nat} (hm0 : fs.size = m) (hC : P.cellsOf e = m)
    {fuel : Nat} {cs : List Value} {x : DataW H × List MemPlace} (h : DataW.trod enc P w base (fun _ => true) held fuel t cs = some x) (v : Value) (hv : cs = [v]) :
    ∃ A n c, v = .slice A n c ∧ n ≤ c ∧ c ≤ maxLen ∧ ∀ i, i < n → ∃ (a : Addr) (us : List Value), A = some a ∧ us.length = m ∧ (∀ j u, us[j]? = some u → w.cell? ((a.add (i * m)).add j) = some u) ∧
      ∀ (j : Nat) (f : Field) (u : Value), fs[j]? = some f → us[j]? = some u → ∃ n' y, DataW.trod enc P w base (fun _ => true) held n' f.type [u] = some y := by
  subst hv
  rcases open_slice ht h with ⟨h0, _⟩ | ⟨a, len, cap, m', f, D, Pl, hcs, hb, hl, hm, hmm, hx, hi⟩
  · simp only [List.cons.injEq, and_true] at h0
    exact ⟨none, 0, 0, h0, Nat.le_refl _, by unfold maxLen; omega, fun i hi => by omega⟩
  · simp only [List.cons.injEq, and_true] at hcs
    rw [if_pos rfl] at hmm
    subst hmm
    refine ⟨some a, len, m', hcs, hl, hm, fun i hlt => ?_⟩
    obtain ⟨cs', hc, ht'⟩ := hi i (by omega)
    rw [hC] at hc
    obtain ⟨xs, n', hn', hy, hlen, hxl, hf⟩ := DataW.trod_struct hu ht'
    obtain ⟨_, hcl, hat⟩ := World.cells?_some hc
    refine ⟨a, cs', rfl, hcl, fun j u hj => ?_, fun j f u hj hu' => ?_⟩
    · have := hat j (by have := (List.getElem?_eq_some_iff.1 hj).1; omega)
      rw [this, hj]
    · have hfj := hf j f hj
      obtain ⟨o, k⟩ := hone_of hone j f hj
      rw [o, k] at hfj
      have hd : (cs'.drop j).take 1 = [u] := by
        have hlt := (List.getElem?_eq_some_iff.1 hu').1
        rw [List.drop_eq_getElem_cons hlt]
        simp only [List.take_succ_cons, List.take_zero]
        rw [(List.getElem?_eq_some_iff.1 hu').2]
      rw [hd] at hfj
      have hjx : j < xs.length := by rw [hxl]; exact (Array.getElem?_eq_some_iff.1 hj).1
      rw [List.getElem?_eq_getElem hjx] at hfj
      exact ⟨_, _, hfj⟩
end
theorem rfield_at {fs : Array Field} {ts : Array TypeId} (h : fs.map (·.type) = ts) (j : Nat) (t : TypeId) (hj : ts[j]? = some t) : ∃ f : Field, fs[j]? = some f ∧ f.type = t := by
  rw [← h, Array.getElem?_map] at hj
  cases hf : fs[j]? with
  | none => rw [hf] at hj; cases hj
  | some f => rw [hf] at hj; exact ⟨f, rfl, by simpa using hj⟩
theorem rspot_none {w : World} {x : Addr} {k : IntKind} {z : Int} (hc : w.cell? x = some (.int k z)) : x.spot = none := by
  cases hs : x.spot with
  | none => rfl
  | some u =>
    exfalso
    unfold World.cell? at hc
    rw [hs] at hc
    split at hc
    · simp at hc
    · cases hc
/-- Cells row by row as one list. -/
theorem src_rows {α : Type} {w : World} {a : Addr} {m : Nat} (C : α → List Value) (Cs : List α → List Value) (h0 : Cs [] = []) (h1 : ∀ x l, Cs (x :: l) = C x ++ Cs l) (hC : ∀ x, (C x).length = m) (l : List α) (ha : a.spot = none)
    (hl : ∀ i x, l[i]? = some x → ∀ j u, (C x)[j]? = some u → w.cell? ((a.add (i * m)).add j) = some u) : ∀ j u, (Cs l)[j]? = some u → w.cell? (a.add j) = some u := by
  obtain ⟨b, o, s⟩ := a
  simp only at ha
  subst ha
  simp only [add_plain] at hl ⊢
  induction l generalizing o with
  | nil => intro j u hj; rw [h0] at hj; simp at hj
  | cons x l ih =>
    intro j u hj
    rw [h1] at hj
    rcases Nat.lt_or_ge j (C x).length with hlt | hge
    · rw [List.getElem?_append_left hlt] at hj
      have := hl 0 x rfl j u hj
      simpa using this
    · rw [List.getElem?_append_right hge] at hj
      have := ih (o + m) (fun i y hy k v hk => by
        have := hl (i + 1) y (by simpa using hy) k v hk
        rw [show o + m + i * m + k = o + (i + 1) * m + k from by rw [Nat.add_mul]; omega]
        exact this) (j - (C x).length) u hj
      rw [hC] at this hge
      rw [show o + m + (j - m) = o + j from by omega] at this
      exact this
theorem add_nought (a : Addr) : a.add 0 = a := by unfold Addr.add; simp
/-- A row of structs whose cells are told one by one. -/
theorem rows_src {α : Type} {w : World} {A : Option Addr} {n m : Nat} {C : α → List Value} {Cs : List α → List Value} {l : List α} (h0 : Cs [] = []) (h1 : ∀ x l, Cs (x :: l) = C x ++ Cs l) (hC : ∀ x, (C x).length = m) (hk : ∀ x, ∃ k z, (C x)[0]? = some (.int k z)) (hl : l.length = n)
    (hx : ∀ i x, l[i]? = some x → ∃ a, A = some a ∧ ∀ j u, (C x)[j]? = some u → w.cell? ((a.add (i * m)).add j) = some u) : Src w A (Cs l) ∧ (0 < n → ∀ ad, A = some ad → ad.spot = none) := by
  have key : 0 < n → ∃ a, A = some a ∧ a.spot = none ∧ a.block < w.heap.size := fun h => by
    obtain ⟨a, rfl, hc⟩ := hx 0 _ (List.getElem?_eq_getElem (by omega))
    obtain ⟨k, z, hz⟩ := hk (l[0]'(by omega))
    have c0 := hc 0 _ hz
    rw [Nat.zero_mul, add_nought, add_nought] at c0
    have hs := rspot_none c0
    obtain ⟨b, o, s⟩ := a
    simp only at hs
    subst hs
    exact ⟨_, rfl, rfl, block_lt_of_cell c0⟩
  refine ⟨fun hp => ?_, fun h ad e => ?_⟩
  · have hn : 0 < n := by
      rcases Nat.eq_zero_or_pos n with h | h
      · exfalso
        have : l = [] := List.eq_nil_of_length_eq_zero (by omega)
        rw [this, h0] at hp
        simp at hp
      · exact h
    obtain ⟨a, rfl, hs, hb⟩ := key hn
    refine ⟨a, rfl, hb, src_rows C Cs h0 h1 hC l hs fun i x hi => ?_⟩
    obtain ⟨_, e, hc⟩ := hx i x hi
    injection e with e
    subst e
    exact hc
  · obtain ⟨a, e', hs, _⟩ := key h
    rw [e] at e'
    injection e' with e'
    subst e'
    exact hs
end Go.Proofs.YtbkfhndmeljlcaaGreatDoor
namespace Go.Proofs.YtbkfhndmeljlcaaGreatDoor
open Go.RowKit
/-- Some text of at most so many bytes. -/
def TxtPost (m : Nat) (w : World) (e : Ending) (w' : World) : Prop := ∃ s : ByteArray, e = .returned (.string s) ∧ s.size ≤ m ∧ Chg [] w w'
theorem encode_le4 (i : Int) : (Utf8.encode i).size ≤ 4 := encode_size_le i
set_option maxHeartbeats 1000000 in
set_option maxRecDepth 100000 in
theorem digits_any : ∀ (k n : Nat), n < 10 ^ (k + 1) → k ≤ 10 → ∀ w : World, Calls Tryz.prog 62 #[.int .i64 (n : Int)] w (TxtPost (4 * (k + 1)) w)
  | k, n, hn, hk, w => by
    have hp : 10 ^ (k + 1) ≤ 10 ^ 11 := Nat.pow_le_pow_right (by omega) (by omega)
    have hn2 : n < 100000000000 := Nat.lt_of_lt_of_le hn hp
    clear hp
    by_cases h10 : 10 ≤ n
    · match k, hn, hk with
      | 0, hn, hk => omega
      | k + 1, hn, hk =>
        have IH := Lib.hid (fun W => digits_any k (n / 10) (by rw [Nat.pow_succ] at hn; omega) (by omega) W)
        have hq : (n : Int).tdiv 10 = ((n / 10 : Nat) : Int) := rfl
        have hr : (n : Int).tmod 10 = ((n % 10 : Nat) : Int) := rfl
        generalize hgr : n % 10 = r at hr
        have hr9 : r < 10 := by omega
        have hq9 : n / 10 < 100000000000 := by omega
        generalize n / 10 = q at *
        clear hn hgr
        go_enter Tryz.func62, Tryz.ntmps62
        go_wp2_with fail
        refine (IH.out _).mono ?_
        rintro e w1 ⟨s, rfl, hs, hc⟩
        obtain ⟨y, hy⟩ : ∃ y, s ++ Utf8.encode (48 + (r : Int)) = y := ⟨_, rfl⟩
        have hys : y.size ≤ 4 * (k + 1 + 1) := by rw [← hy, ByteArray.size_append']; have := encode_le4 (48 + (r : Int)); omega
        have hadd : (Op.stringOp .add s (Utf8.encode (48 + (r : Int)))).run Tryz.prog w1 = .ok (.string y) w1 := by
          rw [← hy]; exact run_string_add_sum _ _ _ (by have := encode_le4 (48 + (r : Int)); omega)
        clear hy
        go_wp2_with fail
        go_ret
        exact ⟨y, rfl, hys, hc⟩
    · go_enter Tryz.func62, Tryz.ntmps62
      go_wp2_with fail
      go_ret
      exact ⟨_, rfl, by have := encode_le4 (48 + (n : Int)); omega, Chg.refl _ _⟩
/-- Yes or no. -/
def AnyB (w : World) (e : Ending) (w' : World) : Prop := ∃ b : Bool, e = .returned (.bool b) ∧ w = w'
set_option maxHeartbeats 1000000 in
set_option maxRecDepth 100000 in
theorem halts_any (s : ByteArray) (w : World) (hs : s.size ≤ 1000000) : Calls Tryz.prog 36 #[.string s] w (AnyB w) := by
  by_cases h : 2 < s.size
  · have hd : decide (2 < s.size) = true := by simpa using h
    go_enter Tryz.func36, Tryz.ntmps36
    go_wp2_with fail
    go_ret
    exact ⟨_, rfl, rfl⟩
  · have hd : decide (2 < s.size) = false := by simpa using h
    go_enter Tryz.func36, Tryz.ntmps36
    go_wp2_with fail
    go_ret
    exact ⟨_, rfl, rfl⟩
set_option maxHeartbeats 1000000 in
set_option maxRecDepth 100000 in
theorem live_any (s : ByteArray) (w : World) (hs : s.size ≤ 1000000) : Calls Tryz.prog 63 #[.string s] w fun e w' => ∃ t : ByteArray, e = .returned (.string t) ∧ t.size ≤ s.size ∧ w = w' := by
  have HH := Lib.hid (halts_any s w hs)
  go_enter Tryz.func63, Tryz.ntmps63
  go_wp2_with fail
  refine HH.out.mono ?_
  rintro e w1 ⟨b, rfl, hw⟩
  cases b
  · go_wp2_with fail
    go_ret
    exact ⟨_, rfl, by first | exact Nat.le_refl _ | exact Nat.zero_le _, hw⟩
  · go_wp2_with fail
    go_ret
    exact ⟨_, rfl, by first | exact Nat.le_refl _ | exact Nat.zero_le _, hw⟩
end Go.Proofs.YtbkfhndmeljlcaaGreatDoor
namespace Go.Proofs.YtbkfhndmeljlcaaGreatDoor
open Go.RowKit
/-- The tape goes on, all else stays. -/
structure TapeQ (p : Nat) (A : Option Addr) (n c : Nat) (l : List Int) (a b : World) : Prop where
  chg : Chg [p] a b
  tp : ∀ i, Tp a p A n c l i → ∃ j, Tp b p A n c l j
section
variable {p n c : Nat} {A : Option Addr} {l : List Int}
theorem TapeQ.refl (a : World) : TapeQ p A n c l a a := ⟨Chg.refl _ _, fun i h => ⟨i, h⟩⟩
theorem TapeQ.trans {a b d : World} (h : TapeQ p A n c l a b) (k : TapeQ p A n c l b d) : TapeQ p A n c l a d := ⟨h.chg.trans k.chg, fun i hi => by obtain ⟨j, hj⟩ := h.tp i hi; exact k.tp j hj⟩
theorem TapeQ.of_chg {a b : World} (h : Chg [] a b) : TapeQ p A n c l a b := ⟨h.sub (by simp), fun i hi => ⟨i, hi.keep h⟩⟩
def IsTxt (m : Nat) (v : Value) : Prop := ∃ s : ByteArray, v = .string s ∧ s.size ≤ m
def IsNum (m : Nat) (v : Value) : Prop := ∃ r : Nat, v = .int .i64 (r : Int) ∧ r < m
end
end Go.Proofs.YtbkfhndmeljlcaaGreatDoor
namespace Go.Proofs.YtbkfhndmeljlcaaGreatDoor
open Go.RowKit
structure FnV where
  name : Int
  args : Int
  code : ByteArray
def fnC (t : FnV) : List Value := [.int .i32 t.name, .int .i64 t.args, .string t.code]
def fnCs : List FnV → List Value
  | [] => []
  | t :: l => fnC t ++ fnCs l
theorem fnCs_len : ∀ l, (fnCs l).length = l.length * 3
  | [] => rfl
  | t :: l => by rw [fnCs, List.length_append, fnCs_len l]; simp [fnC]; omega
theorem fnCs_app : ∀ l m, fnCs (l ++ m) = fnCs l ++ fnCs m
  | [], _ => rfl
  | t :: l, m => by rw [List.cons_append, fnCs, fnCs, fnCs_app l m, List.append_assoc]
theorem fnCs_one (t : FnV) : fnCs [t] = fnC t := by simp [fnCs]
theorem fnCs_get : ∀ (l : List FnV) (k : Nat) (t : FnV) (j : Nat), l[k]? = some t → j < 3 → (fnCs l)[k * 3 + j]? = (fnC t)[j]?
  | [], k, t, j, h, hj => by simp at h
  | u :: l, 0, t, j, h, hj => by
    simp at h; subst h
    rw [fnCs, List.getElem?_append_left (by simp [fnC]; omega)]
    congr 1; omega
  | u :: l, k + 1, t, j, h, hj => by
    simp at h
    rw [fnCs, List.getElem?_append_right (by simp [fnC]; omega)]
    rw [← fnCs_get l k t j h hj]
    congr 1; simp [fnC]; omega
theorem info_func : (Tryz.prog.info? 58).map (fun i => (i.zero, i.size, i.bytes)) = some (some (.agg #[.int .i32 0, .int .i64 0, .string ⟨#[]⟩]), 3, 32) := by kernel_rfl
/-- The slice value '.slice A n c' is the functions l; they do not lie in block p. -/
structure Fns (W : World) (p : Nat) (A : Option Addr) (n c : Nat) (l : List FnV) : Prop where
  len : l.length = n
  src : Src W A (fnCs l)
  cap : n ≤ c
  max : n ≤ 1000
  spot : 0 < n → ∀ ad, A = some ad → ad.spot = none ∧ ad.block ≠ p
  args : ∀ f ∈ l, 0 ≤ f.args ∧ f.args ≤ 2
section
variable {W W' : World} {p : Nat} {A : Option Addr} {n c : Nat} {l : List FnV}
theorem Fns.keep (h : Fns W p A n c l) (hc : Chg [p] W W') : Fns W' p A n c l := by
  refine ⟨h.len, fun hp => ?_, h.cap, h.max, h.spot, h.args⟩
  obtain ⟨ad, e, hb, hx⟩ := h.src hp
  have hn : 0 < n := by have := h.len; rw [fnCs_len] at hp; omega
  refine ⟨ad, e, Nat.lt_of_lt_of_le hb hc.size, fun j v hj => ?_⟩
  have h1 := hx j v hj
  rw [← h1]
  have e2 : (ad.add j).block = ad.block := by unfold Addr.add; split <;> rfl
  refine World.cell?_of_block (w := W) (hc.block _ (by rw [e2]; exact hb) ?_)
  rw [e2]
  have := (h.spot hn ad e).2
  simpa using this
theorem Fns.cell (h : Fns W p A n c l) {k : Nat} {t : FnV} (hk : l[k]? = some t) : ∃ b o, A = some ⟨b, o, none⟩ ∧ b ≠ p ∧ b < W.heap.size ∧ W.cell? ⟨b, o + k * 3, none⟩ = some (.int .i32 t.name) ∧ W.cell? ⟨b, o + k * 3 + 1, none⟩ = some (.int .i64 t.args) ∧ W.cell? ⟨b, o + k * 3 + 2, none⟩ = some (.string t.code) := by
  have hkl := (List.getElem?_eq_some_iff.1 hk).1
  obtain ⟨⟨b, o, s⟩, e, hb, hx⟩ := h.src (by rw [fnCs_len]; omega)
  obtain ⟨hs, hbp⟩ := h.spot (by have := h.len; omega) _ e
  simp only at hs hbp
  subst hs
  refine ⟨b, o, e, hbp, hb, ?_, ?_, ?_⟩
  · have := hx _ _ ((fnCs_get l k t 0 hk (by omega)).trans rfl); rwa [add_plain] at this
  · have := hx _ _ ((fnCs_get l k t 1 hk (by omega)).trans rfl); rwa [add_plain] at this
  · have := hx _ _ ((fnCs_get l k t 2 hk (by omega)).trans rfl); rwa [add_plain] at this
end
end Go.Proofs.YtbkfhndmeljlcaaGreatDoor
namespace Go.Proofs.YtbkfhndmeljlcaaGreatDoor
open Go.RowKit
structure BkV where
  sign : Int
  base : Int
  other : Int
  left : Bool
/-- The place of the first function of a name. -/
def findK (name : Int) : List FnV → Nat → Option Nat
  | [], _ => none
  | f :: l, k => if f.name = name then some k else findK name l (k + 1)
def findI (l : List FnV) (name : Int) : Int := match findK name l 0 with | some k => (k : Int) | none => -1
theorem findK_at {name : Int} : ∀ {l : List FnV} {k j : Nat}, findK name l k = some j → ∃ f, k ≤ j ∧ l[j - k]? = some f ∧ f.name = name
  | [], k, j, h => by simp [findK] at h
  | f :: l, k, j, h => by
    rw [findK] at h
    by_cases hn : f.name = name
    · rw [if_pos hn] at h; injection h with h; subst h; exact ⟨f, Nat.le_refl _, by simp, hn⟩
    · rw [if_neg hn] at h
      obtain ⟨g, h1, h2, h3⟩ := findK_at h
      refine ⟨g, by omega, ?_, h3⟩
      rw [show j - k = (j - (k + 1)) + 1 from by omega]
      simpa using h2
theorem findK_add {name : Int} : ∀ (l m : List FnV) (k j : Nat), findK name l k = some j → findK name (l ++ m) k = some j
  | [], m, k, j, h => by simp [findK] at h
  | f :: l, m, k, j, h => by
    rw [List.cons_append, findK]
    rw [findK] at h
    by_cases hn : f.name = name
    · rw [if_pos hn] at h ⊢; exact h
    · rw [if_neg hn] at h ⊢; exact findK_add l m (k + 1) j h
def binL : List Nat := [43, 45, 42, 47, 37, 38, 124, 94, 60, 61, 171, 187]
def unL : List Nat := [33, 64, 169, 164, 960]
def zeL : List Nat := [58, 59, 91, 93, 126, 161]
def inL (l : List Nat) (r : Int) : Bool := l.any fun x => (x : Int) == r
/-- What a call takes. -/
def callA (l : List FnV) (name : Int) : Int × Int × Bool :=
  match findK name l 0 with
  | none => (0, 0, false)
  | some k => match l[k]? with
    | none => (0, 0, false)
    | some f => if 0 ≤ f.args ∧ f.args ≤ 4 then (f.args, 1, true) else (0, 0, false)
def rTakes (l : List FnV) (s name : Int) : Int × Int × Bool :=
  if (s = 48 ∨ (97 ≤ s ∧ s ≤ 122)) ∨ s = 35 then (0, 1, true)
  else if (65 ≤ s ∧ s ≤ 90) ∨ s = 44 then (1, 0, true)
  else if s = 46 then (1, 2, true)
  else if inL binL s = true then (2, 1, true)
  else if inL unL s = true then (1, 1, true)
  else if s = 36 ∨ s = 174 then (2, 0, true)
  else if s = 63 then (1, 0, true)
  else if inL zeL s = true then (0, 0, true)
  else if s = 955 then callA l name
  else (0, 0, false)
theorem callA_in (l : List FnV) (name : Int) : 0 ≤ (callA l name).1 ∧ (callA l name).1 ≤ 4 ∧ 0 ≤ (callA l name).2.1 ∧ (callA l name).2.1 ≤ 2 := by
  unfold callA
  split
  · simp
  · split
    · simp
    · split
      · rename_i h; simp; omega
      · simp
theorem rTakes_in (l : List FnV) (s name : Int) : 0 ≤ (rTakes l s name).1 ∧ (rTakes l s name).1 ≤ 4 ∧ 0 ≤ (rTakes l s name).2.1 ∧ (rTakes l s name).2.1 ≤ 2 := by
  unfold rTakes
  repeat' split
  all_goals first | exact callA_in l name | simp
def baseOf (bs : List BkV) : Int := match bs.getLast? with | none => 0 | some b => b.base
/-- : ; ] -/
def rEnds (h : Int) (ys : List BkV) (x : BkV) (r : Int) : Bool × Int × List BkV :=
  if r = 58 then (true, x.base, ys ++ [⟨58, x.base, h, x.left⟩])
  else if x.sign = 58 then (if 0 ≤ x.other ∧ 0 ≤ h ∧ x.other ≠ h then (false, h, ys) else (true, max h x.other, ys))
  else if 0 ≤ h ∧ h ≠ x.base then (false, h, ys)
  else (true, (if x.sign = 91 ∧ x.left = false then -1 else x.base), ys)
/-- ~ -/
def rLeave (h : Int) (bs : List BkV) : Nat → Bool × Int × List BkV
  | 0 => (false, h, bs)
  | k + 1 => match bs[k]? with
    | none => (false, h, bs)
    | some x => if x.sign = 91 then (h == x.base, -1, bs.set k ⟨x.sign, x.base, x.other, true⟩) else rLeave h bs k
def isEnd (s : Int) : Prop := s = 58 ∨ s = 59 ∨ s = 93
instance (s : Int) : Decidable (isEnd s) := by unfold isEnd; exact inferInstance
/-- A token: the fault's number, or the height and the blocks behind it. -/
def rTok (l : List FnV) (h : Int) (bs : List BkV) (s name : Int) : Int × Int × List BkV :=
  if isEnd s then (match bs.getLast? with
    | none => (14, h, bs)
    | some x => match rEnds h bs.dropLast x s with | (true, h', bs') => (0, h', bs') | (false, h', bs') => (14, h', bs'))
  else if h < 0 then (15, h, bs)
  else match rTakes l s name with
    | (_, _, false) => (22, h, bs)
    | (p, g, true) =>
      if h - baseOf bs < p ∨ 64 < h - p + g then (14, h, bs)
      else if s = 63 ∨ s = 91 then (0, h - p + g, bs ++ [⟨s, h - p + g, 0, false⟩])
      else if s = 126 then (match rLeave (h - p + g) bs bs.length with | (true, h', bs') => (0, h', bs') | (false, h', bs') => (14, h', bs'))
      else if s = 161 then (0, -1, bs)
      else (0, h - p + g, bs)
/-- The tokens from one on. -/
def rWalk (l : List FnV) : List TkV → Int → List BkV → List Int → Int × List Int
  | [], h, _, out => if h ≠ 1 ∧ 0 ≤ h then (14, []) else (0, out)
  | t :: ts, h, bs, out => match rTok l h bs t.sign t.name with
    | (e, h', bs') => if e = 0 then rWalk l ts h' bs' (out ++ [h]) else (e, [])
def rFunc (l : List FnV) (code : ByteArray) : Int × List Int :=
  match tokR code with
  | none => (tokE code, [])
  | some ts => match rNest (signs ts) with
    | none => (13, [])
    | some _ => rWalk l ts 0 [] []
/-- How many blocks are open behind a sign. -/
def tokLen (s : Int) (n : Nat) : Nat := if s = 63 ∨ s = 91 then n + 1 else if s = 59 ∨ s = 93 then n - 1 else n
theorem rLeave_len (h : Int) (bs : List BkV) : ∀ k, (rLeave h bs k).2.2.length = bs.length
  | 0 => rfl
  | k + 1 => by
    rw [rLeave]
    split
    · rfl
    · split
      · simp
      · exact rLeave_len h bs k
theorem rTok_len {l : List FnV} {h : Int} {bs : List BkV} {s name : Int} (he : (rTok l h bs s name).1 = 0) : (rTok l h bs s name).2.2.length = tokLen s bs.length := by
  unfold rTok at he ⊢
  by_cases hs : isEnd s
  · rw [if_pos hs] at he ⊢
    rcases List.eq_nil_or_concat bs with rfl | ⟨ys, x, rfl⟩
    · simp at he
    · rw [List.concat_eq_append] at he ⊢
      simp only [List.getLast?_append, List.getLast?_singleton, Option.some_or, List.dropLast_concat, List.length_append, List.length_singleton] at he ⊢
      unfold rEnds at he ⊢
      rcases hs with rfl | rfl | rfl
      · simp [tokLen]
      · simp only [tokLen] at he ⊢
        split <;> simp_all
        all_goals (repeat' split at *) <;> simp_all
      · simp only [tokLen] at he ⊢
        split <;> simp_all
        all_goals (repeat' split at *) <;> simp_all
  · rw [if_neg hs] at he ⊢
    have hn : ¬ s = 59 ∧ ¬ s = 93 := by unfold isEnd at hs; omega
    by_cases hh : h < 0
    · rw [if_pos hh] at he; simp at he
    · rw [if_neg hh] at he ⊢
      rcases hT : rTakes l s name with ⟨p, g, ok⟩
      rw [hT] at he
      cases ok
      · simp at he
      · simp only at he ⊢
        by_cases hb : h - baseOf bs < p ∨ 64 < h - p + g
        · rw [if_pos hb] at he; simp at he
        · rw [if_neg hb] at he ⊢
          by_cases h6 : s = 63 ∨ s = 91
          · rw [if_pos h6]; simp [tokLen, h6]
          · rw [if_neg h6] at he ⊢
            have e : tokLen s bs.length = bs.length := by unfold tokLen; rw [if_neg h6, if_neg (by omega)]
            rw [e]
            by_cases h7 : s = 126
            · rw [if_pos h7] at he ⊢
              have := rLeave_len (h - p + g) bs bs.length
              rcases hR : rLeave (h - p + g) bs bs.length with ⟨b, h', bs'⟩
              rw [hR] at this
              cases b <;> exact this
            · rw [if_neg h7]
              split <;> rfl
end Go.Proofs.YtbkfhndmeljlcaaGreatDoor
namespace Go.Proofs.YtbkfhndmeljlcaaGreatDoor
open Go.RowKit
/-- A unit, as an argument. -/
def unitV (pages most : Int) (A : Option Addr) (n c : Nat) : Value := .agg #[.int .i64 pages, .int .i64 most, .slice A n c]
/-- The slice value '.slice A n c' is the functions l, whatever they are. -/
structure Fnr (W : World) (A : Option Addr) (n c : Nat) (l : List FnV) : Prop where
  len : l.length = n
  src : Src W A (fnCs l)
  cap : n ≤ c
  max : n ≤ 1000
  spot : 0 < n → ∀ ad, A = some ad → ad.spot = none
  args : ∀ f ∈ l, -9223372036854775808 ≤ f.args ∧ f.args ≤ 9223372036854775807
section
variable {W W' : World} {p : Nat} {A : Option Addr} {n c : Nat} {l : List FnV}
theorem Fnr.keep (h : Fnr W A n c l) (hc : Chg [] W W') : Fnr W' A n c l := ⟨h.len, h.src.keep hc, h.cap, h.max, h.spot, h.args⟩
theorem Fnr.cell (h : Fnr W A n c l) {k : Nat} {t : FnV} (hk : l[k]? = some t) : ∃ b o, A = some ⟨b, o, none⟩ ∧ b < W.heap.size ∧ W.cell? ⟨b, o + k * 3, none⟩ = some (.int .i32 t.name) ∧ W.cell? ⟨b, o + k * 3 + 1, none⟩ = some (.int .i64 t.args) ∧ W.cell? ⟨b, o + k * 3 + 2, none⟩ = some (.string t.code) := by
  have hkl := (List.getElem?_eq_some_iff.1 hk).1
  obtain ⟨⟨b, o, s⟩, e, hb, hx⟩ := h.src (by rw [fnCs_len]; omega)
  obtain rfl : s = none := h.spot (by have := h.len; omega) _ e
  refine ⟨b, o, e, hb, ?_, ?_, ?_⟩
  · have := hx _ _ ((fnCs_get l k t 0 hk (by omega)).trans rfl); rwa [add_plain] at this
  · have := hx _ _ ((fnCs_get l k t 1 hk (by omega)).trans rfl); rwa [add_plain] at this
  · have := hx _ _ ((fnCs_get l k t 2 hk (by omega)).trans rfl); rwa [add_plain] at this
end
section
variable {w : World} {A : Option Addr} {n c : Nat} {l : List FnV} {pages most : Int}
def FindPost (i : Int) (w : World) (e : Ending) (w' : World) : Prop := e = .returned (.int .i64 i) ∧ Chg [] w w'
set_option maxHeartbeats 2000000 in
set_option maxRecDepth 100000 in
theorem find_any (h : Fnr w A n c l) (name : Int) : Calls Tryz.prog 80 #[unitV pages most A n c, .int .i32 name] w (FindPost (findI l name) w) := by
  unfold unitV
  have hmax := h.max
  have H := Lib.hid h
  have HL := Lib.hid h.len
  have HI := Lib.hid (show findK name l 0 = findK name (l.drop 0) 0 from rfl)
  have HN := Lib.hid (show findI l name = match findK name l 0 with | some k => (k : Int) | none => -1 from rfl)
  generalize findI l name = fi at HN ⊢
  clear h
  go_enter Tryz.func80, Tryz.ntmps80
  go_upto_region 1 with fail
  have hN := Whole.new w 24 [.int .i64 pages, .int .i64 most, .slice A n c]
  have hal : Chg [] w (w.alloc (.cells #[.int .i64 pages, .int .i64 most, .slice A n c] 24)) := (Chg.refl [] w).alloc _
  have c2 := hN.cell 2
  have HN := Lib.hid hN
  have HC := Lib.hid hal
  have HF := Lib.hid (H.out.keep hal)
  obtain ⟨g, hg⟩ : ∃ g, g = w.heap.size := ⟨_, rfl⟩
  rw [← hg] at c2 ⊢
  generalize w.alloc (.cells #[.int .i64 pages, .int .i64 most, .slice A n c] 24) = w1 at c2 HC HF ⊢
  clear hN hal hg HN
  go_wp2_with fail
  go_loopw [9] (fun i wr => ∃ k : Nat, i = .int .i64 (k : Int) ∧ k ≤ n ∧ Hid (findK name l 0 = findK name (l.drop k) k) ∧ wr = w1) (fun i _ => n - (intOf i).toNat)
  case atStart => exact ⟨0, rfl, by omega, HI, rfl⟩
  case round =>
    obtain ⟨k, rfl, hk, HK, hwr⟩ := hrel
    subst hwr
    by_cases hkn : k < n
    · have hkI : (k : Int) < (n : Int) := by omega
      obtain ⟨t, htk⟩ : ∃ t, l[k]? = some t := ⟨l[k]'(by rw [HF.out.len]; exact hkn), by simp⟩
      have HD := Lib.hid (show l.drop k = t :: l.drop (k + 1) from List.drop_eq_getElem?_toList_append.trans (by rw [htk]; rfl))
      obtain ⟨fb, fo, rfl, hfbl, e0, e1, e2⟩ := HF.out.cell htk
      clear htk e1 e2
      by_cases hnm : t.name = name
      · have hq : (t.name == name) = true := by simpa using hnm
        have HP := Lib.hid (show FindPost fi w (.returned (.int .i64 (k : Int))) wr from ⟨by rw [HN.out, HK.out, HD.out, findK, if_pos hnm], HC.out⟩)
        clear hnm
        go_wp2_with fail
        go_ret
        exact HP.out
      · have hq : (t.name == name) = false := by simpa using hnm
        have HK2 := Lib.hid (show findK name l 0 = findK name (l.drop (k + 1)) (k + 1) from by rw [HK.out, HD.out, findK, if_neg hnm])
        go_wp2_with fail
        go_roundw
        case rel => exact ⟨k + 1, by go_num, by omega, HK2, by first | rfl | trivial⟩
        case measure => simp [intOf]; omega
    · have hkI : (n : Int) ≤ (k : Int) := by omega
      have HP := Lib.hid (show FindPost fi w (.returned (.int .i64 (-1))) wr from ⟨by rw [HN.out, HK.out, List.drop_eq_nil_of_le (by rw [HL.out]; omega)]; rfl, HC.out⟩)
      go_wp2_with fail
      go_ret
      exact HP.out
end
end Go.Proofs.YtbkfhndmeljlcaaGreatDoor
namespace Go.Proofs.YtbkfhndmeljlcaaGreatDoor
open Go.RowKit Go.ChangeShapes Go.WideShapes Go.Deep
/-- The slice value '.slice A n c' is the functions l, however many. -/
structure Fnw (W : World) (A : Option Addr) (n c : Nat) (l : List FnV) : Prop where
  len : l.length = n
  src : Src W A (fnCs l)
  cap : n ≤ c
  max : c ≤ maxLen
  spot : 0 < n → ∀ ad, A = some ad → ad.spot = none
  ok : ∀ f ∈ l, (-9223372036854775808 ≤ f.args ∧ f.args ≤ 9223372036854775807) ∧ f.code.size ≤ maxLen
theorem Fnw.keep {W W' : World} {A : Option Addr} {n c : Nat} {l : List FnV} (h : Fnw W A n c l) (hc : Chg [] W W') : Fnw W' A n c l := ⟨h.len, h.src.keep hc, h.cap, h.max, h.spot, h.ok⟩
theorem Fnw.small {W : World} {A : Option Addr} {n c : Nat} {l : List FnV} (h : Fnw W A n c l) (hn : n ≤ 1000) : Fnr W A n c l := ⟨h.len, h.src, h.cap, hn, h.spot, fun f hf => (h.ok f hf).1⟩
theorem func_fields : ∃ fs, Tryz.prog.underlying 58 = some (.struct fs) ∧ oneCellFields Tryz.prog fs = true ∧ fs.map (·.type) = #[21, 3, 9] :=
  ⟨_, Tryz.underlying58, by kernel_rfl, by kernel_rfl⟩
theorem three_list {α : Type} {l : List α} (h : l.length = 3) : ∃ a b c, l = [a, b, c] := by
  match l, h with
  | [a, b, c], _ => exact ⟨a, b, c, rfl⟩
section
variable {H : Type} {enc : TypeId × Value → H} {w : World} {base : Nat} {held : Bool}
theorem funcs_open {fuel : Nat} {cs : List Value} {x : DataW H × List MemPlace} (h : DataW.trod enc Tryz.prog w base (fun _ => true) held fuel 22 cs = some x) (v : Value) (hv : cs = [v]) :
    ∃ A n c l, v = .slice A n c ∧ Fnw w A n c l := by
  obtain ⟨fs, hu, hone, hty⟩ := func_fields
  have hfs : fs.size = 3 := by have := congrArg Array.size hty; simpa using this
  obtain ⟨A, n, c, rfl, hnc, hcm, hrow⟩ := rows_open Tryz.underlying22 hu hone hfs (by kernel_rfl) h v hv
  have key : ∀ i, i < n → ∃ q : FnV, ((-9223372036854775808 ≤ q.args ∧ q.args ≤ 9223372036854775807) ∧ q.code.size ≤ maxLen) ∧ ∃ a, A = some a ∧ ∀ j u, (fnC q)[j]? = some u → w.cell? ((a.add (i * 3)).add j) = some u := by
    intro i hi
    obtain ⟨a, us, rfl, hl, hc, hf⟩ := hrow i hi
    obtain ⟨v0, v1, v2, rfl⟩ := three_list hl
    obtain ⟨f0, g0, t0⟩ := rfield_at hty 0 _ rfl
    obtain ⟨f1, g1, t1⟩ := rfield_at hty 1 _ rfl
    obtain ⟨f2, g2, t2⟩ := rfield_at hty 2 _ rfl
    obtain ⟨_, _, q0⟩ := hf 0 _ _ g0 rfl
    obtain ⟨_, _, q1⟩ := hf 1 _ _ g1 rfl
    obtain ⟨_, _, q2⟩ := hf 2 _ _ g2 rfl
    rw [t0] at q0; rw [t1] at q1; rw [t2] at q2
    obtain ⟨z0, e0, _, w0⟩ := DataW.trod_int Tryz.underlying21 q0
    obtain ⟨z1, e1, _, w1⟩ := DataW.trod_int Tryz.underlying3 q1
    obtain ⟨s2, e2, _, w2⟩ := DataW.trod_string Tryz.underlying9 q2
    simp only [List.cons.injEq, and_true] at e0 e1 e2
    subst e0 e1 e2
    exact ⟨⟨z0, z1, s2⟩, ⟨arg_i64 w1, w2⟩, a, rfl, hc⟩
  obtain ⟨l, hll, hlx⟩ := dlist_of n key
  obtain ⟨hsrc, hsp⟩ := rows_src (C := fnC) (Cs := fnCs) rfl (fun _ _ => rfl) (fun _ => rfl) (fun _ => ⟨_, _, rfl⟩) hll (fun i x hx => (hlx i x hx).2)
  refine ⟨A, n, c, l, rfl, ⟨hll, hsrc, hnc, hcm, hsp, fun q hq => ?_⟩⟩
  obtain ⟨i, hi, rfl⟩ := List.getElem_of_mem hq
  exact (hlx i _ (List.getElem?_eq_getElem hi)).1
end
end Go.Proofs.YtbkfhndmeljlcaaGreatDoor
