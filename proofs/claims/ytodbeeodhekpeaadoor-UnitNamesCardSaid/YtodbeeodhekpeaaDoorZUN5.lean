/-
  UN: Digits, TapeFlow, Txt, FnRow.
-/
import Derived.Test.YtodbeeodhekpeaaDoorZUN2
import Derived.Test.YtodbeeodhekpeaaDoorZUN3
import Derived.Test.YtodbeeodhekpeaaDoorZUN4
import Derived.Laws.Cover4
import Derived.Test.YtodbeeodhekpeaaDoorChecked
import Derived.Deep.QuietTactic
import Derived.BigQuiet
import Derived.Laws.BitsAllLaws
import Derived.Deep.RegionLaw
namespace Go.Proofs.YtodbeeodhekpeaaDoor
open Go.RowKit
/-- Some text of at most so many bytes. -/
def TxtPost (m : Nat) (w : World) (e : Ending) (w' : World) : Prop := ∃ s : ByteArray, e = .returned (.string s) ∧ s.size ≤ m ∧ Chg [] w w'
theorem encode_le4 (i : Int) : (Utf8.encode i).size ≤ 4 := encode_size_le i
set_option maxHeartbeats 1000000 in
set_option maxRecDepth 100000 in
theorem digits_any : ∀ (k n : Nat), n < 10 ^ (k + 1) → k ≤ 10 → ∀ w : World, Calls Tryd.prog 45 #[.int .i64 (n : Int)] w (TxtPost (4 * (k + 1)) w)
  | k, n, hn, hk, w => by
    have hp : 10 ^ (k + 1) ≤ 10 ^ 11 := Nat.pow_le_pow_right (by omega) (by omega)
    have hn2 : n < 100000000000 := Nat.lt_of_lt_of_le hn hp
    clear hp
    by_cases h10 : 10 ≤ n
    · match k, hn, hk with
      | 0, hn, hk => omega
      | k + 1, hn, hk =>
        have IH := Lib.hid (fun W => digits_any k (n / 10) (by rw [Nat.pow_succ] at hn; omega) (by omega) W)
        have hq : (n : Int).tdiv 10 = ((n / 10 : Nat) : Int) := rfl
        have hr : (n : Int).tmod 10 = ((n % 10 : Nat) : Int) := rfl
        generalize hgr : n % 10 = r at hr
        have hr9 : r < 10 := by omega
        have hq9 : n / 10 < 100000000000 := by omega
        generalize n / 10 = q at *
        clear hn hgr
        go_enter Tryd.func45, Tryd.ntmps45
        go_wp2_with fail
        refine (IH.out _).mono ?_
        rintro e w1 ⟨s, rfl, hs, hc⟩
        obtain ⟨y, hy⟩ : ∃ y, s ++ Utf8.encode (48 + (r : Int)) = y := ⟨_, rfl⟩
        have hys : y.size ≤ 4 * (k + 1 + 1) := by rw [← hy, ByteArray.size_append']; have := encode_le4 (48 + (r : Int)); omega
        have hadd : (Op.stringOp .add s (Utf8.encode (48 + (r : Int)))).run Tryd.prog w1 = .ok (.string y) w1 := by
          rw [← hy]; exact run_string_add_sum _ _ _ (by have := encode_le4 (48 + (r : Int)); omega)
        clear hy
        go_wp2_with fail
        go_ret
        exact ⟨y, rfl, hys, hc⟩
    · go_enter Tryd.func45, Tryd.ntmps45
      go_wp2_with fail
      go_ret
      exact ⟨_, rfl, by have := encode_le4 (48 + (n : Int)); omega, Chg.refl _ _⟩
/-- Yes or no. -/
def AnyB (w : World) (e : Ending) (w' : World) : Prop := ∃ b : Bool, e = .returned (.bool b) ∧ w = w'
set_option maxHeartbeats 1000000 in
set_option maxRecDepth 100000 in
theorem halts_any (s : ByteArray) (w : World) (hs : s.size ≤ 1000000) : Calls Tryd.prog 26 #[.string s] w (AnyB w) := by
  by_cases h : 2 < s.size
  · have hd : decide (2 < s.size) = true := by simpa using h
    go_enter Tryd.func26, Tryd.ntmps26
    go_wp2_with fail
    go_ret
    exact ⟨_, rfl, rfl⟩
  · have hd : decide (2 < s.size) = false := by simpa using h
    go_enter Tryd.func26, Tryd.ntmps26
    go_wp2_with fail
    go_ret
    exact ⟨_, rfl, rfl⟩
set_option maxHeartbeats 1000000 in
set_option maxRecDepth 100000 in
theorem live_any (s : ByteArray) (w : World) (hs : s.size ≤ 1000000) : Calls Tryd.prog 46 #[.string s] w fun e w' => ∃ t : ByteArray, e = .returned (.string t) ∧ t.size ≤ s.size ∧ w = w' := by
  have HH := Lib.hid (halts_any s w hs)
  go_enter Tryd.func46, Tryd.ntmps46
  go_wp2_with fail
  refine HH.out.mono ?_
  rintro e w1 ⟨b, rfl, hw⟩
  cases b
  · go_wp2_with fail
    go_ret
    exact ⟨_, rfl, by first | exact Nat.le_refl _ | exact Nat.zero_le _, hw⟩
  · go_wp2_with fail
    go_ret
    exact ⟨_, rfl, by first | exact Nat.le_refl _ | exact Nat.zero_le _, hw⟩
end Go.Proofs.YtodbeeodhekpeaaDoor
namespace Go.Proofs.YtodbeeodhekpeaaDoor
open Go.RowKit
def nochg : List UInt8 := [110, 111, 32, 99, 104, 97, 110, 103, 101, 115]
/-- The tape goes on, rows of that constant are marked from B on, all else stays. -/
structure TapeR (p B : Nat) (A : Option Addr) (n c : Nat) (l : List Int) (a b : World) : Prop where
  os : b.os = a.os
  tape : b.tape = a.tape
  output : b.output = a.output
  size : a.heap.size ≤ b.heap.size
  block : ∀ k, k < a.heap.size → k ≠ p → b.heap[k]? = a.heap[k]? ∨ (B ≤ k ∧ ∃ fz fz', a.heap[k]? = some (.cells (bts nochg).toArray 5 fz) ∧ b.heap[k]? = some (.cells (bts nochg).toArray 5 fz'))
  tp : ∀ i, Tp a p A n c l i → ∃ j, Tp b p A n c l j
/-- What lies below B stays, but for the tape. -/
structure TapeH (p B : Nat) (A : Option Addr) (n c : Nat) (l : List Int) (a b : World) : Prop where
  os : b.os = a.os
  tape : b.tape = a.tape
  output : b.output = a.output
  size : a.heap.size ≤ b.heap.size
  block : ∀ k, k < B → k < a.heap.size → k ≠ p → b.heap[k]? = a.heap[k]?
  tp : ∀ i, Tp a p A n c l i → ∃ j, Tp b p A n c l j
section
variable {p B B3 n c : Nat} {A : Option Addr} {l : List Int}
theorem TapeR.of_chg {a b : World} (h : Chg [] a b) : TapeR p B A n c l a b := ⟨h.os, h.tape, h.output, h.size, fun k hk _ => .inl (h.block k hk (by simp)), fun i hi => ⟨i, hi.keep h⟩⟩
theorem TapeR.next {a b : World} (h : Chg [p] a b) {j : Nat} (ht : Tp b p A n c l j) : TapeR p B A n c l a b := ⟨h.os, h.tape, h.output, h.size, fun k hk hp => .inl (h.block k hk (by simpa using hp)), fun _ _ => ⟨j, ht⟩⟩
theorem TapeR.refl (a : World) : TapeR p B A n c l a a := .of_chg (Chg.refl _ _)
theorem TapeR.trans {a b d : World} (h : TapeR p B A n c l a b) (k : TapeR p B A n c l b d) : TapeR p B A n c l a d := by
  refine ⟨k.os.trans h.os, k.tape.trans h.tape, k.output.trans h.output, Nat.le_trans h.size k.size, fun i hi hp => ?_, fun i hi => by obtain ⟨j, hj⟩ := h.tp i hi; exact k.tp j hj⟩
  rcases h.block i hi hp with h1 | ⟨hB, fz, fz', h1, h2⟩
  · rcases k.block i (Nat.lt_of_lt_of_le hi h.size) hp with k1 | ⟨hB, fz, fz', k1, k2⟩
    · exact .inl (k1.trans h1)
    · exact .inr ⟨hB, fz, fz', by rw [← h1]; exact k1, k2⟩
  · rcases k.block i (Nat.lt_of_lt_of_le hi h.size) hp with k1 | ⟨_, fz2, fz3, k1, k2⟩
    · exact .inr ⟨hB, fz, fz', h1, k1.trans h2⟩
    · exact .inr ⟨hB, fz, fz3, h1, k2⟩
theorem TapeR.h {a b : World} (h : TapeR p B A n c l a b) (hB : B3 ≤ B) : TapeH p B3 A n c l a b :=
  ⟨h.os, h.tape, h.output, h.size, fun k h3 hk hp => (h.block k hk hp).elim id fun ⟨hb, _⟩ => by omega, h.tp⟩
theorem TapeH.trans {a b d : World} (h : TapeH p B A n c l a b) (k : TapeH p B A n c l b d) : TapeH p B A n c l a d :=
  ⟨k.os.trans h.os, k.tape.trans h.tape, k.output.trans h.output, Nat.le_trans h.size k.size, fun i hB hi hp => (k.block i hB (Nat.lt_of_lt_of_le hi h.size) hp).trans (h.block i hB hi hp), fun i hi => by obtain ⟨j, hj⟩ := h.tp i hi; exact k.tp j hj⟩
theorem TapeH.whole {a b : World} (h : TapeH p B A n c l a b) {g t : Nat} {cs : List Value} (hW : Whole a g t cs) (hg : g < B) (hp : g ≠ p) : Whole b g t cs := (h.block g hg hW.lt hp).trans hW
theorem TapeH.chg {a b : World} (h : TapeH p B A n c l a b) (hB : a.heap.size ≤ B) : Chg [p] a b := ⟨h.os, h.tape, h.output, h.size, fun k hk hn => h.block k (by omega) hk (by simpa using hn)⟩
theorem TapeH.after {a b W : World} (h1 : Chg [p] a b) (h2 : TapeH p B A n c l b W) (hB : a.heap.size ≤ B) : Chg [p] a W :=
  ⟨h2.os.trans h1.os, h2.tape.trans h1.tape, h2.output.trans h1.output, Nat.le_trans h1.size h2.size, fun k hk hn => (h2.block k (by omega) (Nat.lt_of_lt_of_le hk h1.size) (by simpa using hn)).trans (h1.block k hk hn)⟩
theorem tf_lt {W : World} {g : Nat} {o : Obj} (h : W.heap[g]? = some o) : g < W.heap.size := by
  rcases Nat.lt_or_ge g W.heap.size with hlt | hge
  · exact hlt
  · rw [Array.getElem?_eq_none hge] at h; cases h
end
end Go.Proofs.YtodbeeodhekpeaaDoor
namespace Go.Proofs.YtodbeeodhekpeaaDoor
open Go.RowKit
/-- The tape goes on, all else stays. -/
structure TapeQ (p : Nat) (A : Option Addr) (n c : Nat) (l : List Int) (a b : World) : Prop where
  chg : Chg [p] a b
  tp : ∀ i, Tp a p A n c l i → ∃ j, Tp b p A n c l j
section
variable {p n c : Nat} {A : Option Addr} {l : List Int}
theorem TapeQ.refl (a : World) : TapeQ p A n c l a a := ⟨Chg.refl _ _, fun i h => ⟨i, h⟩⟩
theorem TapeQ.trans {a b d : World} (h : TapeQ p A n c l a b) (k : TapeQ p A n c l b d) : TapeQ p A n c l a d := ⟨h.chg.trans k.chg, fun i hi => by obtain ⟨j, hj⟩ := h.tp i hi; exact k.tp j hj⟩
theorem TapeQ.of_chg {a b : World} (h : Chg [] a b) : TapeQ p A n c l a b := ⟨h.sub (by simp), fun i hi => ⟨i, hi.keep h⟩⟩
def IsTxt (m : Nat) (v : Value) : Prop := ∃ s : ByteArray, v = .string s ∧ s.size ≤ m
def IsNum (m : Nat) (v : Value) : Prop := ∃ r : Nat, v = .int .i64 (r : Int) ∧ r < m
end
end Go.Proofs.YtodbeeodhekpeaaDoor
namespace Go.Proofs.YtodbeeodhekpeaaDoor
open Go.RowKit
structure FnV where
  name : Int
  args : Int
  code : ByteArray
def fnC (t : FnV) : List Value := [.int .i32 t.name, .int .i64 t.args, .string t.code]
def fnCs : List FnV → List Value
  | [] => []
  | t :: l => fnC t ++ fnCs l
theorem fnCs_len : ∀ l, (fnCs l).length = l.length * 3
  | [] => rfl
  | t :: l => by rw [fnCs, List.length_append, fnCs_len l]; simp [fnC]; omega
theorem fnCs_app : ∀ l m, fnCs (l ++ m) = fnCs l ++ fnCs m
  | [], _ => rfl
  | t :: l, m => by rw [List.cons_append, fnCs, fnCs, fnCs_app l m, List.append_assoc]
theorem fnCs_one (t : FnV) : fnCs [t] = fnC t := by simp [fnCs]
theorem fnCs_get : ∀ (l : List FnV) (k : Nat) (t : FnV) (j : Nat), l[k]? = some t → j < 3 → (fnCs l)[k * 3 + j]? = (fnC t)[j]?
  | [], k, t, j, h, hj => by simp at h
  | u :: l, 0, t, j, h, hj => by
    simp at h; subst h
    rw [fnCs, List.getElem?_append_left (by simp [fnC]; omega)]
    congr 1; omega
  | u :: l, k + 1, t, j, h, hj => by
    simp at h
    rw [fnCs, List.getElem?_append_right (by simp [fnC]; omega)]
    rw [← fnCs_get l k t j h hj]
    congr 1; simp [fnC]; omega
theorem info_func : (Tryd.prog.info? 32).map (fun i => (i.zero, i.size, i.bytes)) = some (some (.agg #[.int .i32 0, .int .i64 0, .string ⟨#[]⟩]), 3, 32) := by kernel_rfl
/-- The slice value '.slice A n c' is the functions l; they do not lie in block p. -/
structure Fns (W : World) (p : Nat) (A : Option Addr) (n c : Nat) (l : List FnV) : Prop where
  len : l.length = n
  src : Src W A (fnCs l)
  cap : n ≤ c
  max : n ≤ 1000
  spot : 0 < n → ∀ ad, A = some ad → ad.spot = none ∧ ad.block ≠ p
  args : ∀ f ∈ l, 0 ≤ f.args ∧ f.args ≤ 2
section
variable {W W' : World} {p : Nat} {A : Option Addr} {n c : Nat} {l : List FnV}
theorem Fns.keep (h : Fns W p A n c l) (hc : Chg [p] W W') : Fns W' p A n c l := by
  refine ⟨h.len, fun hp => ?_, h.cap, h.max, h.spot, h.args⟩
  obtain ⟨ad, e, hb, hx⟩ := h.src hp
  have hn : 0 < n := by have := h.len; rw [fnCs_len] at hp; omega
  refine ⟨ad, e, Nat.lt_of_lt_of_le hb hc.size, fun j v hj => ?_⟩
  have h1 := hx j v hj
  rw [← h1]
  have e2 : (ad.add j).block = ad.block := by unfold Addr.add; split <;> rfl
  refine World.cell?_of_block (w := W) (hc.block _ (by rw [e2]; exact hb) ?_)
  rw [e2]
  have := (h.spot hn ad e).2
  simpa using this
theorem Fns.cell (h : Fns W p A n c l) {k : Nat} {t : FnV} (hk : l[k]? = some t) : ∃ b o, A = some ⟨b, o, none⟩ ∧ b ≠ p ∧ b < W.heap.size ∧ W.cell? ⟨b, o + k * 3, none⟩ = some (.int .i32 t.name) ∧ W.cell? ⟨b, o + k * 3 + 1, none⟩ = some (.int .i64 t.args) ∧ W.cell? ⟨b, o + k * 3 + 2, none⟩ = some (.string t.code) := by
  have hkl := (List.getElem?_eq_some_iff.1 hk).1
  obtain ⟨⟨b, o, s⟩, e, hb, hx⟩ := h.src (by rw [fnCs_len]; omega)
  obtain ⟨hs, hbp⟩ := h.spot (by have := h.len; omega) _ e
  simp only at hs hbp
  subst hs
  refine ⟨b, o, e, hbp, hb, ?_, ?_, ?_⟩
  · have := hx _ _ ((fnCs_get l k t 0 hk (by omega)).trans rfl); rwa [add_plain] at this
  · have := hx _ _ ((fnCs_get l k t 1 hk (by omega)).trans rfl); rwa [add_plain] at this
  · have := hx _ _ ((fnCs_get l k t 2 hk (by omega)).trans rfl); rwa [add_plain] at this
end
end Go.Proofs.YtodbeeodhekpeaaDoor
