/-
  EC: Digits, TapeFlow, Txt, FnRow, Tokens, StPure, Find.
-/
import Derived.Test.YtfhgnoajfipjdaaZEC1
import Derived.Test.YtfhgnoajfipjdaaZEC4
import Derived.Test.YtfhgnoajfipjdaaZEC5
import Derived.Test.YtfhgnoajfipjdaaZEC6
import Derived.Laws.Cover4
import Derived.Test.YtfhgnoajfipjdaaChecked
import Derived.Deep.QuietTactic
import Derived.BigQuiet
import Derived.Laws.BitsAllLaws
import Derived.Deep.RegionLaw
namespace Go.Proofs.Ytfhgnoajfipjdaa
open Go.RowKit
/-- Some text of at most so many bytes. -/
def TxtPost (m : Nat) (w : World) (e : Ending) (w' : World) : Prop := ∃ s : ByteArray, e = .returned (.string s) ∧ s.size ≤ m ∧ Chg [] w w'
theorem encode_le4 (i : Int) : (Utf8.encode i).size ≤ 4 := encode_size_le i
set_option maxHeartbeats 1000000 in
theorem digits_any : ∀ (k n : Nat), n < 10 ^ (k + 1) → k ≤ 10 → ∀ w : World, Calls Try.prog 91 #[.int .i64 (n : Int)] w (TxtPost (4 * (k + 1)) w)
  | k, n, hn, hk, w => by
    have hp : 10 ^ (k + 1) ≤ 10 ^ 11 := Nat.pow_le_pow_right (by omega) (by omega)
    have hn2 : n < 100000000000 := Nat.lt_of_lt_of_le hn hp
    clear hp
    by_cases h10 : 10 ≤ n
    · match k, hn, hk with
      | 0, hn, hk => omega
      | k + 1, hn, hk =>
        have IH := Lib.hid (fun W => digits_any k (n / 10) (by rw [Nat.pow_succ] at hn; omega) (by omega) W)
        have hq : (n : Int).tdiv 10 = ((n / 10 : Nat) : Int) := rfl
        have hr : (n : Int).tmod 10 = ((n % 10 : Nat) : Int) := rfl
        generalize hgr : n % 10 = r at hr
        have hr9 : r < 10 := by omega
        have hq9 : n / 10 < 100000000000 := by omega
        generalize n / 10 = q at *
        clear hn hgr
        go_enter Try.func91, Try.ntmps91
        go_wp2_with fail
        refine (IH.out _).mono ?_
        rintro e w1 ⟨s, rfl, hs, hc⟩
        obtain ⟨y, hy⟩ : ∃ y, s ++ Utf8.encode (48 + (r : Int)) = y := ⟨_, rfl⟩
        have hys : y.size ≤ 4 * (k + 1 + 1) := by rw [← hy, ByteArray.size_append']; have := encode_le4 (48 + (r : Int)); omega
        have hadd : (Op.stringOp .add s (Utf8.encode (48 + (r : Int)))).run Try.prog w1 = .ok (.string y) w1 := by
          rw [← hy]; exact run_string_add_sum _ _ _ (by have := encode_le4 (48 + (r : Int)); omega)
        clear hy
        go_wp2_with fail
        go_ret
        exact ⟨y, rfl, hys, hc⟩
    · go_enter Try.func91, Try.ntmps91
      go_wp2_with fail
      go_ret
      exact ⟨_, rfl, by have := encode_le4 (48 + (n : Int)); omega, Chg.refl _ _⟩
/-- Yes or no. -/
def AnyB (w : World) (e : Ending) (w' : World) : Prop := ∃ b : Bool, e = .returned (.bool b) ∧ w = w'
set_option maxHeartbeats 1000000 in
theorem halts_any (s : ByteArray) (w : World) (hs : s.size ≤ 1000000) : Calls Try.prog 47 #[.string s] w (AnyB w) := by
  by_cases h : 2 < s.size
  · have hd : decide (2 < s.size) = true := by simpa using h
    go_enter Try.func47, Try.ntmps47
    go_wp2_with fail
    go_ret
    exact ⟨_, rfl, rfl⟩
  · have hd : decide (2 < s.size) = false := by simpa using h
    go_enter Try.func47, Try.ntmps47
    go_wp2_with fail
    go_ret
    exact ⟨_, rfl, rfl⟩
set_option maxHeartbeats 1000000 in
theorem live_any (s : ByteArray) (w : World) (hs : s.size ≤ 1000000) : Calls Try.prog 92 #[.string s] w fun e w' => ∃ t : ByteArray, e = .returned (.string t) ∧ t.size ≤ s.size ∧ w = w' := by
  have HH := Lib.hid (halts_any s w hs)
  go_enter Try.func92, Try.ntmps92
  go_wp2_with fail
  refine HH.out.mono ?_
  rintro e w1 ⟨b, rfl, hw⟩
  cases b
  · go_wp2_with fail
    go_ret
    exact ⟨_, rfl, by first | exact Nat.le_refl _ | exact Nat.zero_le _, hw⟩
  · go_wp2_with fail
    go_ret
    exact ⟨_, rfl, by first | exact Nat.le_refl _ | exact Nat.zero_le _, hw⟩
end Go.Proofs.Ytfhgnoajfipjdaa
namespace Go.Proofs.Ytfhgnoajfipjdaa
open Go.RowKit
def nochg : List UInt8 := [110, 111, 32, 99, 104, 97, 110, 103, 101, 115]
/-- The tape goes on, rows of that constant are marked from B on, all else stays. -/
structure TapeR (p B : Nat) (A : Option Addr) (n c : Nat) (l : List Int) (a b : World) : Prop where
  os : b.os = a.os
  tape : b.tape = a.tape
  output : b.output = a.output
  size : a.heap.size ≤ b.heap.size
  block : ∀ k, k < a.heap.size → k ≠ p → b.heap[k]? = a.heap[k]? ∨ (B ≤ k ∧ ∃ fz fz', a.heap[k]? = some (.cells (bts nochg).toArray 5 fz) ∧ b.heap[k]? = some (.cells (bts nochg).toArray 5 fz'))
  tp : ∀ i, Tp a p A n c l i → ∃ j, Tp b p A n c l j
/-- What lies below B stays, but for the tape. -/
structure TapeH (p B : Nat) (A : Option Addr) (n c : Nat) (l : List Int) (a b : World) : Prop where
  os : b.os = a.os
  tape : b.tape = a.tape
  output : b.output = a.output
  size : a.heap.size ≤ b.heap.size
  block : ∀ k, k < B → k < a.heap.size → k ≠ p → b.heap[k]? = a.heap[k]?
  tp : ∀ i, Tp a p A n c l i → ∃ j, Tp b p A n c l j
section
variable {p B B3 n c : Nat} {A : Option Addr} {l : List Int}
theorem TapeR.of_chg {a b : World} (h : Chg [] a b) : TapeR p B A n c l a b := ⟨h.os, h.tape, h.output, h.size, fun k hk _ => .inl (h.block k hk (by simp)), fun i hi => ⟨i, hi.keep h⟩⟩
theorem TapeR.next {a b : World} (h : Chg [p] a b) {j : Nat} (ht : Tp b p A n c l j) : TapeR p B A n c l a b := ⟨h.os, h.tape, h.output, h.size, fun k hk hp => .inl (h.block k hk (by simpa using hp)), fun _ _ => ⟨j, ht⟩⟩
theorem TapeR.refl (a : World) : TapeR p B A n c l a a := .of_chg (Chg.refl _ _)
theorem TapeR.trans {a b d : World} (h : TapeR p B A n c l a b) (k : TapeR p B A n c l b d) : TapeR p B A n c l a d := by
  refine ⟨k.os.trans h.os, k.tape.trans h.tape, k.output.trans h.output, Nat.le_trans h.size k.size, fun i hi hp => ?_, fun i hi => by obtain ⟨j, hj⟩ := h.tp i hi; exact k.tp j hj⟩
  rcases h.block i hi hp with h1 | ⟨hB, fz, fz', h1, h2⟩
  · rcases k.block i (Nat.lt_of_lt_of_le hi h.size) hp with k1 | ⟨hB, fz, fz', k1, k2⟩
    · exact .inl (k1.trans h1)
    · exact .inr ⟨hB, fz, fz', by rw [← h1]; exact k1, k2⟩
  · rcases k.block i (Nat.lt_of_lt_of_le hi h.size) hp with k1 | ⟨_, fz2, fz3, k1, k2⟩
    · exact .inr ⟨hB, fz, fz', h1, k1.trans h2⟩
    · exact .inr ⟨hB, fz, fz3, h1, k2⟩
theorem TapeR.h {a b : World} (h : TapeR p B A n c l a b) (hB : B3 ≤ B) : TapeH p B3 A n c l a b :=
  ⟨h.os, h.tape, h.output, h.size, fun k h3 hk hp => (h.block k hk hp).elim id fun ⟨hb, _⟩ => by omega, h.tp⟩
theorem TapeH.trans {a b d : World} (h : TapeH p B A n c l a b) (k : TapeH p B A n c l b d) : TapeH p B A n c l a d :=
  ⟨k.os.trans h.os, k.tape.trans h.tape, k.output.trans h.output, Nat.le_trans h.size k.size, fun i hB hi hp => (k.block i hB (Nat.lt_of_lt_of_le hi h.size) hp).trans (h.block i hB hi hp), fun i hi => by obtain ⟨j, hj⟩ := h.tp i hi; exact k.tp j hj⟩
theorem TapeH.whole {a b : World} (h : TapeH p B A n c l a b) {g t : Nat} {cs : List Value} (hW : Whole a g t cs) (hg : g < B) (hp : g ≠ p) : Whole b g t cs := (h.block g hg hW.lt hp).trans hW
theorem TapeH.chg {a b : World} (h : TapeH p B A n c l a b) (hB : a.heap.size ≤ B) : Chg [p] a b := ⟨h.os, h.tape, h.output, h.size, fun k hk hn => h.block k (by omega) hk (by simpa using hn)⟩
theorem TapeH.after {a b W : World} (h1 : Chg [p] a b) (h2 : TapeH p B A n c l b W) (hB : a.heap.size ≤ B) : Chg [p] a W :=
  ⟨h2.os.trans h1.os, h2.tape.trans h1.tape, h2.output.trans h1.output, Nat.le_trans h1.size h2.size, fun k hk hn => (h2.block k (by omega) (Nat.lt_of_lt_of_le hk h1.size) (by simpa using hn)).trans (h1.block k hk hn)⟩
theorem tf_lt {W : World} {g : Nat} {o : Obj} (h : W.heap[g]? = some o) : g < W.heap.size := by
  rcases Nat.lt_or_ge g W.heap.size with hlt | hge
  · exact hlt
  · rw [Array.getElem?_eq_none hge] at h; cases h
end
end Go.Proofs.Ytfhgnoajfipjdaa
namespace Go.Proofs.Ytfhgnoajfipjdaa
open Go.RowKit
/-- The tape goes on, all else stays. -/
structure TapeQ (p : Nat) (A : Option Addr) (n c : Nat) (l : List Int) (a b : World) : Prop where
  chg : Chg [p] a b
  tp : ∀ i, Tp a p A n c l i → ∃ j, Tp b p A n c l j
section
variable {p n c : Nat} {A : Option Addr} {l : List Int}
theorem TapeQ.refl (a : World) : TapeQ p A n c l a a := ⟨Chg.refl _ _, fun i h => ⟨i, h⟩⟩
theorem TapeQ.trans {a b d : World} (h : TapeQ p A n c l a b) (k : TapeQ p A n c l b d) : TapeQ p A n c l a d := ⟨h.chg.trans k.chg, fun i hi => by obtain ⟨j, hj⟩ := h.tp i hi; exact k.tp j hj⟩
theorem TapeQ.of_chg {a b : World} (h : Chg [] a b) : TapeQ p A n c l a b := ⟨h.sub (by simp), fun i hi => ⟨i, hi.keep h⟩⟩
def IsTxt (m : Nat) (v : Value) : Prop := ∃ s : ByteArray, v = .string s ∧ s.size ≤ m
def IsNum (m : Nat) (v : Value) : Prop := ∃ r : Nat, v = .int .i64 (r : Int) ∧ r < m
end
end Go.Proofs.Ytfhgnoajfipjdaa
namespace Go.Proofs.Ytfhgnoajfipjdaa
open Go.RowKit
structure FnV where
  name : Int
  args : Int
  code : ByteArray
def fnC (t : FnV) : List Value := [.int .i32 t.name, .int .i64 t.args, .string t.code]
def fnCs : List FnV → List Value
  | [] => []
  | t :: l => fnC t ++ fnCs l
theorem fnCs_len : ∀ l, (fnCs l).length = l.length * 3
  | [] => rfl
  | t :: l => by rw [fnCs, List.length_append, fnCs_len l]; simp [fnC]; omega
theorem fnCs_app : ∀ l m, fnCs (l ++ m) = fnCs l ++ fnCs m
  | [], _ => rfl
  | t :: l, m => by rw [List.cons_append, fnCs, fnCs, fnCs_app l m, List.append_assoc]
theorem fnCs_one (t : FnV) : fnCs [t] = fnC t := by simp [fnCs]
theorem fnCs_get : ∀ (l : List FnV) (k : Nat) (t : FnV) (j : Nat), l[k]? = some t → j < 3 → (fnCs l)[k * 3 + j]? = (fnC t)[j]?
  | [], k, t, j, h, hj => by simp at h
  | u :: l, 0, t, j, h, hj => by
    simp at h; subst h
    rw [fnCs, List.getElem?_append_left (by simp [fnC]; omega)]
    congr 1; omega
  | u :: l, k + 1, t, j, h, hj => by
    simp at h
    rw [fnCs, List.getElem?_append_right (by simp [fnC]; omega)]
    rw [← fnCs_get l k t j h hj]
    congr 1; simp [fnC]; omega
theorem info_func : (Try.prog.info? 51).map (fun i => (i.zero, i.size, i.bytes)) = some (some (.agg #[.int .i32 0, .int .i64 0, .string ⟨#[]⟩]), 3, 32) := by kernel_rfl
/-- The slice value '.slice A n c' is the functions l; they do not lie in block p. -/
structure Fns (W : World) (p : Nat) (A : Option Addr) (n c : Nat) (l : List FnV) : Prop where
  len : l.length = n
  src : Src W A (fnCs l)
  cap : n ≤ c
  max : n ≤ 1000
  spot : 0 < n → ∀ ad, A = some ad → ad.spot = none ∧ ad.block ≠ p
  args : ∀ f ∈ l, 0 ≤ f.args ∧ f.args ≤ 2
section
variable {W W' : World} {p : Nat} {A : Option Addr} {n c : Nat} {l : List FnV}
theorem Fns.keep (h : Fns W p A n c l) (hc : Chg [p] W W') : Fns W' p A n c l := by
  refine ⟨h.len, fun hp => ?_, h.cap, h.max, h.spot, h.args⟩
  obtain ⟨ad, e, hb, hx⟩ := h.src hp
  have hn : 0 < n := by have := h.len; rw [fnCs_len] at hp; omega
  refine ⟨ad, e, Nat.lt_of_lt_of_le hb hc.size, fun j v hj => ?_⟩
  have h1 := hx j v hj
  rw [← h1]
  have e2 : (ad.add j).block = ad.block := by unfold Addr.add; split <;> rfl
  refine World.cell?_of_block (w := W) (hc.block _ (by rw [e2]; exact hb) ?_)
  rw [e2]
  have := (h.spot hn ad e).2
  simpa using this
theorem Fns.cell (h : Fns W p A n c l) {k : Nat} {t : FnV} (hk : l[k]? = some t) : ∃ b o, A = some ⟨b, o, none⟩ ∧ b ≠ p ∧ b < W.heap.size ∧ W.cell? ⟨b, o + k * 3, none⟩ = some (.int .i32 t.name) ∧ W.cell? ⟨b, o + k * 3 + 1, none⟩ = some (.int .i64 t.args) ∧ W.cell? ⟨b, o + k * 3 + 2, none⟩ = some (.string t.code) := by
  have hkl := (List.getElem?_eq_some_iff.1 hk).1
  obtain ⟨⟨b, o, s⟩, e, hb, hx⟩ := h.src (by rw [fnCs_len]; omega)
  obtain ⟨hs, hbp⟩ := h.spot (by have := h.len; omega) _ e
  simp only at hs hbp
  subst hs
  refine ⟨b, o, e, hbp, hb, ?_, ?_, ?_⟩
  · have := hx _ _ ((fnCs_get l k t 0 hk (by omega)).trans rfl); rwa [add_plain] at this
  · have := hx _ _ ((fnCs_get l k t 1 hk (by omega)).trans rfl); rwa [add_plain] at this
  · have := hx _ _ ((fnCs_get l k t 2 hk (by omega)).trans rfl); rwa [add_plain] at this
end
end Go.Proofs.Ytfhgnoajfipjdaa
namespace Go.Proofs.Ytfhgnoajfipjdaa
open Go.RowKit
/-- Digits from place j on. -/
def numAt (L : List Nat) : Nat → Nat → Nat → Option (Nat × Nat)
  | 0, j, m => some (m, j)
  | f + 1, j, m => match L[j]? with
    | some x => if 48 ≤ x ∧ x ≤ 57 then (if (9223372036854775807 - (x - 48)) / 10 < m then none else numAt L f (j + 1) (m * 10 + (x - 48))) else some (m, j)
    | none => some (m, j)
def tokAt (L : List Nat) : Nat → Nat → List TkV → Option (List TkV)
  | 0, _, ts => some ts
  | f + 1, i, ts => match L[i]? with
    | none => some ts
    | some r => if r = 32 then tokAt L f (i + 1) ts
      else if 48 ≤ r ∧ r ≤ 57 then (match numAt L L.length i 0 with
        | none => none
        | some (m, j) => tokAt L f j (ts ++ [⟨48, (m : Int), 0⟩]))
      else if r = 955 ∨ r = 960 then (match L[i + 1]? with
        | none => none
        | some x => if nameB (x : Int) = true then tokAt L f (i + 2) (ts ++ [⟨(r : Int), 0, (x : Int)⟩]) else none)
      else if knownB (r : Int) = true then tokAt L f (i + 1) (ts ++ [⟨(r : Int), 0, 0⟩]) else none
def tokR (s : ByteArray) : Option (List TkV) := if 512 < s.size then none else tokAt (runesL s) ((runesL s).length + 1) 0 []
def tokE (s : ByteArray) : Int := if 512 < s.size then 3 else 12
def TokPost (s : ByteArray) (w : World) (e : Ending) (w' : World) : Prop :=
  Chg [] w w' ∧ ((∃ ts v, tokR s = some ts ∧ ts.length ≤ 512 ∧ e = .returned (.tuple #[v, .int .i64 0]) ∧ w'.ownsRow w.heap.size 167 3 v ts.length (tkCs ts)) ∨
    (tokR s = none ∧ e = .returned (.tuple #[.slice none 0 0, .int .i64 (tokE s)])))
theorem runesL_len (s : ByteArray) : (runesL s).length ≤ s.size := runesAt_len s s.size 0
theorem own_more_n {w : World} {B B' e k n : Nat} {v : Value} {xs : List Value} (h : w.ownsRow B e k v n xs) (hB : B' ≤ B) : w.ownsRow B' e k v n xs := by
  refine ⟨h.1, h.2.imp id ?_⟩
  rintro ⟨g, cap, cur, rfl, hb, r⟩
  exact ⟨g, cap, cur, rfl, Nat.le_trans hB hb, r⟩
section
variable {w : World}
set_option maxHeartbeats 4000000 in
set_option maxRecDepth 100000 in
theorem tokens_any (s : ByteArray) (hs : s.size ≤ 9223372036854775807) : Calls Try.prog 93 #[.string s] w (TokPost s w) := by
  obtain ⟨i0, hi0, hz0, hz1, hz2⟩ := info_parts info_token
  by_cases hlong : 512 < s.size
  · have hlI : (512 : Int) < (s.size : Int) := by omega
    have HPO := Lib.hid (show TokPost s w (.returned (.tuple #[.slice none 0 0, .int .i64 3])) w from ⟨Chg.refl _ _, .inr ⟨by unfold tokR; rw [if_pos hlong], by unfold tokE; rw [if_pos hlong]⟩⟩)
    go_enter Try.func93, Try.ntmps93
    go_wp2_with fail
    go_ret2
    exact HPO.out
  have hlI : ¬ (512 : Int) < (s.size : Int) := by omega
  have HT := Lib.hid (show tokR s = tokAt (runesL s) ((runesL s).length + 1) 0 [] from by unfold tokR; rw [if_neg hlong])
  have HE := Lib.hid (show tokE s = 12 from by unfold tokE; rw [if_neg hlong])
  have HRUN := Lib.hid (runes_any s w (by omega))
  have hLs := runesL_len s
  have hLr := runesAt_le s s.size 0
  go_enter Try.func93, Try.ntmps93
  go_wp2_with fail
  refine HRUN.out.mono ?_
  rintro e w1 ⟨v1, rfl, ho1, hc1⟩
  obtain ⟨L, hL⟩ : ∃ L, L = runesL s := ⟨_, rfl⟩
  have hLr' : ∀ r ∈ L, r ≤ 2147483647 := by rw [hL]; exact hLr
  rw [← hL] at ho1 hLs HT
  have HLR := Lib.hid hLr'
  have HC1 := Lib.hid hc1
  obtain ⟨A1, c1, rfl, hl1, _, hs1, hp1⟩ := own_slice ho1
  obtain ⟨n, hn⟩ : ∃ n, n = L.length := ⟨_, rfl⟩
  rw [← hn] at hLs HT ⊢
  have HN := Lib.hid hn
  have hn512 : n ≤ 512 := by omega
  have HS1 := Lib.hid (show ∀ (W : World), Chg [] w1 W → ∀ (j : Nat) (r : Nat), L[j]? = some r → ∃ g, A1 = some ⟨g, 0, none⟩ ∧ W.cell? ⟨g, j, none⟩ = some (.int .i32 (r : Int)) from fun W hW j r hj => by
    obtain ⟨⟨g, o, sp⟩, e, hb, hx⟩ := (hs1.keep hW) (by rw [r32_len]; have := (List.getElem?_eq_some_iff.1 hj).1; omega)
    obtain ⟨h1, _, h3, _⟩ := hp1 _ e
    simp only at h1 h3
    subst h1 h3
    refine ⟨g, e, ?_⟩
    have := hx j (.int .i32 (r : Int)) (by simp [r32, hj])
    rwa [add_plain, Nat.zero_add] at this)
  obtain ⟨B, hB⟩ : ∃ b, b = w1.heap.size := ⟨_, rfl⟩
  have HB := Lib.hid hB
  clear ho1 hc1 hl1 hs1 hp1 hL hLr hLr' hn hB hlong hLs HRUN
  go_wp2_with fail
  go_loopw [5, 6, 7, 8] (fun v x _ _ wr => ∃ i : Nat, i ≤ n ∧ x = .int .i64 (i : Int) ∧ (∃ ts f, wr.ownsRow B 167 3 v ts.length (tkCs ts) ∧ ts.length ≤ i ∧ n < i + f ∧ Hid (tokR s = tokAt L f i ts)) ∧ Hid (Chg [] w1 wr)) (fun _ x _ _ _ => n - (intOf x).toNat)
  case atStart => exact ⟨0, Nat.zero_le _, rfl, ⟨[], n + 1, World.ownsRow_nil _ _ _ _, by simp, by omega, HT⟩, Lib.hid (Chg.refl _ _)⟩
  case round =>
    obtain ⟨i, hin, rfl, ⟨ts, f, ho, htl, hf, HTi⟩, HCr⟩ := hrel
    have HO := Lib.hid ho
    clear ho
    have HCW := Lib.hid (show Chg [] w wr from HC1.out.new HCr.out)
    have HNO := Lib.hid (show ∀ W, Chg [] w W → tokR s = none → TokPost s w (.returned (.tuple #[.slice none 0 0, .int .i64 12])) W from fun W hW h => ⟨hW, .inr ⟨h, by rw [HE.out]⟩⟩)
    by_cases hlt : i < n
    · have hltI : (i : Int) < (n : Int) := by omega
      have hi0' : (0 : Int) ≤ (i : Int) := by omega
      have hil : i < L.length := by rw [← HN.out]; exact hlt
      obtain ⟨f', rfl⟩ : ∃ f', f = f' + 1 := ⟨f - 1, by omega⟩
      obtain ⟨r, hr⟩ : ∃ r, L[i]? = some r := ⟨_, List.getElem?_eq_getElem hil⟩
      obtain ⟨g4, rfl, t0⟩ := HS1.out wr HCr.out i r hr
      have hr2 := HLR.out r (List.mem_of_getElem? hr)
      have HR := Lib.hid hr
      have HU := Lib.hid (show tokR s = _ from HTi.out.trans (by rw [tokAt, hr]))
      clear hr
      by_cases h32 : r = 32
      · subst h32
        have HT2 := Lib.hid (show tokR s = tokAt L f' (i + 1) ts from by rw [HU.out]; simp)
        go_wp2_with fail
        go_roundw
        case rel => exact ⟨i + 1, by omega, by go_num, ⟨ts, f', HO.out, by omega, by omega, HT2⟩, HCr⟩
        case measure => simp [intOf]; omega
      have h32d : ((r : Int) == 32) = false := by simp; omega
      by_cases hdg : 48 ≤ r ∧ r ≤ 57
      · obtain ⟨h48, h57⟩ := hdg
        have h48I : (48 : Int) ≤ (r : Int) := by omega
        have h57I : (r : Int) ≤ 57 := by omega
        have HU2 := Lib.hid (show tokR s = (match numAt L L.length i 0 with
          | none => none
          | some (m, j) => tokAt L f' j (ts ++ [⟨48, (m : Int), 0⟩])) from by rw [HU.out]; simp only [h32, h48, h57, if_false, if_true, and_self])
        have HRD := Lib.hid (And.intro h48 h57)
        have HBW := Lib.hid (show B ≤ wr.heap.size from by rw [HB.out]; exact HCr.out.size)
        clear HU h48 h57 h32
        go_wp2_with fail
        go_loop [6, 8] (fun x y => ∃ j m f2 : Nat, i ≤ j ∧ j ≤ n ∧ x = .int .i64 (j : Int) ∧ y = .int .u64 (m : Int) ∧ m ≤ 9223372036854775807 ∧ n ≤ j + f2 ∧ (i < j ∨ j = i) ∧ Hid (numAt L L.length i 0 = numAt L f2 j m)) (fun x _ => n - (intOf x).toNat)
        case atStart => exact ⟨i, 0, L.length, Nat.le_refl _, by omega, rfl, rfl, by omega, by have := HN.out; omega, .inr rfl, Lib.hid rfl⟩
        case round =>
          obtain ⟨j, m, f2, hij, hjn, rfl, rfl, hm, hf2, hdis, HQ⟩ := hrel
          have hj0 : (0 : Int) ≤ (j : Int) := by omega
          have hm0 : (0 : Int) ≤ (m : Int) := by omega
          have hstop : ∀ _ : numAt L L.length i 0 = some (m, j), i < j → tokR s = tokAt L f' j (ts ++ [⟨48, (m : Int), 0⟩]) := fun h _ => by rw [HU2.out, h]
          have HST := Lib.hid hstop
          clear hstop
          by_cases hltj : j < n
          · have hltjI : (j : Int) < (n : Int) := by omega
            obtain ⟨f3, rfl⟩ : ∃ f3, f2 = f3 + 1 := ⟨f2 - 1, by omega⟩
            obtain ⟨x, hx⟩ : ∃ x, L[j]? = some x := ⟨_, List.getElem?_eq_getElem (by rw [← HN.out]; exact hltj)⟩
            obtain ⟨g4', e, t1⟩ := HS1.out wr HCr.out j x hx
            injection e with e
            injection e with e
            subst e
            have hx2 := HLR.out x (List.mem_of_getElem? hx)
            have HX := Lib.hid hx
            clear hx
            by_cases hxd : 48 ≤ x ∧ x ≤ 57
            · have HXD := Lib.hid hxd
              have hx1 : (48 : Int) ≤ (x : Int) := by omega
              have hx3 : (x : Int) ≤ 57 := by omega
              have HHM := Lib.hid (And.intro hm (And.intro hdis hf2))
              have HHI := Lib.hid hij
              clear hxd hm hdis hf2 hij
              by_cases hov : (9223372036854775807 - ((x : Int) - 48)) / 10 < (m : Int)
              · have hnum : numAt L (f3 + 1) j m = none := by
                  rw [numAt, HX.out]
                  show (if 48 ≤ x ∧ x ≤ 57 then _ else _) = none
                  rw [if_pos HXD.out, if_pos (by have := HXD.out; omega)]
                have HPO := Lib.hid (HNO.out wr HCW.out (by rw [HU2.out, HQ.out, hnum]))
                clear hnum
                go_wp2_with fail
                go_ret2
                exact HPO.out
              · have hovJ : (m : Int) ≤ (9223372036854775807 - ((x : Int) - 48)) / 10 := by omega
                have HQ2 := Lib.hid (show numAt L L.length i 0 = numAt L f3 (j + 1) (m * 10 + (x - 48)) from HQ.out.trans (by
                  rw [numAt, HX.out]
                  show (if 48 ≤ x ∧ x ≤ 57 then _ else _) = _
                  rw [if_pos HXD.out, if_neg (by have := HXD.out; omega)]))
                clear hov
                go_wp2_with fail
                go_round
                case rel => exact ⟨j + 1, m * 10 + (x - 48), f3, by have := HHI.out; omega, by omega, by go_num, by rw [show ((m * 10 + (x - 48) : Nat) : Int) = (m : Int) * 10 + ((x : Int) - 48) by have := HXD.out; omega], by have := HXD.out; omega, by have := HHM.out.2.2; omega, .inl (by have := HHI.out; omega), HQ2⟩
                case measure => simp [intOf]; omega
            · have HSS := Lib.hid (HST.out (by rw [HQ.out, numAt, HX.out]; simp only; rw [if_neg hxd]) (by
                rcases hdis with h | h
                · exact h
                · exfalso
                  subst h
                  have := HX.out
                  rw [HR.out] at this
                  injection this with this
                  subst this
                  exact hxd HRD.out))
              have hij1 : i < j := by
                rcases hdis with h | h
                · exact h
                · exfalso
                  subst h
                  have := HX.out
                  rw [HR.out] at this
                  injection this with this
                  subst this
                  exact hxd HRD.out
              have hnd : ((48 : Int) ≤ (x : Int) ∧ decide ((x : Int) ≤ 57) = false) ∨ decide ((48 : Int) ≤ (x : Int)) = false := by
                by_cases h : 48 ≤ x
                · exact .inl ⟨by omega, by simp; omega⟩
                · exact .inr (by simp; omega)
              have HHM := Lib.hid (And.intro hm hij)
              clear hxd hdis hf2 hm hij
              rcases hnd with ⟨hx48, hx57⟩ | hx48
              all_goals
                have hjm : (j : Int) - 1 + 1 = ((j : Nat) : Int) := by omega
                have HJM := Lib.hid hjm
                have hm64 : (m : Int) ≤ 9223372036854775807 := by have := HHM.out.1; omega
                clear hjm
                go_wp2_with (at_builtin
                             refine wpList_append_own _ rfl (.tmp 75) (.tmp 79) _ rfl B 167 i0 _ 3 24 Try.underlying119 hi0 hz0 hz1 hz2 rfl (by decide) _ ts.length (tkCs ts) rfl (rown_keep HO.out ((Chg.refl [] wr).alloc _)) ⟨wr.heap.size, 0, none⟩ 1 1 [.int .i32 48, .int .i64 (m : Int), .int .i32 0] rfl rfl (cells_page _ _ _) (by simp [Value.oneCell']) (by simp only [maxLen]; omega) (by omega) (by have := HBW.out; simp; omega) ?_
                             intro v' w6 ho6 hg6 _
                             have HO6 := Lib.hid ho6
                             have HG6 := Lib.hid hg6
                             clear ho6 hg6)
                have HC6 := Lib.hid (show Chg [] w1 w6 from chg_grown2 (HCr.out.alloc _) HG6.out (fun g hg => by have := ((rown_keep HO.out ((Chg.refl [] wr).alloc (.cells #[] 167))).lt g hg).1; have := HB.out; omega))
                go_roundw
                case rel => exact ⟨j, hjn, by rw [← HJM.out], ⟨ts ++ [⟨48, (m : Int), 0⟩], f', by rw [List.length_append, tkCs_app, tkCs_one]; exact HO6.out, by simp; omega, by omega, HSS⟩, HC6⟩
                case measure => simp [intOf]; omega
          · have hltjI : ¬ (j : Int) < (n : Int) := by omega
            have HSS := Lib.hid (HST.out (by rw [HQ.out]; cases f2 with
              | zero => rfl
              | succ f2 => rw [numAt, List.getElem?_eq_none (by rw [← HN.out]; omega)]) (by omega))
            have hij1 : i < j := by omega
            have HHM := Lib.hid (And.intro hm hij)
            clear hdis hf2 hm hij
            have hjm : (j : Int) - 1 + 1 = ((j : Nat) : Int) := by omega
            have HJM := Lib.hid hjm
            have hm64 : (m : Int) ≤ 9223372036854775807 := by have := HHM.out.1; omega
            clear hjm
            go_wp2_with (at_builtin
                         refine wpList_append_own _ rfl (.tmp 75) (.tmp 79) _ rfl B 167 i0 _ 3 24 Try.underlying119 hi0 hz0 hz1 hz2 rfl (by decide) _ ts.length (tkCs ts) rfl (rown_keep HO.out ((Chg.refl [] wr).alloc _)) ⟨wr.heap.size, 0, none⟩ 1 1 [.int .i32 48, .int .i64 (m : Int), .int .i32 0] rfl rfl (cells_page _ _ _) (by simp [Value.oneCell']) (by simp only [maxLen]; omega) (by omega) (by have := HBW.out; simp; omega) ?_
                         intro v' w6 ho6 hg6 _
                         have HO6 := Lib.hid ho6
                         have HG6 := Lib.hid hg6
                         clear ho6 hg6)
            have HC6 := Lib.hid (show Chg [] w1 w6 from chg_grown2 (HCr.out.alloc _) HG6.out (fun g hg => by have := ((rown_keep HO.out ((Chg.refl [] wr).alloc (.cells #[] 167))).lt g hg).1; have := HB.out; omega))
            go_roundw
            case rel => exact ⟨j, hjn, by rw [← HJM.out], ⟨ts ++ [⟨48, (m : Int), 0⟩], f', by rw [List.length_append, tkCs_app, tkCs_one]; exact HO6.out, by simp; omega, by omega, HSS⟩, HC6⟩
            case measure => simp [intOf]; omega
      · by_cases hnm : r = 955 ∨ r = 960
        · by_cases hi1 : i + 1 < n
          · obtain ⟨x, hx⟩ : ∃ x, L[i + 1]? = some x := ⟨_, List.getElem?_eq_getElem (by rw [← HN.out]; exact hi1)⟩
            obtain ⟨g4', e, t1⟩ := HS1.out wr HCr.out (i + 1) x hx
            injection e with e
            injection e with e
            subst e
            have hx2 := HLR.out x (List.mem_of_getElem? hx)
            have HU2 := Lib.hid (show tokR s = (if nameB (x : Int) = true then tokAt L f' (i + 2) (ts ++ [⟨(r : Int), 0, (x : Int)⟩]) else none) from by rw [HU.out]; simp only [h32, hdg, hnm, if_false, if_true, hx])
            have hi1I : ¬ (n : Int) ≤ (i : Int) + 1 := by omega
            have hi1J : (i : Int) + 1 < (n : Int) := by omega
            have hi1K : (0 : Int) ≤ (i : Int) + 1 := by omega
            have hi1d : decide ((n : Int) ≤ (i : Int) + 1) = false := by simp; omega
            have HBW := Lib.hid (show B ≤ wr.heap.size from by rw [HB.out]; exact HCr.out.size)
            clear HU hdg hx
            rcases hnm with rfl | rfl
            all_goals
              by_cases hk : nameB (x : Int) = true
              · have HT2 := Lib.hid (HU2.out.trans (if_pos hk))
                have HKK := Lib.hid hk
                clear hk h32
                go_wp2_with (first
                  | (go_at_call 132; refine (name_any (x : Int) _).mono ?_; rintro e w' ⟨rfl, rfl⟩; rw [HKK.out])
                  | (at_builtin
                     refine wpList_append_own _ rfl (.tmp 102) (.tmp 110) _ rfl B 167 i0 _ 3 24 Try.underlying119 hi0 hz0 hz1 hz2 rfl (by decide) _ ts.length (tkCs ts) rfl (rown_keep HO.out ((Chg.refl [] wr).alloc _)) ⟨wr.heap.size, 0, none⟩ 1 1 [.int .i32 _, .int .i64 0, .int .i32 (x : Int)] rfl rfl (cells_page _ _ _) (by simp [Value.oneCell']) (by simp only [maxLen]; omega) (by omega) (by have := HBW.out; simp; omega) ?_
                     intro v' w6 ho6 hg6 _
                     have HO6 := Lib.hid ho6
                     have HG6 := Lib.hid hg6
                     clear ho6 hg6))
                have HC6 := Lib.hid (show Chg [] w1 w6 from chg_grown2 (HCr.out.alloc _) HG6.out (fun g hg => by have := ((rown_keep HO.out ((Chg.refl [] wr).alloc (.cells #[] 167))).lt g hg).1; have := HB.out; omega))
                go_roundw
                case rel => exact ⟨i + 2, by omega, by go_num, ⟨ts ++ [⟨_, 0, (x : Int)⟩], f', by rw [List.length_append, tkCs_app, tkCs_one]; exact HO6.out, by simp; omega, by omega, HT2⟩, HC6⟩
                case measure => simp [intOf]; omega
              · have hkf : nameB (x : Int) = false := by simpa using hk
                have HKK := Lib.hid hkf
                have HPO := Lib.hid (HNO.out wr HCW.out (HU2.out.trans (if_neg hk)))
                clear hk hkf h32
                go_wp2_with (go_at_call 132; refine (name_any (x : Int) _).mono ?_; rintro e w' ⟨rfl, rfl⟩; rw [HKK.out])
                go_ret2
                exact HPO.out
          · have hi1I : (n : Int) ≤ (i : Int) + 1 := by omega
            have HPO := Lib.hid (HNO.out wr HCW.out (by rw [HU.out]; simp only [h32, hdg, hnm, if_false, if_true]; rw [List.getElem?_eq_none (by rw [← HN.out]; omega)]))
            clear HU hdg
            rcases hnm with rfl | rfl
            all_goals
              clear h32
              go_wp2_with fail
              go_ret2
              exact HPO.out
        · have h955 : ((r : Int) == 955) = false := by simp; omega
          have h960 : ((r : Int) == 960) = false := by simp; omega
          have HU2 := Lib.hid (show tokR s = (if knownB (r : Int) = true then tokAt L f' (i + 1) (ts ++ [⟨(r : Int), 0, 0⟩]) else none) from by rw [HU.out]; simp only [h32, hdg, hnm, if_false])
          have hnd : ((48 : Int) ≤ (r : Int) ∧ decide ((r : Int) ≤ 57) = false) ∨ decide ((48 : Int) ≤ (r : Int)) = false := by
            by_cases h : 48 ≤ r
            · exact .inl ⟨by omega, by simp; omega⟩
            · exact .inr (by simp; omega)
          clear HU hdg hnm h32
          rcases hnd with ⟨h48, h57⟩ | h48
          all_goals
            go_wp2_with fail
            refine (known_any (r : Int) wr).mono ?_
            rintro e w3 ⟨rfl, hc3⟩
            have HC3 := Lib.hid (HCr.out.new hc3)
            have HO3 := Lib.hid (rown_keep HO.out hc3)
            have HB3 := Lib.hid (show B ≤ w3.heap.size from by rw [HB.out]; exact HC3.out.size)
            clear hc3
            by_cases hk : knownB (r : Int) = true
            · have HT2 := Lib.hid (show tokR s = tokAt L f' (i + 1) (ts ++ [⟨(r : Int), 0, 0⟩]) from by rw [HU2.out, if_pos hk])
              rw [hk]
              clear hk
              go_wp2_with (at_builtin
                           refine wpList_append_own _ rfl (.tmp 117) (.tmp 120) _ rfl B 167 i0 _ 3 24 Try.underlying119 hi0 hz0 hz1 hz2 rfl (by decide) _ ts.length (tkCs ts) rfl (rown_keep HO3.out ((Chg.refl [] w3).alloc _)) ⟨w3.heap.size, 0, none⟩ 1 1 [.int .i32 (r : Int), .int .i64 0, .int .i32 0] rfl rfl (cells_page _ _ _) (by simp [Value.oneCell']) (by simp only [maxLen]; omega) (by omega) (by have := HB3.out; simp; omega) ?_
                           intro v' w6 ho6 hg6 _
                           have HO6 := Lib.hid ho6
                           have HG6 := Lib.hid hg6
                           clear ho6 hg6)
              have HC6 := Lib.hid (show Chg [] w1 w6 from chg_grown2 (HC3.out.alloc _) HG6.out (fun g hg => by have := ((rown_keep HO3.out ((Chg.refl [] w3).alloc (.cells #[.int .i32 (r : Int), .int .i64 0, .int .i32 0] 167))).lt g hg).1; have := HB.out; omega))
              go_roundw
              case rel => exact ⟨i + 1, by omega, by go_num, ⟨ts ++ [⟨(r : Int), 0, 0⟩], f', by rw [List.length_append, tkCs_app, tkCs_one]; exact HO6.out, by simp; omega, by omega, HT2⟩, HC6⟩
              case measure => simp [intOf]; omega
            · have hkf : knownB (r : Int) = false := by simpa using hk
              have HPO := Lib.hid (HNO.out w3 (HC1.out.new HC3.out) (by rw [HU2.out, if_neg hk]))
              rw [hkf]
              clear hk hkf
              go_wp2_with fail
              go_ret2
              exact HPO.out
    · have hltI : ¬ (i : Int) < (n : Int) := by omega
      have HZ := Lib.hid (show tokR s = some ts from by
        rw [HTi.out]
        cases f with
        | zero => rfl
        | succ f => rw [tokAt, List.getElem?_eq_none (by rw [← HN.out]; omega)])
      obtain ⟨B0, hB0⟩ : ∃ b, b = w.heap.size := ⟨_, rfl⟩
      have HOW := Lib.hid (own_more_n HO.out (show w.heap.size ≤ B from by rw [HB.out]; exact HC1.out.size))
      have HPO := Lib.hid (show TokPost s w (.returned (.tuple #[u5, .int .i64 0])) wr from ⟨HCW.out, .inl ⟨ts, _, HZ.out, by omega, rfl, HOW.out⟩⟩)
      clear hB0
      go_wp2_with fail
      go_ret2
      exact HPO.out
end
end Go.Proofs.Ytfhgnoajfipjdaa
namespace Go.Proofs.Ytfhgnoajfipjdaa
open Go.RowKit
structure BkV where
  sign : Int
  base : Int
  other : Int
  left : Bool
/-- The place of the first function of a name. -/
def findK (name : Int) : List FnV → Nat → Option Nat
  | [], _ => none
  | f :: l, k => if f.name = name then some k else findK name l (k + 1)
def findI (l : List FnV) (name : Int) : Int := match findK name l 0 with | some k => (k : Int) | none => -1
theorem findK_at {name : Int} : ∀ {l : List FnV} {k j : Nat}, findK name l k = some j → ∃ f, k ≤ j ∧ l[j - k]? = some f ∧ f.name = name
  | [], k, j, h => by simp [findK] at h
  | f :: l, k, j, h => by
    rw [findK] at h
    by_cases hn : f.name = name
    · rw [if_pos hn] at h; injection h with h; subst h; exact ⟨f, Nat.le_refl _, by simp, hn⟩
    · rw [if_neg hn] at h
      obtain ⟨g, h1, h2, h3⟩ := findK_at h
      refine ⟨g, by omega, ?_, h3⟩
      rw [show j - k = (j - (k + 1)) + 1 from by omega]
      simpa using h2
theorem findK_add {name : Int} : ∀ (l m : List FnV) (k j : Nat), findK name l k = some j → findK name (l ++ m) k = some j
  | [], m, k, j, h => by simp [findK] at h
  | f :: l, m, k, j, h => by
    rw [List.cons_append, findK]
    rw [findK] at h
    by_cases hn : f.name = name
    · rw [if_pos hn] at h ⊢; exact h
    · rw [if_neg hn] at h ⊢; exact findK_add l m (k + 1) j h
def binL : List Nat := [43, 45, 42, 47, 37, 38, 124, 94, 60, 61, 171, 187]
def unL : List Nat := [33, 64, 169, 164, 960]
def zeL : List Nat := [58, 59, 91, 93, 126, 161]
def inL (l : List Nat) (r : Int) : Bool := l.any fun x => (x : Int) == r
/-- What a call takes. -/
def callA (l : List FnV) (name : Int) : Int × Int × Bool :=
  match findK name l 0 with
  | none => (0, 0, false)
  | some k => match l[k]? with
    | none => (0, 0, false)
    | some f => if 0 ≤ f.args ∧ f.args ≤ 4 then (f.args, 1, true) else (0, 0, false)
def rTakes (l : List FnV) (s name : Int) : Int × Int × Bool :=
  if (s = 48 ∨ (97 ≤ s ∧ s ≤ 122)) ∨ s = 35 then (0, 1, true)
  else if (65 ≤ s ∧ s ≤ 90) ∨ s = 44 then (1, 0, true)
  else if s = 46 then (1, 2, true)
  else if inL binL s = true then (2, 1, true)
  else if inL unL s = true then (1, 1, true)
  else if s = 36 ∨ s = 174 then (2, 0, true)
  else if s = 63 then (1, 0, true)
  else if inL zeL s = true then (0, 0, true)
  else if s = 955 then callA l name
  else (0, 0, false)
theorem callA_in (l : List FnV) (name : Int) : 0 ≤ (callA l name).1 ∧ (callA l name).1 ≤ 4 ∧ 0 ≤ (callA l name).2.1 ∧ (callA l name).2.1 ≤ 2 := by
  unfold callA
  split
  · simp
  · split
    · simp
    · split
      · rename_i h; simp; omega
      · simp
theorem rTakes_in (l : List FnV) (s name : Int) : 0 ≤ (rTakes l s name).1 ∧ (rTakes l s name).1 ≤ 4 ∧ 0 ≤ (rTakes l s name).2.1 ∧ (rTakes l s name).2.1 ≤ 2 := by
  unfold rTakes
  repeat' split
  all_goals first | exact callA_in l name | simp
def baseOf (bs : List BkV) : Int := match bs.getLast? with | none => 0 | some b => b.base
/-- : ; ] -/
def rEnds (h : Int) (ys : List BkV) (x : BkV) (r : Int) : Bool × Int × List BkV :=
  if r = 58 then (true, x.base, ys ++ [⟨58, x.base, h, x.left⟩])
  else if x.sign = 58 then (if 0 ≤ x.other ∧ 0 ≤ h ∧ x.other ≠ h then (false, h, ys) else (true, max h x.other, ys))
  else if 0 ≤ h ∧ h ≠ x.base then (false, h, ys)
  else (true, (if x.sign = 91 ∧ x.left = false then -1 else x.base), ys)
/-- ~ -/
def rLeave (h : Int) (bs : List BkV) : Nat → Bool × Int × List BkV
  | 0 => (false, h, bs)
  | k + 1 => match bs[k]? with
    | none => (false, h, bs)
    | some x => if x.sign = 91 then (h == x.base, -1, bs.set k ⟨x.sign, x.base, x.other, true⟩) else rLeave h bs k
def isEnd (s : Int) : Prop := s = 58 ∨ s = 59 ∨ s = 93
instance (s : Int) : Decidable (isEnd s) := by unfold isEnd; exact inferInstance
/-- A token: the fault's number, or the height and the blocks behind it. -/
def rTok (l : List FnV) (h : Int) (bs : List BkV) (s name : Int) : Int × Int × List BkV :=
  if isEnd s then (match bs.getLast? with
    | none => (14, h, bs)
    | some x => match rEnds h bs.dropLast x s with | (true, h', bs') => (0, h', bs') | (false, h', bs') => (14, h', bs'))
  else if h < 0 then (15, h, bs)
  else match rTakes l s name with
    | (_, _, false) => (22, h, bs)
    | (p, g, true) =>
      if h - baseOf bs < p ∨ 64 < h - p + g then (14, h, bs)
      else if s = 63 ∨ s = 91 then (0, h - p + g, bs ++ [⟨s, h - p + g, 0, false⟩])
      else if s = 126 then (match rLeave (h - p + g) bs bs.length with | (true, h', bs') => (0, h', bs') | (false, h', bs') => (14, h', bs'))
      else if s = 161 then (0, -1, bs)
      else (0, h - p + g, bs)
/-- The tokens from one on. -/
def rWalk (l : List FnV) : List TkV → Int → List BkV → List Int → Int × List Int
  | [], h, _, out => if h ≠ 1 ∧ 0 ≤ h then (14, []) else (0, out)
  | t :: ts, h, bs, out => match rTok l h bs t.sign t.name with
    | (e, h', bs') => if e = 0 then rWalk l ts h' bs' (out ++ [h]) else (e, [])
def rFunc (l : List FnV) (code : ByteArray) : Int × List Int :=
  match tokR code with
  | none => (tokE code, [])
  | some ts => match rNest (signs ts) with
    | none => (13, [])
    | some _ => rWalk l ts 0 [] []
/-- How many blocks are open behind a sign. -/
def tokLen (s : Int) (n : Nat) : Nat := if s = 63 ∨ s = 91 then n + 1 else if s = 59 ∨ s = 93 then n - 1 else n
theorem rLeave_len (h : Int) (bs : List BkV) : ∀ k, (rLeave h bs k).2.2.length = bs.length
  | 0 => rfl
  | k + 1 => by
    rw [rLeave]
    split
    · rfl
    · split
      · simp
      · exact rLeave_len h bs k
theorem rTok_len {l : List FnV} {h : Int} {bs : List BkV} {s name : Int} (he : (rTok l h bs s name).1 = 0) : (rTok l h bs s name).2.2.length = tokLen s bs.length := by
  unfold rTok at he ⊢
  by_cases hs : isEnd s
  · rw [if_pos hs] at he ⊢
    rcases List.eq_nil_or_concat bs with rfl | ⟨ys, x, rfl⟩
    · simp at he
    · rw [List.concat_eq_append] at he ⊢
      simp only [List.getLast?_append, List.getLast?_singleton, Option.some_or, List.dropLast_concat, List.length_append, List.length_singleton] at he ⊢
      unfold rEnds at he ⊢
      rcases hs with rfl | rfl | rfl
      · simp [tokLen]
      · simp only [tokLen] at he ⊢
        split <;> simp_all
        all_goals (repeat' split at *) <;> simp_all
      · simp only [tokLen] at he ⊢
        split <;> simp_all
        all_goals (repeat' split at *) <;> simp_all
  · rw [if_neg hs] at he ⊢
    have hn : ¬ s = 59 ∧ ¬ s = 93 := by unfold isEnd at hs; omega
    by_cases hh : h < 0
    · rw [if_pos hh] at he; simp at he
    · rw [if_neg hh] at he ⊢
      rcases hT : rTakes l s name with ⟨p, g, ok⟩
      rw [hT] at he
      cases ok
      · simp at he
      · simp only at he ⊢
        by_cases hb : h - baseOf bs < p ∨ 64 < h - p + g
        · rw [if_pos hb] at he; simp at he
        · rw [if_neg hb] at he ⊢
          by_cases h6 : s = 63 ∨ s = 91
          · rw [if_pos h6]; simp [tokLen, h6]
          · rw [if_neg h6] at he ⊢
            have e : tokLen s bs.length = bs.length := by unfold tokLen; rw [if_neg h6, if_neg (by omega)]
            rw [e]
            by_cases h7 : s = 126
            · rw [if_pos h7] at he ⊢
              have := rLeave_len (h - p + g) bs bs.length
              rcases hR : rLeave (h - p + g) bs bs.length with ⟨b, h', bs'⟩
              rw [hR] at this
              cases b <;> exact this
            · rw [if_neg h7]
              split <;> rfl
end Go.Proofs.Ytfhgnoajfipjdaa
namespace Go.Proofs.Ytfhgnoajfipjdaa
open Go.RowKit
/-- A unit, as an argument. -/
def unitV (pages most : Int) (A : Option Addr) (n c : Nat) : Value := .agg #[.int .i64 pages, .int .i64 most, .slice A n c]
/-- The slice value '.slice A n c' is the functions l, whatever they are. -/
structure Fnr (W : World) (A : Option Addr) (n c : Nat) (l : List FnV) : Prop where
  len : l.length = n
  src : Src W A (fnCs l)
  cap : n ≤ c
  max : n ≤ 1000
  spot : 0 < n → ∀ ad, A = some ad → ad.spot = none
  args : ∀ f ∈ l, -9223372036854775808 ≤ f.args ∧ f.args ≤ 9223372036854775807
section
variable {W W' : World} {p : Nat} {A : Option Addr} {n c : Nat} {l : List FnV}
theorem Fnr.keep (h : Fnr W A n c l) (hc : Chg [] W W') : Fnr W' A n c l := ⟨h.len, h.src.keep hc, h.cap, h.max, h.spot, h.args⟩
theorem Fns.raw (h : Fns W p A n c l) : Fnr W A n c l := ⟨h.len, h.src, h.cap, h.max, fun hn ad e => (h.spot hn ad e).1, fun f hf => by have := h.args f hf; omega⟩
theorem Fnr.cell (h : Fnr W A n c l) {k : Nat} {t : FnV} (hk : l[k]? = some t) : ∃ b o, A = some ⟨b, o, none⟩ ∧ b < W.heap.size ∧ W.cell? ⟨b, o + k * 3, none⟩ = some (.int .i32 t.name) ∧ W.cell? ⟨b, o + k * 3 + 1, none⟩ = some (.int .i64 t.args) ∧ W.cell? ⟨b, o + k * 3 + 2, none⟩ = some (.string t.code) := by
  have hkl := (List.getElem?_eq_some_iff.1 hk).1
  obtain ⟨⟨b, o, s⟩, e, hb, hx⟩ := h.src (by rw [fnCs_len]; omega)
  obtain rfl : s = none := h.spot (by have := h.len; omega) _ e
  refine ⟨b, o, e, hb, ?_, ?_, ?_⟩
  · have := hx _ _ ((fnCs_get l k t 0 hk (by omega)).trans rfl); rwa [add_plain] at this
  · have := hx _ _ ((fnCs_get l k t 1 hk (by omega)).trans rfl); rwa [add_plain] at this
  · have := hx _ _ ((fnCs_get l k t 2 hk (by omega)).trans rfl); rwa [add_plain] at this
end
section
variable {w : World} {A : Option Addr} {n c : Nat} {l : List FnV} {pages most : Int}
def FindPost (i : Int) (w : World) (e : Ending) (w' : World) : Prop := e = .returned (.int .i64 i) ∧ Chg [] w w'
set_option maxHeartbeats 2000000 in
set_option maxRecDepth 100000 in
theorem find_any (h : Fnr w A n c l) (name : Int) : Calls Try.prog 167 #[unitV pages most A n c, .int .i32 name] w (FindPost (findI l name) w) := by
  unfold unitV
  have hmax := h.max
  have H := Lib.hid h
  have HL := Lib.hid h.len
  have HI := Lib.hid (show findK name l 0 = findK name (l.drop 0) 0 from rfl)
  have HN := Lib.hid (show findI l name = match findK name l 0 with | some k => (k : Int) | none => -1 from rfl)
  generalize findI l name = fi at HN ⊢
  clear h
  go_enter Try.func167, Try.ntmps167
  go_upto_region 1 with fail
  have hN := Whole.new w 28 [.int .i64 pages, .int .i64 most, .slice A n c]
  have hal : Chg [] w (w.alloc (.cells #[.int .i64 pages, .int .i64 most, .slice A n c] 28)) := (Chg.refl [] w).alloc _
  have c2 := hN.cell 2
  have HN := Lib.hid hN
  have HC := Lib.hid hal
  have HF := Lib.hid (H.out.keep hal)
  obtain ⟨g, hg⟩ : ∃ g, g = w.heap.size := ⟨_, rfl⟩
  rw [← hg] at c2 ⊢
  generalize w.alloc (.cells #[.int .i64 pages, .int .i64 most, .slice A n c] 28) = w1 at c2 HC HF ⊢
  clear hN hal hg HN
  go_wp2_with fail
  go_loopw [9] (fun i wr => ∃ k : Nat, i = .int .i64 (k : Int) ∧ k ≤ n ∧ Hid (findK name l 0 = findK name (l.drop k) k) ∧ wr = w1) (fun i _ => n - (intOf i).toNat)
  case atStart => exact ⟨0, rfl, by omega, HI, rfl⟩
  case round =>
    obtain ⟨k, rfl, hk, HK, hwr⟩ := hrel
    subst hwr
    by_cases hkn : k < n
    · have hkI : (k : Int) < (n : Int) := by omega
      obtain ⟨t, htk⟩ : ∃ t, l[k]? = some t := ⟨l[k]'(by rw [HF.out.len]; exact hkn), by simp⟩
      have HD := Lib.hid (show l.drop k = t :: l.drop (k + 1) from List.drop_eq_getElem?_toList_append.trans (by rw [htk]; rfl))
      obtain ⟨fb, fo, rfl, hfbl, e0, e1, e2⟩ := HF.out.cell htk
      clear htk e1 e2
      by_cases hnm : t.name = name
      · have hq : (t.name == name) = true := by simpa using hnm
        have HP := Lib.hid (show FindPost fi w (.returned (.int .i64 (k : Int))) wr from ⟨by rw [HN.out, HK.out, HD.out, findK, if_pos hnm], HC.out⟩)
        clear hnm
        go_wp2_with fail
        go_ret
        exact HP.out
      · have hq : (t.name == name) = false := by simpa using hnm
        have HK2 := Lib.hid (show findK name l 0 = findK name (l.drop (k + 1)) (k + 1) from by rw [HK.out, HD.out, findK, if_neg hnm])
        go_wp2_with fail
        go_roundw
        case rel => exact ⟨k + 1, by go_num, by omega, HK2, by first | rfl | trivial⟩
        case measure => simp [intOf]; omega
    · have hkI : (n : Int) ≤ (k : Int) := by omega
      have HP := Lib.hid (show FindPost fi w (.returned (.int .i64 (-1))) wr from ⟨by rw [HN.out, HK.out, List.drop_eq_nil_of_le (by rw [HL.out]; omega)]; rfl, HC.out⟩)
      go_wp2_with fail
      go_ret
      exact HP.out
end
end Go.Proofs.Ytfhgnoajfipjdaa
