/-
  EA: Fr, Mm, Fe, MmNew.
-/
import Derived.Test.YtfhgnoajfipjdaaZEA1
import Derived.Test.YtfhgnoajfipjdaaZEA2
import Derived.Test.YtfhgnoajfipjdaaZEA4
import Derived.Test.YtfhgnoajfipjdaaZEA5
import Derived.Test.YtfhgnoajfipjdaaZEA7
import Derived.Test.YtfhgnoajfipjdaaZEA8
import Derived.Test.YtfhgnoajfipjdaaChecked
import Derived.Deep.QuietTactic
import Derived.BigQuiet
import Derived.BigRegion
import Derived.Deep.RegionWith
namespace Go.Proofs.Ytfhgnoajfipjdaa
open Go.RowKit
structure Fr (B : Nat) (TS : List TypeId) (a b : World) : Prop where
  os : b.os = a.os
  tape : b.tape = a.tape
  output : b.output = a.output
  size : a.heap.size ≤ b.heap.size
  block : ∀ k, k < a.heap.size → (k < B ∨ ∀ cs t fz, a.heap[k]? = some (.cells cs t fz) → t ∉ TS) → b.heap[k]? = a.heap[k]?
section
variable {B : Nat} {TS : List TypeId} {a b c : World}
theorem Fr.refl (B : Nat) (TS : List TypeId) (a : World) : Fr B TS a a := ⟨rfl, rfl, rfl, Nat.le_refl _, fun _ _ _ => rfl⟩
theorem Fr.trans (h : Fr B TS a b) (k : Fr B TS b c) : Fr B TS a c := by
  refine ⟨k.os.trans h.os, k.tape.trans h.tape, k.output.trans h.output, Nat.le_trans h.size k.size, fun i hi hc => ?_⟩
  have h1 := h.block i hi hc
  rw [← h1]
  refine k.block i (Nat.lt_of_lt_of_le hi h.size) ?_
  rw [h1]
  exact hc
theorem Fr.of_chg (h : Chg [] a b) : Fr B TS a b := ⟨h.os, h.tape, h.output, h.size, fun k hk _ => h.block k hk (by simp)⟩
theorem Fr.new (h : Fr B TS a b) (k : Chg [] b c) : Fr B TS a c := h.trans (Fr.of_chg k)
theorem Fr.sub {B' : Nat} {TS' : List TypeId} (h : Fr B TS a b) (hB : B' ≤ B) (hT : ∀ t, t ∈ TS → t ∈ TS') : Fr B' TS' a b :=
  ⟨h.os, h.tape, h.output, h.size, fun k hk hc => h.block k hk (hc.imp (fun h => Nat.lt_of_lt_of_le h hB) (fun h cs t fz e ht => h cs t fz e (hT t ht)))⟩
theorem Fr.chg (h : Fr B TS a b) (hB : a.heap.size ≤ B) : Chg [] a b := ⟨h.os, h.tape, h.output, h.size, fun k hk _ => h.block k hk (.inl (Nat.lt_of_lt_of_le hk hB))⟩
theorem Fr.set (h : Fr B TS a b) {p : Addr} (hp : B ≤ p.block) {cs : Array Value} {t : TypeId} {fz : Nat × Nat} (hb : b.heap[p.block]? = some (.cells cs t fz)) (ht : t ∈ TS) (u : Value) : Fr B TS a (b.setCell p u) := by
  refine h.trans ⟨rfl, rfl, rfl, ?_, fun k hk hc => ?_⟩
  · rw [size_set]; exact Nat.le_refl _
  · refine Below.heap_setCell b p u k (fun e => ?_)
    subst e
    rcases hc with h1 | h1
    · omega
    · exact h1 cs t fz hb ht
theorem Fr.setw (h : Fr B TS a b) {g j t : Nat} {cs : List Value} (hW : Whole b g t cs) (hp : B ≤ g) (ht : t ∈ TS) (u : Value) : Fr B TS a (b.setCell ⟨g, j, none⟩ u) := h.set (p := ⟨g, j, none⟩) hp hW ht u
theorem Fr.seto (h : Fr B TS a b) {g j B2 k n m e : Nat} {xs : List Value} {cap : Nat} (ho : b.ownsRow B2 e k (.slice (some ⟨g, 0, none⟩) n cap) m xs) (hB : B ≤ B2) (ht : e ∈ TS) (u : Value) : Fr B TS a (b.setCell ⟨g, j, none⟩ u) := by
  rcases ho.2 with ⟨e', _⟩ | ⟨g', cap', cur, e', hb, hg, _⟩
  · cases e'
  · injection e' with e1 _ _
    injection e1 with e1
    injection e1 with e1
    subst e1
    exact h.set (p := ⟨g, j, none⟩) (Nat.le_trans hB hb) hg ht u
theorem Fr.grown (h : Fr B TS a b) {B2 k n e : Nat} {v : Value} {xs : List Value} (ho : b.ownsRow B2 e k v n xs) (hB : B ≤ B2) (ht : e ∈ TS) (hg : b.grownBy c v.ownBlock) : Fr B TS a c := by
  refine h.trans ⟨hg.os, hg.tape, hg.output, hg.size, fun i hi hc => hg.block i hi (fun hr => ?_)⟩
  rcases ho.2 with ⟨rfl, _⟩ | ⟨g', cap', cur, rfl, hb, hgb, _⟩
  · simp [Value.ownBlock] at hr
  · simp [Value.ownBlock] at hr
    subst hr
    rcases hc with h1 | h1
    · omega
    · exact h1 _ _ _ hgb ht
theorem Fr.whole (h : Fr B TS a b) {g t : Nat} {cs : List Value} (hW : Whole a g t cs) (ht : t ∉ TS) : Whole b g t cs :=
  (h.block g hW.lt (.inr fun _ _ _ e => by rw [show a.heap[g]? = _ from hW] at e; injection e with e; injection e with _ e2 _; subst e2; exact ht)).trans hW
theorem Fr.obj (h : Fr B TS a b) {k : Nat} {o : Obj} (ho : a.heap[k]? = some o) (hn : ∀ cs t fz, o ≠ .cells cs t fz) : b.heap[k]? = some o := by
  have hk : k < a.heap.size := by
    rcases Nat.lt_or_ge k a.heap.size with h | h
    · exact h
    · rw [Array.getElem?_eq_none h] at ho; cases ho
  rw [h.block k hk (.inr fun cs t fz e => by rw [ho] at e; injection e with e; exact absurd e (hn cs t fz)), ho]
theorem Fr.own (h : Fr B TS a b) {B2 k n e : Nat} {v : Value} {xs : List Value} (ho : a.ownsRow B2 e k v n xs) (ht : e ∉ TS) : b.ownsRow B2 e k v n xs := by
  refine ⟨ho.1, ?_⟩
  rcases ho.2 with h1 | ⟨g, cap, cur, rfl, hb, hg, r⟩
  · exact .inl h1
  · refine .inr ⟨g, cap, cur, rfl, hb, ?_, r⟩
    have hlt : g < a.heap.size := by
      rcases Nat.lt_or_ge g a.heap.size with h | h
      · exact h
      · rw [Array.getElem?_eq_none h] at hg; cases hg
    exact (h.block g hlt (.inr fun _ _ _ e => by rw [hg] at e; injection e with e; injection e with _ e2 _; subst e2; exact ht)).trans hg
end
end Go.Proofs.Ytfhgnoajfipjdaa
namespace Go.Proofs.Ytfhgnoajfipjdaa
open Go.RowKit

/-- A memory: its struct lies in block p, its bytes L in gC, what is dirty (V) in gD; X and Y are the spare room. -/
structure Mm (w : World) (p gC gD : Nat) (L : List UInt8) (X : List Value) (V : List Bool) (Y : List Value) (most : Nat) : Prop where
  rec_ : Whole w p 109 [.slice (some ⟨gC, 0, none⟩) L.length (L.length + X.length), .int .i64 (most : Int), .slice (some ⟨gD, 0, none⟩) V.length (V.length + Y.length)]
  cel : Whole w gC 5 (bts L ++ X)
  dir : Whole w gD 4 (bls V ++ Y)
  len : L.length = 64 * V.length
  le : V.length ≤ most
  top : most ≤ 64
  capX : L.length + X.length ≤ maxLen
  capY : V.length + Y.length ≤ maxLen

section
variable {w w' : World} {p gC gD : Nat} {L : List UInt8} {X : List Value} {V : List Bool} {Y : List Value} {most : Nat}
theorem Mm.keep (h : Mm w p gC gD L X V Y most) (hc : Chg [] w w') : Mm w' p gC gD L X V Y most :=
  ⟨h.rec_.keep hc, h.cel.keep hc, h.dir.keep hc, h.len, h.le, h.top, h.capX, h.capY⟩
theorem Mm.away {T : List Nat} (h : Mm w p gC gD L X V Y most) (hc : Chg T w w') (h0 : p ∉ T) (h1 : gC ∉ T) (h2 : gD ∉ T) : Mm w' p gC gD L X V Y most :=
  ⟨h.rec_.chg hc h0, h.cel.chg hc h1, h.dir.chg hc h2, h.len, h.le, h.top, h.capX, h.capY⟩
theorem Mm.small (h : Mm w p gC gD L X V Y most) : L.length ≤ 4096 := by have := h.len; have := h.le; have := h.top; omega
theorem Mm.smallV (h : Mm w p gC gD L X V Y most) : V.length ≤ 64 := by have := h.le; have := h.top; omega
theorem Mm.byte (h : Mm w p gC gD L X V Y most) (k : Nat) (hk : k < L.length) : w.cell? ⟨gC, k, none⟩ = some (B8 L[k]) := by
  rw [h.cel.cell, List.getElem?_append_left (by rw [bts_len]; exact hk)]
  exact bts_get L k hk
theorem Mm.bit (h : Mm w p gC gD L X V Y most) (k : Nat) (hk : k < V.length) : w.cell? ⟨gD, k, none⟩ = some (.bool V[k]) := by
  rw [h.dir.cell, List.getElem?_append_left (by rw [bls_len]; exact hk)]
  exact bls_get V k hk
theorem Mm.src (h : Mm w p gC gD L X V Y most) : Src w (some ⟨gC, 0, none⟩) (bts L) := by
  have := Src.of_whole h.cel 0 (bts L).length
  rwa [List.drop_zero, List.take_left' rfl] at this

theorem ret_i {x y : Int} (h : x = y) : Ending.returned (.int .i64 x) = .returned (.int .i64 y) := by rw [h]
set_option maxHeartbeats 400000 in
theorem width_any (b : Bool) : Calls Try.prog 185 #[.bool b] w fun e w' => e = .returned (.int .i64 (if b then 8 else 1)) ∧ w = w' := by
  cases b <;>
  · go_enter Try.func185, Try.ntmps185
    go_wp2_with fail
    go_ret
    exact ⟨rfl, rfl⟩
set_option maxHeartbeats 400000 in
theorem pages_any (h : Mm w p gC gD L X V Y most) : Calls Try.prog 168 #[.pointer (some ⟨p, 0, none⟩)] w fun e w' => e = .returned (.int .i64 (V.length : Int)) ∧ w = w' := by
  have c0 := h.rec_.cell 0
  have hl := Lib.hid h.len
  have b1 := h.small
  go_enter Try.func168, Try.ntmps168
  go_wp2_with fail
  go_ret
  exact ⟨ret_i (by have := hl.out; omega), rfl⟩
set_option maxHeartbeats 400000 in
theorem within_yes (h : Mm w p gC gD L X V Y most) (k s : Nat) (hs : s ≤ 8) (hk : k + s ≤ L.length) :
    Calls Try.prog 186 #[.pointer (some ⟨p, 0, none⟩), .int .i64 (k : Int), .int .i64 (s : Int)] w fun e w' => e = .returned (.bool true) ∧ w = w' := by
  have c0 := h.rec_.cell 0
  have b1 := h.small
  have hd : decide ((k : Int) ≤ (L.length : Int) - (s : Int)) = true := by simp; omega
  go_enter Try.func186, Try.ntmps186
  go_wp2_with fail
  go_ret
  exact ⟨rfl, rfl⟩
set_option maxHeartbeats 400000 in
theorem within_no (h : Mm w p gC gD L X V Y most) (k : Int) (s : Nat) (hs : s ≤ 8) (hk : k < 0 ∨ (L.length : Int) - s < k) :
    Calls Try.prog 186 #[.pointer (some ⟨p, 0, none⟩), .int .i64 k, .int .i64 (s : Int)] w fun e w' => e = .returned (.bool false) ∧ w = w' := by
  have c0 := h.rec_.cell 0
  have b1 := h.small
  by_cases h0 : 0 ≤ k
  · have hd : decide (k ≤ (L.length : Int) - (s : Int)) = false := by simp; omega
    clear hk
    go_enter Try.func186, Try.ntmps186
    go_wp2_with fail
    go_ret
    exact ⟨rfl, rfl⟩
  · have hd : decide (0 ≤ k) = false := by simpa using h0
    clear hk h0
    go_enter Try.func186, Try.ntmps186
    go_wp2_with fail
    go_ret
    exact ⟨rfl, rfl⟩
theorem ret2_eq {x y : Int} {b : Bool} (h : x = y) : Ending.returned (.tuple #[.int .i64 x, .bool b]) = .returned (.tuple #[.int .i64 y, .bool b]) := by rw [h]
set_option maxHeartbeats 400000 in
theorem load_no (h : Mm w p gC gD L X V Y most) (k : Int) (wide : Bool) (s : Nat) (hw : s = if wide then 8 else 1) (hk : k < 0 ∨ (L.length : Int) - s < k) :
    Calls Try.prog 170 #[.pointer (some ⟨p, 0, none⟩), .int .i64 k, .bool wide] w fun e w' => e = .returned (.tuple #[.int .i64 0, .bool false]) ∧ w = w' := by
  cases wide
  · simp only [Bool.false_eq_true, if_false] at hw
    subst hw
    go_enter Try.func170, Try.ntmps170
    go_wp2_with (first
      | (go_at_call 185; refine (width_any false).mono ?_; rintro e w' ⟨rfl, rfl⟩)
      | (go_at_call 186; refine (within_no h k 1 (by omega) hk).mono ?_; rintro e w' ⟨rfl, rfl⟩))
    go_ret2
    exact ⟨rfl, rfl⟩
  · simp only [if_true] at hw
    subst hw
    go_enter Try.func170, Try.ntmps170
    go_wp2_with (first
      | (go_at_call 185; refine (width_any true).mono ?_; rintro e w' ⟨rfl, rfl⟩)
      | (go_at_call 186; refine (within_no h k 8 (by omega) hk).mono ?_; rintro e w' ⟨rfl, rfl⟩))
    go_ret2
    exact ⟨rfl, rfl⟩
set_option maxHeartbeats 1000000 in
theorem load_yes (h : Mm w p gC gD L X V Y most) (k : Nat) (wide : Bool) (s : Nat) (hw : s = if wide then 8 else 1) (hk : k + s ≤ L.length) :
    Calls Try.prog 170 #[.pointer (some ⟨p, 0, none⟩), .int .i64 (k : Int), .bool wide] w fun e w' => e = .returned (.tuple #[.int .i64 (ldI L k s), .bool true]) ∧ w = w' := by
  have c0 := h.rec_.cell 0
  have b1 := h.small
  have s1 : s ≤ 8 := by subst hw; split <;> omega
  have s2 : 1 ≤ s := by subst hw; split <;> omega
  have HW := Lib.hid (show (if wide then (8 : Int) else 1) = (s : Int) by subst hw; cases wide <;> rfl)
  clear hw
  go_enter Try.func170, Try.ntmps170
  go_wp2_with (first
    | (go_at_call 185; refine (width_any wide).mono ?_; rintro e w' ⟨rfl, rfl⟩; rw [HW.out])
    | (go_at_call 186; refine (within_yes h k s s1 hk).mono ?_; rintro e w' ⟨rfl, rfl⟩))
  go_loop [9, 10] (fun a i => ∃ j : Nat, j ≤ s ∧ i = .int .i64 ((j : Int) - 1) ∧ a = .int .u64 (ldN ((L.drop (k + j)).take (s - j)) : Nat)) (fun _ i => (intOf i + 1).toNat)
  case atStart => exact ⟨s, Nat.le_refl _, rfl, by simp [ldN]⟩
  case round =>
    obtain ⟨j, hj, rfl, rfl⟩ := hrel
    by_cases h0 : 0 < j
    · obtain ⟨i, rfl⟩ : ∃ i, j = i + 1 := ⟨j - 1, by omega⟩
      have hki : k + i < L.length := by omega
      have hx := h.byte (k + i) hki
      unfold B8 at hx
      have hnx := ldN_next L k i (s - i) hki (by omega)
      have hlt := ldN_lt ((L.drop (k + i + 1)).take (s - (i + 1)))
      have hp : ldN ((L.drop (k + i + 1)).take (s - (i + 1))) < 72057594037927936 := by
        refine Nat.lt_of_lt_of_le hlt ?_
        have e7 : (256 : Nat) ^ 7 = 72057594037927936 := by decide
        rw [← e7]
        refine Nat.pow_le_pow_right (by omega) ?_
        rw [List.length_take]; omega
      rw [show s - i - 1 = s - (i + 1) by omega] at hnx
      have e1 : k + (i + 1) = k + i + 1 := rfl
      rw [e1]
      generalize ldN ((L.drop (k + i + 1)).take (s - (i + 1))) = a at *
      generalize L[k + i] = b at *
      have ho := u64_shl_or a b hp
      have HN := Lib.hid hnx
      have HO := Lib.hid ho
      have HB := Lib.hid (IntWalk.u64_in (b.toNat : Int) (by have := b.toNat_lt; omega))
      clear hnx hlt e1 ho
      have g1 : ((i + 1 : Nat) : Int) - 1 = (i : Int) := by omega
      rw [g1]
      have g2 : (0 : Int) ≤ (i : Int) := by omega
      go_wp2_with fail
      go_round
      case rel => exact ⟨i, by omega, rfl, by rw [HN.out, HB.out, HO.out]⟩
      case measure => simp [intOf] <;> omega
    · obtain rfl : j = 0 := by omega
      go_wp2_with fail
      go_ret2
      exact ⟨ret2_eq (by unfold ldI; first | rfl | exact (IntWalk.i64_left _).symm | (rw [IntWalk.i64_left]; rfl)), rfl⟩
end
end Go.Proofs.Ytfhgnoajfipjdaa
namespace Go.Proofs.Ytfhgnoajfipjdaa
open Go.RowKit
structure Fe (K : Nat → Prop) (TS : List TypeId) (a b : World) : Prop where
  os : b.os = a.os
  tape : b.tape = a.tape
  output : b.output = a.output
  size : a.heap.size ≤ b.heap.size
  block : ∀ k, k < a.heap.size → (¬ K k ∨ ∀ cs t fz, a.heap[k]? = some (.cells cs t fz) → t ∉ TS) → b.heap[k]? = a.heap[k]?
section
variable {K : Nat → Prop} {TS : List TypeId} {a b c : World}
theorem Fe.refl (K : Nat → Prop) (TS : List TypeId) (a : World) : Fe K TS a a := ⟨rfl, rfl, rfl, Nat.le_refl _, fun _ _ _ => rfl⟩
theorem Fe.trans (h : Fe K TS a b) (k : Fe K TS b c) : Fe K TS a c := by
  refine ⟨k.os.trans h.os, k.tape.trans h.tape, k.output.trans h.output, Nat.le_trans h.size k.size, fun i hi hc => ?_⟩
  have h1 := h.block i hi hc
  rw [← h1]
  refine k.block i (Nat.lt_of_lt_of_le hi h.size) ?_
  rw [h1]
  exact hc
theorem Fe.of_chg (h : Chg [] a b) : Fe K TS a b := ⟨h.os, h.tape, h.output, h.size, fun k hk _ => h.block k hk (by simp)⟩
theorem Fe.of_chgT {T : List Nat} (h : Chg T a b) (hT : ∀ i ∈ T, K i ∧ ∀ cs t fz, a.heap[i]? = some (.cells cs t fz) → t ∈ TS) (hO : ∀ i ∈ T, ∃ cs t fz, a.heap[i]? = some (.cells cs t fz)) : Fe K TS a b :=
  ⟨h.os, h.tape, h.output, h.size, fun k hk hc => h.block k hk fun hm => by
    obtain ⟨h1, h2⟩ := hT k hm
    obtain ⟨cs, t, fz, h3⟩ := hO k hm
    rcases hc with hc | hc
    · exact hc h1
    · exact hc cs t fz h3 (h2 cs t fz h3)⟩
theorem Fe.new (h : Fe K TS a b) (k : Chg [] b c) : Fe K TS a c := h.trans (Fe.of_chg k)
theorem Fe.sub {TS' : List TypeId} (h : Fe K TS a b) (hT : ∀ t, t ∈ TS → t ∈ TS') : Fe K TS' a b :=
  ⟨h.os, h.tape, h.output, h.size, fun k hk hc => h.block k hk (hc.imp id (fun h cs t fz e ht => h cs t fz e (hT t ht)))⟩
theorem Fe.chg {T : List Nat} {B : Nat} (h : Fe (fun k => B ≤ k ∨ k ∈ T) TS a b) (hB : a.heap.size ≤ B) : Chg T a b := ⟨h.os, h.tape, h.output, h.size, fun k hk hn => h.block k hk (.inl fun hc => by
  rcases hc with hc | hc
  · omega
  · exact hn hc)⟩
theorem Fe.set (h : Fe K TS a b) {p : Addr} (hp : K p.block) {cs : Array Value} {t : TypeId} {fz : Nat × Nat} (hb : b.heap[p.block]? = some (.cells cs t fz)) (ht : t ∈ TS) (u : Value) : Fe K TS a (b.setCell p u) := by
  refine h.trans ⟨rfl, rfl, rfl, ?_, fun k hk hc => ?_⟩
  · rw [size_set]; exact Nat.le_refl _
  · refine Below.heap_setCell b p u k (fun e => ?_)
    subst e
    rcases hc with h1 | h1
    · exact h1 hp
    · exact h1 cs t fz hb ht
theorem Fe.setw (h : Fe K TS a b) {g j t : Nat} {cs : List Value} (hW : Whole b g t cs) (hp : K g) (ht : t ∈ TS) (u : Value) : Fe K TS a (b.setCell ⟨g, j, none⟩ u) := h.set (p := ⟨g, j, none⟩) hp hW ht u
theorem Fe.seto (h : Fe K TS a b) {g j B2 k n m e : Nat} {xs : List Value} {cap : Nat} (ho : b.ownsRow B2 e k (.slice (some ⟨g, 0, none⟩) n cap) m xs) (hp : K g) (ht : e ∈ TS) (u : Value) : Fe K TS a (b.setCell ⟨g, j, none⟩ u) := by
  rcases ho.2 with ⟨e', _⟩ | ⟨g', cap', cur, e', hb, hg, _⟩
  · cases e'
  · injection e' with e1 _ _
    injection e1 with e1
    injection e1 with e1
    subst e1
    exact h.set (p := ⟨g, j, none⟩) hp hg ht u
theorem Fe.grown (h : Fe K TS a b) {B2 k n e : Nat} {v : Value} {xs : List Value} (ho : b.ownsRow B2 e k v n xs) (hK : ∀ i, v.ownBlock = some i → K i) (ht : e ∈ TS) (hg : b.grownBy c v.ownBlock) : Fe K TS a c := by
  refine h.trans ⟨hg.os, hg.tape, hg.output, hg.size, fun i hi hc => hg.block i hi (fun hr => ?_)⟩
  rcases ho.2 with ⟨rfl, _⟩ | ⟨g', cap', cur, rfl, hb, hgb, _⟩
  · simp [Value.ownBlock] at hr
  · simp [Value.ownBlock] at hr
    subst hr
    rcases hc with h1 | h1
    · exact h1 (hK _ rfl)
    · exact h1 _ _ _ hgb ht
theorem Fe.whole (h : Fe K TS a b) {g t : Nat} {cs : List Value} (hW : Whole a g t cs) (ht : t ∉ TS) : Whole b g t cs :=
  (h.block g hW.lt (.inr fun _ _ _ e => by rw [show a.heap[g]? = _ from hW] at e; injection e with e; injection e with _ e2 _; subst e2; exact ht)).trans hW
theorem Fe.own (h : Fe K TS a b) {B2 k n e : Nat} {v : Value} {xs : List Value} (ho : a.ownsRow B2 e k v n xs) (ht : e ∉ TS) : b.ownsRow B2 e k v n xs := by
  refine ⟨ho.1, ?_⟩
  rcases ho.2 with h1 | ⟨g, cap, cur, rfl, hb, hg, r⟩
  · exact .inl h1
  · refine .inr ⟨g, cap, cur, rfl, hb, ?_, r⟩
    have hlt : g < a.heap.size := by
      rcases Nat.lt_or_ge g a.heap.size with h | h
      · exact h
      · rw [Array.getElem?_eq_none h] at hg; cases hg
    exact (h.block g hlt (.inr fun _ _ _ e => by rw [hg] at e; injection e with e; injection e with _ e2 _; subst e2; exact ht)).trans hg
theorem Fe.mm (h : Fe K TS a b) {p gC gD : Nat} {L : List UInt8} {X : List Value} {V : List Bool} {Y : List Value} {most : Nat} (hM : Mm a p gC gD L X V Y most) (h1 : 109 ∉ TS) (h2 : 5 ∉ TS) (h3 : 4 ∉ TS) : Mm b p gC gD L X V Y most :=
  ⟨h.whole hM.rec_ h1, h.whole hM.cel h2, h.whole hM.dir h3, hM.len, hM.le, hM.top, hM.capX, hM.capY⟩
end
end Go.Proofs.Ytfhgnoajfipjdaa
namespace Go.Proofs.Ytfhgnoajfipjdaa
open Go.RowKit

/-- A new memory. -/
def NewPost (w : World) (l : List UInt8) (k most : Nat) (e : Ending) (w' : World) : Prop :=
  ∃ p gC gD, e = .returned (.pointer (some ⟨p, 0, none⟩)) ∧ Mm w' p gC gD l [] (falses k) [] most ∧ w.heap.size ≤ p ∧ w.heap.size ≤ gC ∧ w.heap.size ≤ gD ∧ Chg [] w w'

section
variable {w : World}
theorem NewPost.drew {l : List UInt8} {k most : Nat} {e : Ending} {w' : World} (h : NewPost w l k most e w') : NewPost w l k most e w'.drew := by
  obtain ⟨p, gC, gD, he, hM, h1, h2, h3, hc⟩ := h
  exact ⟨p, gC, gD, he, hM.keep (Chg.refl [] w').drew, h1, h2, h3, hc.drew⟩
theorem new_end {W : World} {q gC gD k most n : Nat} {l : List UInt8} (hq : q = W.heap.size) (hC : Whole W gC 5 (bts l)) (hD : Whole W gD 4 (bls (falses k))) (hn : l.length = n) (hl : n = 64 * k) (h1 : k ≤ most) (h2 : most ≤ 64)
    (hc : Chg [] w W) (b1 : w.heap.size ≤ gC) (b2 : w.heap.size ≤ gD) :
    NewPost w l k most (.returned (.pointer (some ⟨q, 0, none⟩))) (W.alloc (.cells #[.slice (some ⟨gC, 0, none⟩) n n, .int .i64 (most : Int), .slice (some ⟨gD, 0, none⟩) k k] 109)) := by
  subst hq hn
  have hk : ∀ o, Chg [] W (W.alloc o) := fun o => (Chg.refl [] W).alloc o
  refine ⟨W.heap.size, gC, gD, rfl, ⟨?_, by simpa using hC.keep (hk _), by simpa using hD.keep (hk _), by rw [falses_len]; exact hl, by rw [falses_len]; exact h1, h2, by unfold maxLen; simp; omega, by unfold maxLen; simp [falses_len]; omega⟩, hc.size, b1, b2, hc.alloc _⟩
  have := Whole.new W 109 [.slice (some ⟨gC, 0, none⟩) l.length l.length, .int .i64 (most : Int), .slice (some ⟨gD, 0, none⟩) k k]
  simpa [falses_len] using this

set_option maxHeartbeats 1000000 in
set_option maxRecDepth 100000 in
theorem cnew_yes (k most : Nat) (h1 : k ≤ most) (h2 : most ≤ 64) :
    Calls Try.prog 14 #[.int .i64 (k : Int), .int .i64 (most : Int)] w (NewPost w (zeros (k * 64)) k most) := by
  have hd2 : decide ((most : Int) < (k : Int)) = false := by simp; omega
  have hd3 : decide (64 < (most : Int)) = false := by simp; omega
  have hmk : ∀ W : World, (Instr.makeSlice 46 (.int .i64 ((k : Int) * 64)) (.int .i64 ((k : Int) * 64))).run Try.prog W = .ok (.slice (some ⟨W.heap.size, 0, none⟩) (k * 64) (k * 64)) (W.alloc (.cells (bts (zeros (k * 64))).toArray 5)) :=
    fun W => by
      have := make_u8 (k * 64) (by omega) W
      simpa using this
  have hmb : ∀ W : World, (Instr.makeSlice 107 (.int .i64 (k : Int)) (.int .i64 (k : Int))).run Try.prog W = .ok (.slice (some ⟨W.heap.size, 0, none⟩) k k) (W.alloc (.cells (bls (falses k)).toArray 4)) :=
    fun W => make_bool k (by omega) W
  have hz : (zeros (k * 64)).length = k * 64 := zeros_len _
  have HZ := Lib.hid hz
  clear hz
  have hw : IntKind.i64.wrap ((k : Int) * 64) = (k : Int) * 64 := IntWalk.i64_in _ (by omega)
  go_enter Try.func14, Try.ntmps14
  go_wp2_with fail
  go_region_with fail
  all_goals
    go_wp2_with fail
    go_ret
  · have hA := Whole.new w 5 (bts (zeros (k * 64)))
    have hB := Whole.new (w.alloc (.cells (bts (zeros (k * 64))).toArray 5)) 4 (bls (falses k))
    rw [show (w.alloc (.cells (bts (zeros (k * 64))).toArray 5)).heap.size = w.heap.size + 1 by simp] at hB
    exact (new_end (W := (w.alloc (.cells (bts (zeros (k * 64))).toArray 5)).alloc (.cells (bls (falses k)).toArray 4)) (by simp) (hA.keep ((Chg.refl [] _).alloc _)) hB HZ.out (by omega) h1 h2 (((Chg.refl [] w).alloc _).alloc _) (Nat.le_refl _) (by omega)).drew
  · have hA := Whole.new w 4 (bls (falses k))
    have hB := Whole.new (w.alloc (.cells (bls (falses k)).toArray 4)) 5 (bts (zeros (k * 64)))
    rw [show (w.alloc (.cells (bls (falses k)).toArray 4)).heap.size = w.heap.size + 1 by simp] at hB
    exact (new_end (W := (w.alloc (.cells (bls (falses k)).toArray 4)).alloc (.cells (bts (zeros (k * 64))).toArray 5)) (by simp) hB (hA.keep ((Chg.refl [] _).alloc _)) HZ.out (by omega) h1 h2 (((Chg.refl [] w).alloc _).alloc _) (by omega) (Nat.le_refl _)).drew

variable {A : Option Addr} {n c : Nat} {l : List UInt8}
end
end Go.Proofs.Ytfhgnoajfipjdaa
