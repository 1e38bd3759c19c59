/-
  EC: Fr, Mm, Fe, MmStore, VarFlow.
-/
import Derived.Test.YtfhgnoajfipjdaaZEC1
import Derived.Test.YtfhgnoajfipjdaaZEC5
import Derived.Test.YtfhgnoajfipjdaaZEC9
import Derived.Test.YtfhgnoajfipjdaaZEC10
import Derived.Test.YtfhgnoajfipjdaaChecked
import Derived.Deep.QuietTactic
import Derived.BigQuiet
import Derived.BigRegion
import Derived.Deep.RegionWith
import Derived.StillTailTactics
import Derived.Deep.AppendLies
namespace Go.Proofs.Ytfhgnoajfipjdaa
open Go.RowKit
structure Fr (B : Nat) (TS : List TypeId) (a b : World) : Prop where
  os : b.os = a.os
  tape : b.tape = a.tape
  output : b.output = a.output
  size : a.heap.size ≤ b.heap.size
  block : ∀ k, k < a.heap.size → (k < B ∨ ∀ cs t fz, a.heap[k]? = some (.cells cs t fz) → t ∉ TS) → b.heap[k]? = a.heap[k]?
section
variable {B : Nat} {TS : List TypeId} {a b c : World}
theorem Fr.refl (B : Nat) (TS : List TypeId) (a : World) : Fr B TS a a := ⟨rfl, rfl, rfl, Nat.le_refl _, fun _ _ _ => rfl⟩
theorem Fr.trans (h : Fr B TS a b) (k : Fr B TS b c) : Fr B TS a c := by
  refine ⟨k.os.trans h.os, k.tape.trans h.tape, k.output.trans h.output, Nat.le_trans h.size k.size, fun i hi hc => ?_⟩
  have h1 := h.block i hi hc
  rw [← h1]
  refine k.block i (Nat.lt_of_lt_of_le hi h.size) ?_
  rw [h1]
  exact hc
theorem Fr.of_chg (h : Chg [] a b) : Fr B TS a b := ⟨h.os, h.tape, h.output, h.size, fun k hk _ => h.block k hk (by simp)⟩
theorem Fr.new (h : Fr B TS a b) (k : Chg [] b c) : Fr B TS a c := h.trans (Fr.of_chg k)
theorem Fr.sub {B' : Nat} {TS' : List TypeId} (h : Fr B TS a b) (hB : B' ≤ B) (hT : ∀ t, t ∈ TS → t ∈ TS') : Fr B' TS' a b :=
  ⟨h.os, h.tape, h.output, h.size, fun k hk hc => h.block k hk (hc.imp (fun h => Nat.lt_of_lt_of_le h hB) (fun h cs t fz e ht => h cs t fz e (hT t ht)))⟩
theorem Fr.chg (h : Fr B TS a b) (hB : a.heap.size ≤ B) : Chg [] a b := ⟨h.os, h.tape, h.output, h.size, fun k hk _ => h.block k hk (.inl (Nat.lt_of_lt_of_le hk hB))⟩
theorem Fr.set (h : Fr B TS a b) {p : Addr} (hp : B ≤ p.block) {cs : Array Value} {t : TypeId} {fz : Nat × Nat} (hb : b.heap[p.block]? = some (.cells cs t fz)) (ht : t ∈ TS) (u : Value) : Fr B TS a (b.setCell p u) := by
  refine h.trans ⟨rfl, rfl, rfl, ?_, fun k hk hc => ?_⟩
  · rw [size_set]; exact Nat.le_refl _
  · refine Below.heap_setCell b p u k (fun e => ?_)
    subst e
    rcases hc with h1 | h1
    · omega
    · exact h1 cs t fz hb ht
theorem Fr.setw (h : Fr B TS a b) {g j t : Nat} {cs : List Value} (hW : Whole b g t cs) (hp : B ≤ g) (ht : t ∈ TS) (u : Value) : Fr B TS a (b.setCell ⟨g, j, none⟩ u) := h.set (p := ⟨g, j, none⟩) hp hW ht u
theorem Fr.seto (h : Fr B TS a b) {g j B2 k n m e : Nat} {xs : List Value} {cap : Nat} (ho : b.ownsRow B2 e k (.slice (some ⟨g, 0, none⟩) n cap) m xs) (hB : B ≤ B2) (ht : e ∈ TS) (u : Value) : Fr B TS a (b.setCell ⟨g, j, none⟩ u) := by
  rcases ho.2 with ⟨e', _⟩ | ⟨g', cap', cur, e', hb, hg, _⟩
  · cases e'
  · injection e' with e1 _ _
    injection e1 with e1
    injection e1 with e1
    subst e1
    exact h.set (p := ⟨g, j, none⟩) (Nat.le_trans hB hb) hg ht u
theorem Fr.grown (h : Fr B TS a b) {B2 k n e : Nat} {v : Value} {xs : List Value} (ho : b.ownsRow B2 e k v n xs) (hB : B ≤ B2) (ht : e ∈ TS) (hg : b.grownBy c v.ownBlock) : Fr B TS a c := by
  refine h.trans ⟨hg.os, hg.tape, hg.output, hg.size, fun i hi hc => hg.block i hi (fun hr => ?_)⟩
  rcases ho.2 with ⟨rfl, _⟩ | ⟨g', cap', cur, rfl, hb, hgb, _⟩
  · simp [Value.ownBlock] at hr
  · simp [Value.ownBlock] at hr
    subst hr
    rcases hc with h1 | h1
    · omega
    · exact h1 _ _ _ hgb ht
theorem Fr.whole (h : Fr B TS a b) {g t : Nat} {cs : List Value} (hW : Whole a g t cs) (ht : t ∉ TS) : Whole b g t cs :=
  (h.block g hW.lt (.inr fun _ _ _ e => by rw [show a.heap[g]? = _ from hW] at e; injection e with e; injection e with _ e2 _; subst e2; exact ht)).trans hW
theorem Fr.obj (h : Fr B TS a b) {k : Nat} {o : Obj} (ho : a.heap[k]? = some o) (hn : ∀ cs t fz, o ≠ .cells cs t fz) : b.heap[k]? = some o := by
  have hk : k < a.heap.size := by
    rcases Nat.lt_or_ge k a.heap.size with h | h
    · exact h
    · rw [Array.getElem?_eq_none h] at ho; cases ho
  rw [h.block k hk (.inr fun cs t fz e => by rw [ho] at e; injection e with e; exact absurd e (hn cs t fz)), ho]
theorem Fr.own (h : Fr B TS a b) {B2 k n e : Nat} {v : Value} {xs : List Value} (ho : a.ownsRow B2 e k v n xs) (ht : e ∉ TS) : b.ownsRow B2 e k v n xs := by
  refine ⟨ho.1, ?_⟩
  rcases ho.2 with h1 | ⟨g, cap, cur, rfl, hb, hg, r⟩
  · exact .inl h1
  · refine .inr ⟨g, cap, cur, rfl, hb, ?_, r⟩
    have hlt : g < a.heap.size := by
      rcases Nat.lt_or_ge g a.heap.size with h | h
      · exact h
      · rw [Array.getElem?_eq_none h] at hg; cases hg
    exact (h.block g hlt (.inr fun _ _ _ e => by rw [hg] at e; injection e with e; injection e with _ e2 _; subst e2; exact ht)).trans hg
end
end Go.Proofs.Ytfhgnoajfipjdaa
namespace Go.Proofs.Ytfhgnoajfipjdaa
open Go.RowKit

/-- A memory: its struct lies in block p, its bytes L in gC, what is dirty (V) in gD; X and Y are the spare room. -/
structure Mm (w : World) (p gC gD : Nat) (L : List UInt8) (X : List Value) (V : List Bool) (Y : List Value) (most : Nat) : Prop where
  rec_ : Whole w p 109 [.slice (some ⟨gC, 0, none⟩) L.length (L.length + X.length), .int .i64 (most : Int), .slice (some ⟨gD, 0, none⟩) V.length (V.length + Y.length)]
  cel : Whole w gC 5 (bts L ++ X)
  dir : Whole w gD 4 (bls V ++ Y)
  len : L.length = 64 * V.length
  le : V.length ≤ most
  top : most ≤ 64
  capX : L.length + X.length ≤ maxLen
  capY : V.length + Y.length ≤ maxLen

section
variable {w w' : World} {p gC gD : Nat} {L : List UInt8} {X : List Value} {V : List Bool} {Y : List Value} {most : Nat}
theorem Mm.keep (h : Mm w p gC gD L X V Y most) (hc : Chg [] w w') : Mm w' p gC gD L X V Y most :=
  ⟨h.rec_.keep hc, h.cel.keep hc, h.dir.keep hc, h.len, h.le, h.top, h.capX, h.capY⟩
theorem Mm.away {T : List Nat} (h : Mm w p gC gD L X V Y most) (hc : Chg T w w') (h0 : p ∉ T) (h1 : gC ∉ T) (h2 : gD ∉ T) : Mm w' p gC gD L X V Y most :=
  ⟨h.rec_.chg hc h0, h.cel.chg hc h1, h.dir.chg hc h2, h.len, h.le, h.top, h.capX, h.capY⟩
theorem Mm.small (h : Mm w p gC gD L X V Y most) : L.length ≤ 4096 := by have := h.len; have := h.le; have := h.top; omega
theorem Mm.smallV (h : Mm w p gC gD L X V Y most) : V.length ≤ 64 := by have := h.le; have := h.top; omega
theorem Mm.byte (h : Mm w p gC gD L X V Y most) (k : Nat) (hk : k < L.length) : w.cell? ⟨gC, k, none⟩ = some (B8 L[k]) := by
  rw [h.cel.cell, List.getElem?_append_left (by rw [bts_len]; exact hk)]
  exact bts_get L k hk
theorem Mm.bit (h : Mm w p gC gD L X V Y most) (k : Nat) (hk : k < V.length) : w.cell? ⟨gD, k, none⟩ = some (.bool V[k]) := by
  rw [h.dir.cell, List.getElem?_append_left (by rw [bls_len]; exact hk)]
  exact bls_get V k hk
theorem Mm.src (h : Mm w p gC gD L X V Y most) : Src w (some ⟨gC, 0, none⟩) (bts L) := by
  have := Src.of_whole h.cel 0 (bts L).length
  rwa [List.drop_zero, List.take_left' rfl] at this

theorem ret_i {x y : Int} (h : x = y) : Ending.returned (.int .i64 x) = .returned (.int .i64 y) := by rw [h]
set_option maxHeartbeats 400000 in
theorem width_any (b : Bool) : Calls Try.prog 185 #[.bool b] w fun e w' => e = .returned (.int .i64 (if b then 8 else 1)) ∧ w = w' := by
  cases b <;>
  · go_enter Try.func185, Try.ntmps185
    go_wp2_with fail
    go_ret
    exact ⟨rfl, rfl⟩
set_option maxHeartbeats 400000 in
theorem pages_any (h : Mm w p gC gD L X V Y most) : Calls Try.prog 168 #[.pointer (some ⟨p, 0, none⟩)] w fun e w' => e = .returned (.int .i64 (V.length : Int)) ∧ w = w' := by
  have c0 := h.rec_.cell 0
  have hl := Lib.hid h.len
  have b1 := h.small
  go_enter Try.func168, Try.ntmps168
  go_wp2_with fail
  go_ret
  exact ⟨ret_i (by have := hl.out; omega), rfl⟩
set_option maxHeartbeats 400000 in
theorem within_yes (h : Mm w p gC gD L X V Y most) (k s : Nat) (hs : s ≤ 8) (hk : k + s ≤ L.length) :
    Calls Try.prog 186 #[.pointer (some ⟨p, 0, none⟩), .int .i64 (k : Int), .int .i64 (s : Int)] w fun e w' => e = .returned (.bool true) ∧ w = w' := by
  have c0 := h.rec_.cell 0
  have b1 := h.small
  have hd : decide ((k : Int) ≤ (L.length : Int) - (s : Int)) = true := by simp; omega
  go_enter Try.func186, Try.ntmps186
  go_wp2_with fail
  go_ret
  exact ⟨rfl, rfl⟩
set_option maxHeartbeats 400000 in
theorem within_no (h : Mm w p gC gD L X V Y most) (k : Int) (s : Nat) (hs : s ≤ 8) (hk : k < 0 ∨ (L.length : Int) - s < k) :
    Calls Try.prog 186 #[.pointer (some ⟨p, 0, none⟩), .int .i64 k, .int .i64 (s : Int)] w fun e w' => e = .returned (.bool false) ∧ w = w' := by
  have c0 := h.rec_.cell 0
  have b1 := h.small
  by_cases h0 : 0 ≤ k
  · have hd : decide (k ≤ (L.length : Int) - (s : Int)) = false := by simp; omega
    clear hk
    go_enter Try.func186, Try.ntmps186
    go_wp2_with fail
    go_ret
    exact ⟨rfl, rfl⟩
  · have hd : decide (0 ≤ k) = false := by simpa using h0
    clear hk h0
    go_enter Try.func186, Try.ntmps186
    go_wp2_with fail
    go_ret
    exact ⟨rfl, rfl⟩
theorem ret2_eq {x y : Int} {b : Bool} (h : x = y) : Ending.returned (.tuple #[.int .i64 x, .bool b]) = .returned (.tuple #[.int .i64 y, .bool b]) := by rw [h]
set_option maxHeartbeats 400000 in
theorem load_no (h : Mm w p gC gD L X V Y most) (k : Int) (wide : Bool) (s : Nat) (hw : s = if wide then 8 else 1) (hk : k < 0 ∨ (L.length : Int) - s < k) :
    Calls Try.prog 170 #[.pointer (some ⟨p, 0, none⟩), .int .i64 k, .bool wide] w fun e w' => e = .returned (.tuple #[.int .i64 0, .bool false]) ∧ w = w' := by
  cases wide
  · simp only [Bool.false_eq_true, if_false] at hw
    subst hw
    go_enter Try.func170, Try.ntmps170
    go_wp2_with (first
      | (go_at_call 185; refine (width_any false).mono ?_; rintro e w' ⟨rfl, rfl⟩)
      | (go_at_call 186; refine (within_no h k 1 (by omega) hk).mono ?_; rintro e w' ⟨rfl, rfl⟩))
    go_ret2
    exact ⟨rfl, rfl⟩
  · simp only [if_true] at hw
    subst hw
    go_enter Try.func170, Try.ntmps170
    go_wp2_with (first
      | (go_at_call 185; refine (width_any true).mono ?_; rintro e w' ⟨rfl, rfl⟩)
      | (go_at_call 186; refine (within_no h k 8 (by omega) hk).mono ?_; rintro e w' ⟨rfl, rfl⟩))
    go_ret2
    exact ⟨rfl, rfl⟩
set_option maxHeartbeats 1000000 in
theorem load_yes (h : Mm w p gC gD L X V Y most) (k : Nat) (wide : Bool) (s : Nat) (hw : s = if wide then 8 else 1) (hk : k + s ≤ L.length) :
    Calls Try.prog 170 #[.pointer (some ⟨p, 0, none⟩), .int .i64 (k : Int), .bool wide] w fun e w' => e = .returned (.tuple #[.int .i64 (ldI L k s), .bool true]) ∧ w = w' := by
  have c0 := h.rec_.cell 0
  have b1 := h.small
  have s1 : s ≤ 8 := by subst hw; split <;> omega
  have s2 : 1 ≤ s := by subst hw; split <;> omega
  have HW := Lib.hid (show (if wide then (8 : Int) else 1) = (s : Int) by subst hw; cases wide <;> rfl)
  clear hw
  go_enter Try.func170, Try.ntmps170
  go_wp2_with (first
    | (go_at_call 185; refine (width_any wide).mono ?_; rintro e w' ⟨rfl, rfl⟩; rw [HW.out])
    | (go_at_call 186; refine (within_yes h k s s1 hk).mono ?_; rintro e w' ⟨rfl, rfl⟩))
  go_loop [9, 10] (fun a i => ∃ j : Nat, j ≤ s ∧ i = .int .i64 ((j : Int) - 1) ∧ a = .int .u64 (ldN ((L.drop (k + j)).take (s - j)) : Nat)) (fun _ i => (intOf i + 1).toNat)
  case atStart => exact ⟨s, Nat.le_refl _, rfl, by simp [ldN]⟩
  case round =>
    obtain ⟨j, hj, rfl, rfl⟩ := hrel
    by_cases h0 : 0 < j
    · obtain ⟨i, rfl⟩ : ∃ i, j = i + 1 := ⟨j - 1, by omega⟩
      have hki : k + i < L.length := by omega
      have hx := h.byte (k + i) hki
      unfold B8 at hx
      have hnx := ldN_next L k i (s - i) hki (by omega)
      have hlt := ldN_lt ((L.drop (k + i + 1)).take (s - (i + 1)))
      have hp : ldN ((L.drop (k + i + 1)).take (s - (i + 1))) < 72057594037927936 := by
        refine Nat.lt_of_lt_of_le hlt ?_
        have e7 : (256 : Nat) ^ 7 = 72057594037927936 := by decide
        rw [← e7]
        refine Nat.pow_le_pow_right (by omega) ?_
        rw [List.length_take]; omega
      rw [show s - i - 1 = s - (i + 1) by omega] at hnx
      have e1 : k + (i + 1) = k + i + 1 := rfl
      rw [e1]
      generalize ldN ((L.drop (k + i + 1)).take (s - (i + 1))) = a at *
      generalize L[k + i] = b at *
      have ho := u64_shl_or a b hp
      have HN := Lib.hid hnx
      have HO := Lib.hid ho
      have HB := Lib.hid (IntWalk.u64_in (b.toNat : Int) (by have := b.toNat_lt; omega))
      clear hnx hlt e1 ho
      have g1 : ((i + 1 : Nat) : Int) - 1 = (i : Int) := by omega
      rw [g1]
      have g2 : (0 : Int) ≤ (i : Int) := by omega
      go_wp2_with fail
      go_round
      case rel => exact ⟨i, by omega, rfl, by rw [HN.out, HB.out, HO.out]⟩
      case measure => simp [intOf] <;> omega
    · obtain rfl : j = 0 := by omega
      go_wp2_with fail
      go_ret2
      exact ⟨ret2_eq (by unfold ldI; first | rfl | exact (IntWalk.i64_left _).symm | (rw [IntWalk.i64_left]; rfl)), rfl⟩
end
end Go.Proofs.Ytfhgnoajfipjdaa
namespace Go.Proofs.Ytfhgnoajfipjdaa
open Go.RowKit
structure Fe (K : Nat → Prop) (TS : List TypeId) (a b : World) : Prop where
  os : b.os = a.os
  tape : b.tape = a.tape
  output : b.output = a.output
  size : a.heap.size ≤ b.heap.size
  block : ∀ k, k < a.heap.size → (¬ K k ∨ ∀ cs t fz, a.heap[k]? = some (.cells cs t fz) → t ∉ TS) → b.heap[k]? = a.heap[k]?
section
variable {K : Nat → Prop} {TS : List TypeId} {a b c : World}
theorem Fe.refl (K : Nat → Prop) (TS : List TypeId) (a : World) : Fe K TS a a := ⟨rfl, rfl, rfl, Nat.le_refl _, fun _ _ _ => rfl⟩
theorem Fe.trans (h : Fe K TS a b) (k : Fe K TS b c) : Fe K TS a c := by
  refine ⟨k.os.trans h.os, k.tape.trans h.tape, k.output.trans h.output, Nat.le_trans h.size k.size, fun i hi hc => ?_⟩
  have h1 := h.block i hi hc
  rw [← h1]
  refine k.block i (Nat.lt_of_lt_of_le hi h.size) ?_
  rw [h1]
  exact hc
theorem Fe.of_chg (h : Chg [] a b) : Fe K TS a b := ⟨h.os, h.tape, h.output, h.size, fun k hk _ => h.block k hk (by simp)⟩
theorem Fe.of_chgT {T : List Nat} (h : Chg T a b) (hT : ∀ i ∈ T, K i ∧ ∀ cs t fz, a.heap[i]? = some (.cells cs t fz) → t ∈ TS) (hO : ∀ i ∈ T, ∃ cs t fz, a.heap[i]? = some (.cells cs t fz)) : Fe K TS a b :=
  ⟨h.os, h.tape, h.output, h.size, fun k hk hc => h.block k hk fun hm => by
    obtain ⟨h1, h2⟩ := hT k hm
    obtain ⟨cs, t, fz, h3⟩ := hO k hm
    rcases hc with hc | hc
    · exact hc h1
    · exact hc cs t fz h3 (h2 cs t fz h3)⟩
theorem Fe.new (h : Fe K TS a b) (k : Chg [] b c) : Fe K TS a c := h.trans (Fe.of_chg k)
theorem Fe.sub {TS' : List TypeId} (h : Fe K TS a b) (hT : ∀ t, t ∈ TS → t ∈ TS') : Fe K TS' a b :=
  ⟨h.os, h.tape, h.output, h.size, fun k hk hc => h.block k hk (hc.imp id (fun h cs t fz e ht => h cs t fz e (hT t ht)))⟩
theorem Fe.chg {T : List Nat} {B : Nat} (h : Fe (fun k => B ≤ k ∨ k ∈ T) TS a b) (hB : a.heap.size ≤ B) : Chg T a b := ⟨h.os, h.tape, h.output, h.size, fun k hk hn => h.block k hk (.inl fun hc => by
  rcases hc with hc | hc
  · omega
  · exact hn hc)⟩
theorem Fe.set (h : Fe K TS a b) {p : Addr} (hp : K p.block) {cs : Array Value} {t : TypeId} {fz : Nat × Nat} (hb : b.heap[p.block]? = some (.cells cs t fz)) (ht : t ∈ TS) (u : Value) : Fe K TS a (b.setCell p u) := by
  refine h.trans ⟨rfl, rfl, rfl, ?_, fun k hk hc => ?_⟩
  · rw [size_set]; exact Nat.le_refl _
  · refine Below.heap_setCell b p u k (fun e => ?_)
    subst e
    rcases hc with h1 | h1
    · exact h1 hp
    · exact h1 cs t fz hb ht
theorem Fe.setw (h : Fe K TS a b) {g j t : Nat} {cs : List Value} (hW : Whole b g t cs) (hp : K g) (ht : t ∈ TS) (u : Value) : Fe K TS a (b.setCell ⟨g, j, none⟩ u) := h.set (p := ⟨g, j, none⟩) hp hW ht u
theorem Fe.seto (h : Fe K TS a b) {g j B2 k n m e : Nat} {xs : List Value} {cap : Nat} (ho : b.ownsRow B2 e k (.slice (some ⟨g, 0, none⟩) n cap) m xs) (hp : K g) (ht : e ∈ TS) (u : Value) : Fe K TS a (b.setCell ⟨g, j, none⟩ u) := by
  rcases ho.2 with ⟨e', _⟩ | ⟨g', cap', cur, e', hb, hg, _⟩
  · cases e'
  · injection e' with e1 _ _
    injection e1 with e1
    injection e1 with e1
    subst e1
    exact h.set (p := ⟨g, j, none⟩) hp hg ht u
theorem Fe.grown (h : Fe K TS a b) {B2 k n e : Nat} {v : Value} {xs : List Value} (ho : b.ownsRow B2 e k v n xs) (hK : ∀ i, v.ownBlock = some i → K i) (ht : e ∈ TS) (hg : b.grownBy c v.ownBlock) : Fe K TS a c := by
  refine h.trans ⟨hg.os, hg.tape, hg.output, hg.size, fun i hi hc => hg.block i hi (fun hr => ?_)⟩
  rcases ho.2 with ⟨rfl, _⟩ | ⟨g', cap', cur, rfl, hb, hgb, _⟩
  · simp [Value.ownBlock] at hr
  · simp [Value.ownBlock] at hr
    subst hr
    rcases hc with h1 | h1
    · exact h1 (hK _ rfl)
    · exact h1 _ _ _ hgb ht
theorem Fe.whole (h : Fe K TS a b) {g t : Nat} {cs : List Value} (hW : Whole a g t cs) (ht : t ∉ TS) : Whole b g t cs :=
  (h.block g hW.lt (.inr fun _ _ _ e => by rw [show a.heap[g]? = _ from hW] at e; injection e with e; injection e with _ e2 _; subst e2; exact ht)).trans hW
theorem Fe.own (h : Fe K TS a b) {B2 k n e : Nat} {v : Value} {xs : List Value} (ho : a.ownsRow B2 e k v n xs) (ht : e ∉ TS) : b.ownsRow B2 e k v n xs := by
  refine ⟨ho.1, ?_⟩
  rcases ho.2 with h1 | ⟨g, cap, cur, rfl, hb, hg, r⟩
  · exact .inl h1
  · refine .inr ⟨g, cap, cur, rfl, hb, ?_, r⟩
    have hlt : g < a.heap.size := by
      rcases Nat.lt_or_ge g a.heap.size with h | h
      · exact h
      · rw [Array.getElem?_eq_none h] at hg; cases hg
    exact (h.block g hlt (.inr fun _ _ _ e => by rw [hg] at e; injection e with e; injection e with _ e2 _; subst e2; exact ht)).trans hg
theorem Fe.mm (h : Fe K TS a b) {p gC gD : Nat} {L : List UInt8} {X : List Value} {V : List Bool} {Y : List Value} {most : Nat} (hM : Mm a p gC gD L X V Y most) (h1 : 109 ∉ TS) (h2 : 5 ∉ TS) (h3 : 4 ∉ TS) : Mm b p gC gD L X V Y most :=
  ⟨h.whole hM.rec_ h1, h.whole hM.cel h2, h.whole hM.dir h3, hM.len, hM.le, hM.top, hM.capX, hM.capY⟩
end
end Go.Proofs.Ytfhgnoajfipjdaa
namespace Go.Proofs.Ytfhgnoajfipjdaa
open Go.RowKit
section
variable {w w' : World} {p gC gD : Nat} {L : List UInt8} {X : List Value} {V : List Bool} {Y : List Value} {most : Nat}
theorem store_step (h : Mm w p gC gD L X V Y most) (k i : Nat) (n : Int) (b : UInt8) (hb : b = byteN n i) (hk : k + i < L.length) :
    Mm ((w.setCell ⟨gC, k + i, none⟩ (B8 b)).setCell ⟨gD, (k + i) / 64, none⟩ (.bool true)) p gC gD (L.set (k + i) (byteN n i)) X (V.set ((k + i) / 64) true) Y most ∧
      Chg [gC, gD] w ((w.setCell ⟨gC, k + i, none⟩ (B8 b)).setCell ⟨gD, (k + i) / 64, none⟩ (.bool true)) := by
  subst hb
  have d0 := h.rec_.ne_ h.cel (by decide)
  have d1 := h.rec_.ne_ h.dir (by decide)
  have d2 := h.cel.ne_ h.dir (by decide)
  have hl := h.len
  have hc := h.cel.set_ (k + i) (B8 (byteN n i))
  rw [List.set_append_left _ _ (by rw [bts_len]; exact hk), bts_set] at hc
  have hd := (h.dir.far (p := ⟨gC, k + i, none⟩) (Ne.symm d2) (B8 (byteN n i))).set_ ((k + i) / 64) (.bool true)
  rw [List.set_append_left _ _ (by rw [bls_len]; omega), bls_set] at hd
  refine ⟨⟨?_, hc.far d2 _, hd, by rw [List.length_set, List.length_set]; exact h.len, by rw [List.length_set]; exact h.le, h.top, by rw [List.length_set]; exact h.capX, by rw [List.length_set]; exact h.capY⟩, ?_⟩
  · rw [List.length_set, List.length_set]
    exact (h.rec_.far d0 _).far d1 _
  · exact ((Chg.refl [gC, gD] w).setCell (by simp) _).setCell (by simp) _
set_option maxHeartbeats 400000 in
theorem store_no (h : Mm w p gC gD L X V Y most) (k n : Int) (wide : Bool) (s : Nat) (hw : s = if wide then 8 else 1) (hk : k < 0 ∨ (L.length : Int) - s < k) :
    Calls Try.prog 171 #[.pointer (some ⟨p, 0, none⟩), .int .i64 k, .int .i64 n, .bool wide] w fun e w' => e = .returned (.bool false) ∧ w = w' := by
  have s1 : s ≤ 8 := by subst hw; split <;> omega
  have HW := Lib.hid (show (if wide then (8 : Int) else 1) = (s : Int) by subst hw; cases wide <;> rfl)
  have HK := Lib.hid hk
  clear hw hk
  go_enter Try.func171, Try.ntmps171
  go_wp2_with (first
    | (go_at_call 185; refine (width_any wide).mono ?_; rintro e w' ⟨rfl, rfl⟩; rw [HW.out])
    | (go_at_call 186; refine (within_no h k s s1 HK.out).mono ?_; rintro e w' ⟨rfl, rfl⟩))
  go_ret
  exact ⟨rfl, rfl⟩
/-- Store's post. -/
def StorePost (w : World) (p gC gD : Nat) (L : List UInt8) (X : List Value) (V : List Bool) (Y : List Value) (most k : Nat) (n : Int) (s : Nat) (e : Ending) (w' : World) : Prop :=
  e = .returned (.bool true) ∧ Mm w' p gC gD (stL L k n s) X (stV V k s) Y most ∧ Chg [gC, gD] w w'
set_option maxHeartbeats 2000000 in
set_option maxRecDepth 100000 in
theorem store_yes (h : Mm w p gC gD L X V Y most) (k : Nat) (n : Int) (wide : Bool) (s : Nat) (hw : s = if wide then 8 else 1) (hk : k + s ≤ L.length) :
    Calls Try.prog 171 #[.pointer (some ⟨p, 0, none⟩), .int .i64 (k : Int), .int .i64 n, .bool wide] w (StorePost w p gC gD L X V Y most k n s) := by
  have b1 := h.small
  have hlen := h.len
  have s1 : s ≤ 8 := by subst hw; split <;> omega
  have HW := Lib.hid (show (if wide then (8 : Int) else 1) = (s : Int) by subst hw; cases wide <;> rfl)
  have HL := Lib.hid hlen
  clear hw hlen
  go_enter Try.func171, Try.ntmps171
  go_wp2_with (first
    | (go_at_call 185; refine (width_any wide).mono ?_; rintro e w' ⟨rfl, rfl⟩; rw [HW.out])
    | (go_at_call 186; refine (within_yes h k s s1 hk).mono ?_; rintro e w' ⟨rfl, rfl⟩))
  go_loopw [19] (fun i wr => ∃ m : Nat, m ≤ s ∧ i = .int .i64 (m : Int) ∧ Mm wr p gC gD (stL L k n m) X (stV V k m) Y most ∧ Chg [gC, gD] w wr) (fun i _ => s - (intOf i).toNat)
  case atStart => exact ⟨0, by omega, rfl, h, Chg.refl _ _⟩
  case round =>
    obtain ⟨m, hm, rfl, hM, hC⟩ := hrel
    by_cases hlt : m < s
    · have hki : k + m < (stL L k n m).length := by rw [stL_len]; omega
      have hst := store_step hM k m n (byteN n m) rfl hki
      have hl1 : (stL L k n m).length = L.length := stL_len _ _ _ _
      have hl2 : (stV V k m).length = V.length := stV_len _ _ _
      have c0 := hM.rec_.cell 0
      have c2 := hM.rec_.cell 2
      have cb := hM.byte (k + m) hki
      have hx64 : (k + m) / 64 < (stV V k m).length := by rw [hl2]; have := HL.out; omega
      have cd := hM.bit ((k + m) / 64) hx64
      have fc := hM.cel.frozen (k + m)
      have fd := hM.dir.frozen ((k + m) / 64)
      have dcd := hM.cel.ne_ hM.dir (by decide)
      have dpc := hM.rec_.ne_ hM.cel (by decide)
      have hby := Lib.hid (byteN_int n m)
      rw [hl1] at c0 c2
      rw [hl2] at c0 c2
      have HC := Lib.hid hC
      have HST := Lib.hid hst
      have HM := Lib.hid hM
      have e1 : IntKind.i64.wrap ((k : Int) + (m : Int)) = (k : Int) + (m : Int) := IntWalk.i64_in _ (by omega)
      have e2 : ((k : Int) + (m : Int)).toNat = k + m := by omega
      have e3 : (0 : Int) ≤ (k : Int) + (m : Int) := by omega
      have e4 : IntKind.i64.wrap (8 * (m : Int)) = 8 * (m : Int) := IntWalk.i64_in _ (by omega)
      have e5 : (8 * (m : Int)).toNat = 8 * m := by omega
      have e6 : (0 : Int) ≤ 8 * (m : Int) := by omega
      have e7 : min (8 * m) 64 = 8 * m := by omega
      have e8 : k + m < L.length := by omega
      have e9 : (k + m) / 64 < V.length := by have := HL.out; omega
      clear hl1 hl2 hC hst hM
      go_wp2_with fail
      go_still_tail 12, (by kernel_rfl)
      change wpList _ _ _ _ _ wr.drew
      go_wp2_with fail
      · go_roundw
        case rel =>
          have hq := HST.out
          unfold B8 at hq
          rw [hby.out] at hq
          exact ⟨m + 1, by omega, by go_num, hq.1.keep (Chg.refl [] _).drew, (HC.out.trans hq.2).drew⟩
        case measure => simp [intOf] <;> omega
    · obtain rfl : m = s := by omega
      go_wp2_with fail
      go_ret
      exact ⟨rfl, hM, hC⟩
end
end Go.Proofs.Ytfhgnoajfipjdaa
namespace Go.Proofs.Ytfhgnoajfipjdaa
open Go.RowKit
/-- Only rows of type t, from B on, have turned; a row of n cells stays one, and keeps what it has come to. -/
structure RV (B t n : Nat) (P : List Value → World → Prop) (a b : World) : Prop where
  fe : Fe (fun k => B ≤ k ∨ k ∈ []) [t] a b
  res : ∀ g cs, Whole a g t cs → cs.length = n → ∃ cs', Whole b g t cs' ∧ cs'.length = n ∧ (P cs a → P cs' b)
def vT (B t n : Nat) (P : List Value → World → Prop) : Turns := ⟨RV B t n P, RV B t n P, [], []⟩
/-- P says nothing that such a turn could end. -/
def PKeeps (B t : Nat) (P : List Value → World → Prop) : Prop := ∀ cs a b, P cs a → Fe (fun k => B ≤ k ∨ k ∈ []) [t] a b → P cs b
section
variable {B t n : Nat} {P : List Value → World → Prop} {a b c : World}
theorem RV.of_chg (hP : PKeeps B t P) (h : Chg [] a b) : RV B t n P a b := ⟨Fe.of_chg h, fun _ cs hW hl => ⟨cs, hW.keep h, hl, fun hp => hP cs a b hp (Fe.of_chg h)⟩⟩
theorem RV.trans (h : RV B t n P a b) (k : RV B t n P b c) : RV B t n P a c := ⟨h.fe.trans k.fe, fun g cs hW hl => by
  obtain ⟨c1, h1, h2, h3⟩ := h.res g cs hW hl
  obtain ⟨c2, k1, k2, k3⟩ := k.res g c1 h1 h2
  exact ⟨c2, k1, k2, fun hp => k3 (h3 hp)⟩⟩
theorem vT_ok (hP : PKeeps B t P) : (vT B t n P).Ok := ⟨fun _ => RV.of_chg hP (Chg.refl _ _), fun _ _ h => h, fun _ _ _ h k => h.trans k⟩
theorem v_by (k : Nat) {W W' : World} (h : RV B t n P W W') : (vT B t n P).by_ k W W' := by
  unfold Turns.by_
  split <;> exact h
end
def vrF (B t n : Nat) : Fact := fun v W => ∃ g cs, v = .pointer (some ⟨g, 0, none⟩) ∧ B ≤ g ∧ Whole W g t cs ∧ cs.length = n
def vpF (B t n : Nat) (P : List Value → World → Prop) : Fact := fun v W => ∃ g cs, v = .pointer (some ⟨g, 0, none⟩) ∧ B ≤ g ∧ Whole W g t cs ∧ cs.length = n ∧ P cs W
def vaF (n : Nat) (P : List Value → World → Prop) : Fact := fun v W => ∃ cs : List Value, v = .agg cs.toArray ∧ cs.length = n ∧ P cs W ∧ cs.all (·.oneCell') = true
section
variable {w0 : World} {a0 : Act} {ops : List Oper} {Q : Exit → Act → World → Prop} {F : Said} {k : Nat} {rest : List Oper}
  {d : Option Tmp} {ty : TypeId} {pos : String} {af : Array Go.Edge} {g : Option (Nat × Bool)} {B t n : Nat} {P : List Value → World → Prop} {pr : Program}
theorem keeps_vr : Keeps (RV B t n P) (vrF B t n) := fun _ _ _ ⟨g, cs, e, hB, hW, hl⟩ hc => by
  obtain ⟨c1, h1, h2, _⟩ := hc.res g cs hW hl
  exact ⟨g, c1, e, hB, h1, h2⟩
theorem keeps_vp : Keeps (RV B t n P) (vpF B t n P) := fun _ _ _ ⟨g, cs, e, hB, hW, hl, hp⟩ hc => by
  obtain ⟨c1, h1, h2, h3⟩ := hc.res g cs hW hl
  exact ⟨g, c1, e, hB, h1, h2, h3 hp⟩
theorem keeps_va (hP : PKeeps B t P) : Keeps (RV B t n P) (vaF n P) := fun _ _ _ ⟨cs, e, hl, hp, h1⟩ hc => ⟨cs, e, hl, hP _ _ _ hp hc.fe, h1⟩
theorem v_size {W : World} (hB : B ≤ w0.heap.size) (hW : (vT B t n P).H w0 W) : B ≤ W.heap.size := Nat.le_trans hB hW.fe.size
theorem v_alloc (hP : PKeeps B t P) (zs : List Value) (hz : zs.length = n) (hB : B ≤ w0.heap.size) (hg : guardIs ops F true ⟨d, .alloc t, ty, pos, af, g⟩) (hd0 : d ≠ none)
    (hrun : ∀ ev W, (execOp ev ⟨d, .alloc t, ty, pos, af, g⟩).run pr W = .ok (.value (.pointer (some ⟨W.heap.size, 0, none⟩))) (W.alloc (.cells zs.toArray t)))
    (h : F2.Flow pr (vT B t n P) w0 a0 ops Q ((d, vrF B t n) :: F) (k + 1) rest) : F2.Flow pr (vT B t n P) w0 a0 ops Q F k (⟨d, .alloc t, ty, pos, af, g⟩ :: rest) := by
  refine F2.flow_op (vrF B t n) keeps_vr (.inr keeps_vr) hg (fun ev W _ hW _ => ?_) h hd0
  rw [hrun ev W]
  exact ⟨v_by _ (RV.of_chg hP ((Chg.refl [] W).alloc _)), _, _, rfl, v_size hB hW, Whole.new W _ zs, hz⟩
theorem v_put {x s : Tmp} (hv : look F x = some (vrF B t n)) (ha : look F s = some (vaF n P)) (hP : PKeeps B t P) (hi : (pr.info? t).map (·.size) = some n)
    (hg : guardIs ops F true ⟨none, .store t (.tmp x) (.tmp s), ty, pos, af, g⟩)
    (h : F2.Flow pr (vT B t n P) w0 a0 ops Q ((none, vpF B t n P) :: F) (k + 1) rest) : F2.Flow pr (vT B t n P) w0 a0 ops Q F k (⟨none, .store t (.tmp x) (.tmp s), ty, pos, af, g⟩ :: rest) := by
  refine F2.flow_store (vpF B t n P) (t := x) rfl rfl keeps_vp (.inr keeps_vp) hg (fun ev W he hW hf => ?_) h
  have h1 : factOf a0 F (.tmp x) (ev (.tmp x)) W := hf.1
  have h2 : factOf a0 F (.tmp s) (ev (.tmp s)) W := hf.2.1
  simp only [factOf, hv] at h1
  simp only [factOf, ha] at h2
  obtain ⟨gv, cs, e1, hB, hWh, hl⟩ := h1
  obtain ⟨us, e2, hl2, hp, h1c⟩ := h2
  have hr : (execOp ev ⟨none, .store t (.tmp x) (.tmp s), ty, pos, af, g⟩).run pr W = .ok .skip (W.setRow gv us.toArray) := by
    unfold execOp
    have h1' : us.toArray.all (·.oneCell') = true := by rw [← Array.all_toList]; exact h1c
    have hi' : (pr.info? t).map (·.size) = some us.toArray.size := by rw [hi]; simp [hl2]
    simp only [e1, e2, Instr.storeAt, Instr.sureAddr, Sem.run_bind, Sem.run_pure, Result.andThen_ok, run_storeVar_row W gv t t cs.toArray us.toArray hWh hi' (by simp [hl, hl2]) h1']
  rw [hr]
  have hW2 : Whole (W.setRow gv us.toArray) gv t us := setRow_whole hWh
  have hfe : Fe (fun k => B ≤ k ∨ k ∈ []) [t] W (W.setRow gv us.toArray) := by
    refine ⟨rfl, rfl, rfl, by simp [World.setRow], fun i hi hc => ?_⟩
    refine Go.setRow_other W gv i _ (fun e => ?_)
    subst e
    rcases hc with hc | hc
    · exact hc (.inl hB)
    · exact hc _ _ _ hWh List.mem_cons_self
  have hp2 := hP _ _ _ hp hfe
  refine ⟨v_by _ ⟨hfe, fun g2 c2 h2 hl3 => ?_⟩, gv, us, e1, hB, hW2, hl2, hp2⟩
  by_cases hgg : g2 = gv
  · subst hgg
    exact ⟨us, hW2, hl2, fun _ => hp2⟩
  · exact ⟨c2, (Go.setRow_other W gv g2 _ hgg).trans h2, hl3, fun hp => hP _ _ _ hp hfe⟩
end
end Go.Proofs.Ytfhgnoajfipjdaa
