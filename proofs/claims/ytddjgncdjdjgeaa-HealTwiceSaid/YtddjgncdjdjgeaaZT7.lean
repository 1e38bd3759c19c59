/-
  T: St, Dsk, Ref, DskS, RedoPure, Of, New.
-/
import Derived.Test.YtddjgncdjdjgeaaZT1
import Derived.Test.YtddjgncdjdjgeaaZT6
import Derived.Deep.QuietTactic
import Derived.BigQuiet
import Derived.BigRegion
import Derived.Deep.RegionWith
namespace Go.Proofs.Ytddjgncdjdjgeaa
open Go.RowKit
theorem Src.chg {w w' : World} {A : Option Addr} {xs : List Value} {T : List Nat} (h : Src w A xs) (hc : Chg T w w') (hA : 0 < xs.length → ∀ ad, A = some ad → ad.block ∉ T) : Src w' A xs := fun hp => by
  obtain ⟨ad, e, hb, hx⟩ := h hp
  refine ⟨ad, e, Nat.lt_of_lt_of_le hb hc.size, fun j v hj => ?_⟩
  have := hx j v hj
  rw [← this]
  have e2 : (ad.add j).block = ad.block := by unfold Addr.add; split <;> rfl
  refine World.cell?_of_block (w := w) (hc.block _ ?_ ?_)
  · rw [e2]; exact hb
  · rw [e2]; exact hA hp ad e

structure St where
  L : List UInt8
  S : List UInt8
  V : List Bool
def St.write (s : St) (k : Nat) (x : List UInt8) : St := ⟨s.L, splice s.S (k * 64) x, s.V.set k true⟩
theorem whole_at {w : World} {g g' t : Nat} {cs : List Value} (h : Whole w g t cs) (e : g = g') : Whole w g' t cs := e ▸ h
end Go.Proofs.Ytddjgncdjdjgeaa
namespace Go.Proofs.Ytddjgncdjdjgeaa
open Go.RowKit

/-- A disk: its struct lies in block p, the lasting bytes L in bL, the seen ones S in bS, what waits (V) in bW. -/
structure Dsk (w : World) (p bL bS bW : Nat) (L S : List UInt8) (V : List Bool) : Prop where
  rec_ : Whole w p 97 [.slice (some ⟨bL, 0, none⟩) L.length L.length, .slice (some ⟨bS, 0, none⟩) S.length S.length, .slice (some ⟨bW, 0, none⟩) V.length V.length]
  last : Whole w bL 5 (bts L)
  seen : Whole w bS 5 (bts S)
  wait : Whole w bW 4 (bls V)
  lenL : L.length = 64 * V.length
  lenS : S.length = 64 * V.length
  pos : 0 < V.length
  le : V.length ≤ 160
  ne : bL ≠ bS

section
variable {w w' : World} {p bL bS bW : Nat} {L S : List UInt8} {V : List Bool}
theorem Dsk.keep (h : Dsk w p bL bS bW L S V) (hc : Chg [] w w') : Dsk w' p bL bS bW L S V :=
  ⟨h.rec_.keep hc, h.last.keep hc, h.seen.keep hc, h.wait.keep hc, h.lenL, h.lenS, h.pos, h.le, h.ne⟩
theorem Dsk.away {T : List Nat} (h : Dsk w p bL bS bW L S V) (hc : Chg T w w') (h0 : p ∉ T) (h1 : bL ∉ T) (h2 : bS ∉ T) (h3 : bW ∉ T) : Dsk w' p bL bS bW L S V :=
  ⟨h.rec_.chg hc h0, h.last.chg hc h1, h.seen.chg hc h2, h.wait.chg hc h3, h.lenL, h.lenS, h.pos, h.le, h.ne⟩

set_option maxHeartbeats 400000 in
set_option maxRecDepth 100000 in
theorem len_any (h : Dsk w p bL bS bW L S V) : Calls Try.prog 28 #[.pointer (some ⟨p, 0, none⟩)] w fun e w' => e = .returned (.int .i64 (V.length : Int)) ∧ w = w' := by
  have c2 := h.rec_.cell 2
  go_enter Try.func28, Try.ntmps28
  go_wp2_with fail
  go_ret
  exact ⟨rfl, rfl⟩

set_option maxHeartbeats 400000 in
set_option maxRecDepth 100000 in
theorem has_yes (h : Dsk w p bL bS bW L S V) (i : Int) (h0 : 0 ≤ i) (h1 : i < V.length) :
    Calls Try.prog 101 #[.pointer (some ⟨p, 0, none⟩), .int .i64 i] w fun e w' => e = .returned (.bool true) ∧ w = w' := by
  go_enter Try.func101, Try.ntmps101
  go_wp2_with (go_at_call 28; refine (len_any h).mono ?_; rintro e w' ⟨rfl, rfl⟩)
  go_ret
  exact ⟨rfl, rfl⟩

set_option maxHeartbeats 400000 in
set_option maxRecDepth 100000 in
theorem has_no (h : Dsk w p bL bS bW L S V) (i : Int) (h0 : i < 0 ∨ (V.length : Int) ≤ i) :
    Calls Try.prog 101 #[.pointer (some ⟨p, 0, none⟩), .int .i64 i] w fun e w' => e = .returned (.bool false) ∧ w = w' := by
  rcases h0 with h0 | h0
  · have hd : decide (0 ≤ i) = false := by simp; omega
    go_enter Try.func101, Try.ntmps101
    go_wp2_with (go_at_call 28; refine (len_any h).mono ?_; rintro e w' ⟨rfl, rfl⟩)
    go_ret
    exact ⟨rfl, rfl⟩
  · by_cases hi : 0 ≤ i
    · go_enter Try.func101, Try.ntmps101
      go_wp2_with (go_at_call 28; refine (len_any h).mono ?_; rintro e w' ⟨rfl, rfl⟩)
      go_ret
      exact ⟨by simp; omega, rfl⟩
    · have := h.pos
      exact absurd h0 (by omega)
end
end Go.Proofs.Ytddjgncdjdjgeaa
namespace Go.Proofs.Ytddjgncdjdjgeaa
open Go.RowKit

/-- The reference's disk: struct in p; lasting bytes in gL, seen ones in gN (spare room rL, rN behind them), what waits in gW; how many deeds may be done: lf; how many were done: m. -/
structure Rfx (w : World) (p gL gN gW : Nat) (rL rN : List Value) (lf m : Int) (s : St) : Prop where
  rec_ : Whole w p 109 [.slice (some ⟨gL, 0, none⟩) s.L.length (s.L.length + rL.length), .slice (some ⟨gN, 0, none⟩) s.S.length (s.S.length + rN.length), .slice (some ⟨gW, 0, none⟩) s.V.length s.V.length, .int .i64 lf, .int .i64 m]
  last : Whole w gL 5 (bts s.L ++ rL)
  now : Whole w gN 5 (bts s.S ++ rN)
  wait : Whole w gW 4 (bls s.V)
  lenL : s.L.length = 64 * s.V.length
  lenS : s.S.length = 64 * s.V.length
  le : s.V.length ≤ 160
  ne : gL ≠ gN
/-- .. with all deeds let be done. -/
abbrev Rfd (w : World) (p gL gN gW : Nat) (rL rN : List Value) (m : Int) (s : St) : Prop := Rfx w p gL gN gW rL rN (-1) m s

section
variable {w w' : World} {p gL gN gW : Nat} {rL rN : List Value} {lf m : Int} {s : St}
theorem Rfx.keep (h : Rfx w p gL gN gW rL rN lf m s) (hc : Chg [] w w') : Rfx w' p gL gN gW rL rN lf m s :=
  ⟨h.rec_.keep hc, h.last.keep hc, h.now.keep hc, h.wait.keep hc, h.lenL, h.lenS, h.le, h.ne⟩
theorem Rfx.away {T : List Nat} (h : Rfx w p gL gN gW rL rN lf m s) (hc : Chg T w w') (h0 : p ∉ T) (h1 : gL ∉ T) (h2 : gN ∉ T) (h3 : gW ∉ T) : Rfx w' p gL gN gW rL rN lf m s :=
  ⟨h.rec_.chg hc h0, h.last.chg hc h1, h.now.chg hc h2, h.wait.chg hc h3, h.lenL, h.lenS, h.le, h.ne⟩
theorem Rfd.keep (h : Rfd w p gL gN gW rL rN m s) (hc : Chg [] w w') : Rfd w' p gL gN gW rL rN m s := Rfx.keep h hc
theorem Rfd.away {T : List Nat} (h : Rfd w p gL gN gW rL rN m s) (hc : Chg T w w') (h0 : p ∉ T) (h1 : gL ∉ T) (h2 : gN ∉ T) (h3 : gW ∉ T) : Rfd w' p gL gN gW rL rN m s := Rfx.away h hc h0 h1 h2 h3

set_option maxHeartbeats 400000 in
set_option maxRecDepth 100000 in
theorem rlen_any (h : Rfx w p gL gN gW rL rN lf m s) : Calls Try.prog 84 #[.pointer (some ⟨p, 0, none⟩)] w fun e w' => e = .returned (.int .i64 (s.V.length : Int)) ∧ w = w' := by
  have c2 := h.rec_.cell 2
  go_enter Try.func84, Try.ntmps84
  go_wp2_with fail
  go_ret
  exact ⟨rfl, rfl⟩

set_option maxHeartbeats 1000000 in
set_option maxRecDepth 100000 in
theorem rdeed_any (h : Rfd w p gL gN gW rL rN m s) : Calls Try.prog 96 #[.pointer (some ⟨p, 0, none⟩)] w fun e w' => ∃ m', e = .returned (.bool true) ∧ Rfd w' p gL gN gW rL rN m' s ∧ Chg [p] w w' := by
  have c3 := h.rec_.cell 3
  have c4 := h.rec_.cell 4
  have f4 := h.rec_.frozen 4
  go_enter Try.func96, Try.ntmps96
  go_wp2_with fail
  go_ret
  refine ⟨_, rfl, ⟨h.rec_.set_ 4 _, h.last.far (h.last.ne_ h.rec_ (by decide)) _, h.now.far (h.now.ne_ h.rec_ (by decide)) _, h.wait.far (h.wait.ne_ h.rec_ (by decide)) _, h.lenL, h.lenS, h.le, h.ne⟩, (Chg.refl [p] w).setCell (by simp) _⟩
end
end Go.Proofs.Ytddjgncdjdjgeaa
namespace Go.Proofs.Ytddjgncdjdjgeaa
open Go.RowKit
theorem own_form {w : World} {base n e : Nat} {v : Value} {xs : List Value} (h : w.ownsRow base e 1 v n xs) : ∃ A c, v = .slice A n c ∧ Src w A xs ∧ xs.length = n ∧ ∀ ad, A = some ad → ad.spot = none ∧ base ≤ ad.block := by
  have hl : xs.length = n := by simpa using h.1
  rcases h.2 with ⟨rfl, h0⟩ | ⟨g, cap, cur, rfl, hb, hg, _⟩
  · subst h0
    exact ⟨none, 0, rfl, fun hp => absurd hp (by omega), hl, by simp⟩
  · refine ⟨_, cap, rfl, fun _ => ⟨_, rfl, ?_, h.cells rfl⟩, hl, fun ad e => ?_⟩
    · rcases Nat.lt_or_ge g w.heap.size with hlt | hge
      · exact hlt
      · rw [Array.getElem?_eq_none hge] at hg; cases hg
    · injection e with e
      subst e
      exact ⟨rfl, hb⟩
def DskS (w : World) (p bL bS bW : Nat) (s : St) : Prop := Dsk w p bL bS bW s.L s.S s.V
end Go.Proofs.Ytddjgncdjdjgeaa
namespace Go.Proofs.Ytddjgncdjdjgeaa
open Go.RowKit
theorem splice_get {α : Type} (L m : List α) (o i : Nat) (h : o + m.length ≤ L.length) : (splice L o m)[i]? = if o ≤ i ∧ i < o + m.length then m[i - o]? else L[i]? := by
  have ht : (L.take o).length = o := by rw [List.length_take]; omega
  unfold splice
  rcases Nat.lt_or_ge i o with h1 | h1
  · rw [if_neg (by omega), List.getElem?_append_left (by omega), List.getElem?_take, if_pos h1]
  · rcases Nat.lt_or_ge i (o + m.length) with h2 | h2
    · rw [if_pos ⟨h1, h2⟩, List.getElem?_append_right (by omega), ht, List.getElem?_append_left (by omega)]
    · rw [if_neg (by omega), List.getElem?_append_right (by omega), ht, List.getElem?_append_right (by omega), List.getElem?_drop]
      congr 1; omega
theorem splice_len {α : Type} (L m : List α) (o : Nat) (h : o + m.length ≤ L.length) : (splice L o m).length = L.length := by
  unfold splice
  simp only [List.length_append, List.length_take, List.length_drop]; omega
/-- Sectors that bytes at a place touch. -/
def tch (a n j : Nat) : Bool := decide (0 < n ∧ j * 64 < a + n ∧ a < (j + 1) * 64)
/-- Bytes written from a on. -/
def apS (s : St) (a : Nat) (b : List UInt8) : St := ⟨s.L, splice s.S a b, (List.range s.V.length).map fun j => s.V.getD j false || tch a b.length j⟩
theorem apS_nil (s : St) (a : Nat) (ha : a ≤ s.S.length) : apS s a [] = s := by
  obtain ⟨L, S, V⟩ := s
  unfold apS
  congr 1
  · apply List.ext_getElem?
    intro i
    rw [splice_get _ _ _ _ (by simpa using ha), if_neg (by simp)]
  · apply List.ext_getElem?
    intro j
    rw [List.getElem?_map]
    rcases Nat.lt_or_ge j V.length with h | h
    · rw [List.getElem?_range h, List.getElem?_eq_getElem h]
      simp [tch, List.getD, h]
    · rw [List.getElem?_eq_none (by simpa using h), List.getElem?_eq_none h]; rfl
theorem apS_V (s : St) (a : Nat) (b : List UInt8) : (apS s a b).V.length = s.V.length := by simp [apS]
/-- One sector more. -/
theorem apS_step {s : St} {a : Nat} {b : List UInt8} {k k' q : Nat} {x : List UInt8} (hl : s.S.length = 64 * s.V.length) (hb : a + b.length ≤ s.S.length) (hk : k < k') (hk' : k' ≤ b.length) (h1 : q * 64 ≤ a + k) (h2 : a + k' ≤ (q + 1) * 64) (h3 : a < (q + 1) * 64)
    (hx : x = ((splice s.S a (b.take k')).drop (q * 64)).take 64) : (apS s a (b.take k)).write q x = apS s a (b.take k') := by
  have lk : (b.take k).length = k := by rw [List.length_take]; omega
  have lk' : (b.take k').length = k' := by rw [List.length_take]; omega
  have hq : q < s.V.length := by omega
  have hsl : (splice s.S a (b.take k')).length = s.S.length := splice_len _ _ _ (by rw [lk']; omega)
  have hsk : (splice s.S a (b.take k)).length = s.S.length := splice_len _ _ _ (by rw [lk]; omega)
  have xl : x.length = 64 := by rw [hx, List.length_take, List.length_drop, hsl]; omega
  unfold St.write apS
  congr 1
  · show splice (splice s.S a (b.take k)) (q * 64) x = splice s.S a (b.take k')
    apply List.ext_getElem?
    intro i
    rw [splice_get _ _ _ _ (by rw [hsk, xl]; omega), xl]
    by_cases hi : q * 64 ≤ i ∧ i < q * 64 + 64
    · rw [if_pos hi, hx, List.getElem?_take, if_pos (by omega), List.getElem?_drop]
      congr 1; omega
    · rw [if_neg hi, splice_get _ _ _ _ (by rw [lk]; omega), splice_get _ _ _ _ (by rw [lk']; omega), lk, lk']
      by_cases h4 : a ≤ i ∧ i < a + k
      · rw [if_pos h4, if_pos (by omega), List.getElem?_take, List.getElem?_take, if_pos (by omega), if_pos (by omega)]
      · rw [if_neg h4]
        by_cases h5 : a ≤ i ∧ i < a + k'
        · omega
        · rw [if_neg h5]
  · apply List.ext_getElem?
    intro j
    rw [List.getElem?_set]
    simp only [List.getElem?_map, List.length_map, List.length_range]
    rcases Nat.lt_or_ge j s.V.length with hj | hj
    · rw [List.getElem?_range hj]
      simp only [Option.map_some]
      by_cases e : q = j
      · subst e
        rw [if_pos rfl, if_pos hj]
        have : tch a (b.take k').length q = true := decide_eq_true (by rw [lk']; omega)
        rw [this, Bool.or_true]
      · rw [if_neg e]
        have : tch a (b.take k).length j = tch a (b.take k').length j := by
          unfold tch
          rw [lk, lk']
          congr 1
          apply propext
          constructor
          · rintro ⟨_, _, _⟩; omega
          · rintro ⟨_, _, _⟩
            have : j ≠ q := fun h => e h.symm
            rcases Nat.lt_or_ge j q with h | h
            · omega
            · omega
        rw [this]
    · rw [List.getElem?_eq_none (by simpa using hj)]
      simp only [Option.map_none]
      by_cases e : q = j
      · omega
      · rw [if_neg e]
/-- The log's bytes. -/
def logB (s : St) (L : Nat) : List UInt8 := (s.S.drop 128).take (L * 64)
theorem logB_next (s : St) (k : Nat) : logB s (k + 1) = logB s k ++ (s.S.drop ((2 + k) * 64)).take 64 := by
  unfold logB
  rw [show (k + 1) * 64 = k * 64 + 64 by omega, List.take_add, List.drop_drop]
  congr 3; omega
theorem logB_len {s : St} {L : Nat} (h : 128 + L * 64 ≤ s.S.length) : (logB s L).length = L * 64 := by
  unfold logB; rw [List.length_take, List.length_drop]; omega
end Go.Proofs.Ytddjgncdjdjgeaa
namespace Go.Proofs.Ytddjgncdjdjgeaa
open Go.RowKit

section
variable {w : World} {A : Option Addr} {n c : Nat} {l : List UInt8}

set_option maxHeartbeats 400000 in
set_option maxRecDepth 100000 in
/-- The struct is laid last: the disk stands. -/
theorem dsk_end {W : World} {q bL bS bW : Nat} (hq : q = W.heap.size) (hL : Whole W bL 5 (bts l)) (hS : Whole W bS 5 (bts l)) (hV : Whole W bW 4 (bls (falses (l.length / 64)))) (hne : bL ≠ bS)
    (h1 : 64 ≤ l.length) (h2 : l.length < 10304) (h3 : l.length % 64 = 0) (hc : Chg [] w W) (b1 : w.heap.size ≤ bL) (b2 : w.heap.size ≤ bS) (b3 : w.heap.size ≤ bW) :
    ∃ p bL' bS' bW', Ending.returned (.pointer (some ⟨q, 0, none⟩)) = .returned (.pointer (some ⟨p, 0, none⟩)) ∧
      Dsk (W.alloc (.cells #[.slice (some ⟨bL, 0, none⟩) l.length l.length, .slice (some ⟨bS, 0, none⟩) l.length l.length, .slice (some ⟨bW, 0, none⟩) (l.length / 64) (l.length / 64)] 97)) p bL' bS' bW' l l (falses (l.length / 64)) ∧
      w.heap.size ≤ p ∧ w.heap.size ≤ bL' ∧ w.heap.size ≤ bS' ∧ w.heap.size ≤ bW' ∧ Chg [] w (W.alloc (.cells #[.slice (some ⟨bL, 0, none⟩) l.length l.length, .slice (some ⟨bS, 0, none⟩) l.length l.length, .slice (some ⟨bW, 0, none⟩) (l.length / 64) (l.length / 64)] 97)) := by
  subst hq
  have hk : ∀ o, Chg [] W (W.alloc o) := fun o => (Chg.refl [] W).alloc o
  refine ⟨W.heap.size, bL, bS, bW, rfl, ⟨?_, hL.keep (hk _), hS.keep (hk _), hV.keep (hk _), ?_, ?_, ?_, ?_, hne⟩, hc.size, b1, b2, b3, hc.alloc _⟩
  · have := Whole.new W 97 [.slice (some ⟨bL, 0, none⟩) l.length l.length, .slice (some ⟨bS, 0, none⟩) l.length l.length, .slice (some ⟨bW, 0, none⟩) (l.length / 64) (l.length / 64)]
    simpa only [falses_len] using this
  · rw [falses_len]; omega
  · rw [falses_len]; omega
  · rw [falses_len]; omega
  · rw [falses_len]; omega

set_option maxHeartbeats 400000 in
set_option maxRecDepth 100000 in
theorem of_yes (hl : l.length = n) (hs : Src w A (bts l)) (h1 : 64 ≤ n) (h2 : n < 10304) (h3 : n % 64 = 0) :
    Calls Try.prog 23 #[.slice A n c] w fun e w' => ∃ p bL bS bW, e = .returned (.pointer (some ⟨p, 0, none⟩)) ∧ Dsk w' p bL bS bW l l (falses (n / 64)) ∧
      w.heap.size ≤ p ∧ w.heap.size ≤ bL ∧ w.heap.size ≤ bS ∧ w.heap.size ≤ bW ∧ Chg [] w w' := by
  have hd1 : decide ((n : Int) / 64 < 1) = false := by simp; omega
  have hd2 : decide (160 < (n : Int) / 64) = false := by simp; omega
  have hd3 : ((n : Int) % 64 != 0) = false := by simp; omega
  have hmk : ∀ W : World, (Instr.makeSlice 68 (.int .i64 ((n : Int) / 64)) (.int .i64 ((n : Int) / 64))).run Try.prog W = .ok (.slice (some ⟨W.heap.size, 0, none⟩) (n / 64) (n / 64)) (W.alloc (.cells (bls (falses (n / 64))).toArray 4)) :=
    fun W => make_bool (n / 64) (by omega) W
  have HL := Lib.hid hl
  have H3 := Lib.hid h3
  clear hl h3
  go_enter Try.func23, Try.ntmps23
  go_wp2_with fail
  go_region_with (first
    | (go_at_call 53; have _t := HB1; refine (fresh_any (xs := bts l) (by rw [bts_len]; exact HL.out) ?_ (bts_one l) (by omega)).mono ?_; · (refine hs.keep ?_; repeat (first | exact Chg.refl _ _ | apply Chg.drew | apply Chg.alloc | refine Chg.new ?_ HC1))
       rintro e w2 ⟨rfl, HB2, HC2⟩)
    | (go_at_call 53; refine (fresh_any (xs := bts l) (by rw [bts_len]; exact HL.out) ?_ (bts_one l) (by omega)).mono ?_; · (refine hs.keep ?_; repeat (first | exact Chg.refl _ _ | apply Chg.drew | apply Chg.alloc))
       rintro e w1 ⟨rfl, HB1, HC1⟩))
  all_goals (go_wp2_with fail; go_ret; obtain rfl := HL.out)
  · have c1 : Chg [] w w1 := (Chg.refl [] w).drew.new HC1
    have l1 := Whole.lt HB1
    have z1 : w.drew.heap.size = w.heap.size := rfl
    exact dsk_end (W := w2.alloc _) (by simp) ((Whole.keep HB1 HC2).keep ((Chg.refl [] w2).alloc _)) (HB2.keep ((Chg.refl [] w2).alloc _)) (Whole.new w2 _ _) (by omega) h1 h2 H3.out ((c1.new HC2).alloc _)
      (Nat.le_refl _) c1.size (Nat.le_trans c1.size HC2.size)
  · have c1 : Chg [] w w1 := (Chg.refl [] w).drew.new HC1
    have l1 := Whole.lt HB1
    have z1 : w.drew.heap.size = w.heap.size := rfl
    have hb2 : Whole w2 (w1.heap.size + 1) 5 (bts l) := by simpa using HB2
    have s1 := c1.size
    exact dsk_end (W := w2) rfl ((Whole.keep HB1 ((Chg.refl [] w1).alloc _)).keep HC2) hb2 ((Whole.new w1 _ _).keep HC2) (by omega) h1 h2 H3.out ((c1.alloc _).new HC2)
      (Nat.le_refl _) (by omega) s1
  · have hb1 : Whole w1 (w.heap.size + 1) 5 (bts l) := by simpa using HB1
    have c1 : Chg [] w w1 := ((Chg.refl [] w).alloc _).drew.new HC1
    have l1 := hb1.lt
    exact dsk_end (W := w2) rfl (hb1.keep HC2) HB2 (((Whole.new w _ _).keep ((Chg.refl [] _).drew.new HC1)).keep HC2) (by omega) h1 h2 H3.out (c1.new HC2)
      (by omega) (by omega) (Nat.le_refl _)
end
end Go.Proofs.Ytddjgncdjdjgeaa
namespace Go.Proofs.Ytddjgncdjdjgeaa
open Go.RowKit

section
variable {w : World}
set_option maxHeartbeats 400000 in
set_option maxRecDepth 100000 in
theorem new_yes (k : Nat) (h1 : 1 ≤ k) (h2 : k ≤ 160) :
    Calls Try.prog 6 #[.int .i64 (k : Int)] w fun e w' => ∃ p bL bS bW, e = .returned (.pointer (some ⟨p, 0, none⟩)) ∧ Dsk w' p bL bS bW (zeros (k * 64)) (zeros (k * 64)) (falses k) ∧
      w.heap.size ≤ p ∧ w.heap.size ≤ bL ∧ w.heap.size ≤ bS ∧ w.heap.size ≤ bW ∧ Chg [] w w' := by
  have hd1 : decide ((k : Int) < 1) = false := by simp; omega
  have hd2 : decide (160 < (k : Int)) = false := by simp; omega
  have hmk : ∀ W : World, (Instr.makeSlice 44 (.int .i64 ((k : Int) * 64)) (.int .i64 ((k : Int) * 64))).run Try.prog W = .ok (.slice (some ⟨W.heap.size, 0, none⟩) (k * 64) (k * 64)) (W.alloc (.cells (bts (zeros (k * 64))).toArray 5)) :=
    fun W => by
      have := make_u8 (k * 64) (by omega) W
      simpa using this
  go_enter Try.func6, Try.ntmps6
  go_wp2_with (go_at_call 23; refine (of_yes (l := zeros (k * 64)) (by simp [zeros]) (Src.of_all (Whole.new w _ _)) (by omega) (by omega) (by omega)).mono ?_; rintro e w1 ⟨p, bL, bS, bW, rfl, HD, b0, b1, b2, b3, HC⟩)
  go_ret
  rw [show k * 64 / 64 = k by omega] at HD
  have hs : (w.alloc (.cells (bts (zeros (k * 64))).toArray 5)).heap.size = w.heap.size + 1 := by simp
  exact ⟨p, bL, bS, bW, rfl, HD, by omega, by omega, by omega, by omega, ((Chg.refl [] w).alloc _).new HC⟩
end
end Go.Proofs.Ytddjgncdjdjgeaa
