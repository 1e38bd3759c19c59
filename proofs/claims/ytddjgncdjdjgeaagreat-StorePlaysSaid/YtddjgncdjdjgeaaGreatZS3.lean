/-
  S: Fresh, Dsk, Sect, St, Ref, DskS, Write, RedoPure, BRows.
-/
import Derived.Test.YtddjgncdjdjgeaaGreatZS1
import Derived.Test.YtddjgncdjdjgeaaGreatZS2
import Derived.Test.YtddjgncdjdjgeaaGreatChecked
import Derived.Deep.QuietTactic
import Derived.BigQuiet
import Derived.BigRegion
import Derived.Deep.RegionWith
namespace Go.Proofs.YtddjgncdjdjgeaaGreat
open Go.RowKit

theorem info_u8 : (Tryz.prog.info? 5).map (fun i => (i.zero, i.size, i.bytes)) = some (some (.int .u8 0), 1, 1) := by kernel_rfl
theorem info_bool : (Tryz.prog.info? 4).map (fun i => (i.zero, i.size, i.bytes)) = some (some (.bool false), 1, 1) := by kernel_rfl
theorem info_int : (Tryz.prog.info? 3).map (fun i => (i.zero, i.size, i.bytes)) = some (some (.int .i64 0), 1, 8) := by kernel_rfl
theorem size_u8 : (Tryz.prog.info? 5).map (·.size) = some 1 := by kernel_rfl

theorem make_u8 (n : Nat) (h : n ≤ 1000000) (w : World) :
    (Instr.makeSlice 30 (.int .i64 (n : Int)) (.int .i64 (n : Int))).run Tryz.prog w = .ok (.slice (some ⟨w.heap.size, 0, none⟩) n n) (w.alloc (.cells (bts (zeros n)).toArray 5)) := by
  rw [bts_zeros]
  obtain ⟨i, hi, hz, hs, hb⟩ := info_parts info_u8
  exact run_make1 _ _ i _ rfl Tryz.underlying30 hi hz hs n (by rw [hb]; omega) (by omega) w
theorem make_bool (n : Nat) (h : n ≤ 1000000) (w : World) :
    (Instr.makeSlice 67 (.int .i64 (n : Int)) (.int .i64 (n : Int))).run Tryz.prog w = .ok (.slice (some ⟨w.heap.size, 0, none⟩) n n) (w.alloc (.cells (bls (falses n)).toArray 4)) := by
  rw [bls_falses]
  obtain ⟨i, hi, hz, hs, hb⟩ := info_parts info_bool
  exact run_make1 _ _ i _ rfl Tryz.underlying67 hi hz hs n (by rw [hb]; omega) (by omega) w

set_option maxHeartbeats 400000 in
set_option maxRecDepth 100000 in
theorem fresh_any {w : World} {A : Option Addr} {n c : Nat} {xs : List Value} (hl : xs.length = n) (hs : Src w A xs) (h1 : ∀ v ∈ xs, v.oneCell' = true) (hn : n ≤ 1000000) :
    Calls Tryz.prog 87 #[.slice A n c] w fun e w' => e = .returned (.slice (some ⟨w.heap.size, 0, none⟩) n n) ∧ Whole w' w.heap.size 5 xs ∧ Chg [] w w' := by
  have hmk := make_u8 n hn
  go_enter Tryz.func87, Tryz.ntmps87
  go_wp2_with (first
    | (with_reducible refine wpList_copy_splice rfl (.tmp 7) (.tmp 8) _ _ rfl 5 Tryz.underlying30 size_u8 (some ⟨w.heap.size, 0, none⟩) A n n n c rfl rfl w.heap.size 0 (bts (zeros n)) 5 ?c1 xs ?c2 ?c3 ?c4 h1 w.heap.size w ?c5 (Nat.le_refl _) ?_
       case c1 => exact heap_alloc_new w _
       case c2 => simp [hl]
       case c3 =>
         intro hp
         obtain ⟨ad, e, _, hx⟩ := (hs.keep ((Chg.refl [] w).alloc _)) hp
         exact ⟨rfl, ad, e, hx⟩
       case c4 => simp [hl, bts_len, zeros_len]
       case c5 => exact (Below.refl _ _).alloc (Nat.le_refl _) _
       intro w1 HG hB))
  go_ret
  have HG' := HG.out
  rw [splice_all _ _ (by simp [hl, bts_len, zeros_len])] at HG'
  exact ⟨rfl, HG', Chg.of_below hB⟩

end Go.Proofs.YtddjgncdjdjgeaaGreat
namespace Go.Proofs.YtddjgncdjdjgeaaGreat
open Go.RowKit

/-- A disk: its struct lies in block p, the lasting bytes L in bL, the seen ones S in bS, what waits (V) in bW. -/
structure Dsk (w : World) (p bL bS bW : Nat) (L S : List UInt8) (V : List Bool) : Prop where
  rec_ : Whole w p 123 [.slice (some ⟨bL, 0, none⟩) L.length L.length, .slice (some ⟨bS, 0, none⟩) S.length S.length, .slice (some ⟨bW, 0, none⟩) V.length V.length]
  last : Whole w bL 5 (bts L)
  seen : Whole w bS 5 (bts S)
  wait : Whole w bW 4 (bls V)
  lenL : L.length = 64 * V.length
  lenS : S.length = 64 * V.length
  pos : 0 < V.length
  le : V.length ≤ 160
  ne : bL ≠ bS

section
variable {w w' : World} {p bL bS bW : Nat} {L S : List UInt8} {V : List Bool}
theorem Dsk.keep (h : Dsk w p bL bS bW L S V) (hc : Chg [] w w') : Dsk w' p bL bS bW L S V :=
  ⟨h.rec_.keep hc, h.last.keep hc, h.seen.keep hc, h.wait.keep hc, h.lenL, h.lenS, h.pos, h.le, h.ne⟩
theorem Dsk.away {T : List Nat} (h : Dsk w p bL bS bW L S V) (hc : Chg T w w') (h0 : p ∉ T) (h1 : bL ∉ T) (h2 : bS ∉ T) (h3 : bW ∉ T) : Dsk w' p bL bS bW L S V :=
  ⟨h.rec_.chg hc h0, h.last.chg hc h1, h.seen.chg hc h2, h.wait.chg hc h3, h.lenL, h.lenS, h.pos, h.le, h.ne⟩

set_option maxHeartbeats 400000 in
set_option maxRecDepth 100000 in
theorem len_any (h : Dsk w p bL bS bW L S V) : Calls Tryz.prog 49 #[.pointer (some ⟨p, 0, none⟩)] w fun e w' => e = .returned (.int .i64 (V.length : Int)) ∧ w = w' := by
  have c2 := h.rec_.cell 2
  go_enter Tryz.func49, Tryz.ntmps49
  go_wp2_with fail
  go_ret
  exact ⟨rfl, rfl⟩

set_option maxHeartbeats 400000 in
set_option maxRecDepth 100000 in
theorem has_yes (h : Dsk w p bL bS bW L S V) (i : Int) (h0 : 0 ≤ i) (h1 : i < V.length) :
    Calls Tryz.prog 118 #[.pointer (some ⟨p, 0, none⟩), .int .i64 i] w fun e w' => e = .returned (.bool true) ∧ w = w' := by
  go_enter Tryz.func118, Tryz.ntmps118
  go_wp2_with (go_at_call 49; refine (len_any h).mono ?_; rintro e w' ⟨rfl, rfl⟩)
  go_ret
  exact ⟨rfl, rfl⟩

set_option maxHeartbeats 400000 in
set_option maxRecDepth 100000 in
theorem has_no (h : Dsk w p bL bS bW L S V) (i : Int) (h0 : i < 0 ∨ (V.length : Int) ≤ i) :
    Calls Tryz.prog 118 #[.pointer (some ⟨p, 0, none⟩), .int .i64 i] w fun e w' => e = .returned (.bool false) ∧ w = w' := by
  rcases h0 with h0 | h0
  · have hd : decide (0 ≤ i) = false := by simp; omega
    go_enter Tryz.func118, Tryz.ntmps118
    go_wp2_with (go_at_call 49; refine (len_any h).mono ?_; rintro e w' ⟨rfl, rfl⟩)
    go_ret
    exact ⟨rfl, rfl⟩
  · by_cases hi : 0 ≤ i
    · go_enter Tryz.func118, Tryz.ntmps118
      go_wp2_with (go_at_call 49; refine (len_any h).mono ?_; rintro e w' ⟨rfl, rfl⟩)
      go_ret
      exact ⟨by simp; omega, rfl⟩
    · have := h.pos
      exact absurd h0 (by omega)
end
end Go.Proofs.YtddjgncdjdjgeaaGreat
namespace Go.Proofs.YtddjgncdjdjgeaaGreat
open Go.RowKit
set_option maxHeartbeats 400000 in
set_option maxRecDepth 100000 in
theorem dsector_any {w : World} {g n c : Nat} (k : Nat) (h : 64 * (k + 1) ≤ n) (hc : n ≤ c) (hn : c ≤ 1000000) :
    Calls Tryz.prog 88 #[.slice (some ⟨g, 0, none⟩) n c, .int .i64 (k : Int)] w fun e w' => e = .returned (.slice (some ⟨g, k * 64, none⟩) 64 (c - k * 64)) ∧ w = w' := by
  go_enter Tryz.func88, Tryz.ntmps88
  go_wp2_with fail
  go_ret
  exact ⟨by show Ending.returned (.slice _ ((k + 1) * 64 - k * 64) _) = _; rw [show (k + 1) * 64 - k * 64 = 64 by omega], rfl⟩

section
variable {w : World} {p bL bS bW : Nat} {L S : List UInt8} {V : List Bool}
set_option maxHeartbeats 400000 in
set_option maxRecDepth 100000 in
theorem image_any (h : Dsk w p bL bS bW L S V) :
    Calls Tryz.prog 83 #[.pointer (some ⟨p, 0, none⟩)] w fun e w' => e = .returned (.slice (some ⟨w.heap.size, 0, none⟩) L.length L.length) ∧ Whole w' w.heap.size 5 (bts L) ∧ Chg [] w w' := by
  have c0 := h.rec_.cell 0
  have hb := h.lenL
  have hv := h.le
  have hlt : L.length ≤ 1000000 := by omega
  clear hb
  go_enter Tryz.func83, Tryz.ntmps83
  go_wp2_with (go_at_call 87; refine (fresh_any (bts_len L) (Src.of_all h.last) (bts_one L) hlt).mono ?_; rintro e w1 ⟨rfl, HB, HC⟩)
  go_ret
  exact ⟨rfl, HB, HC⟩
set_option maxHeartbeats 400000 in
set_option maxRecDepth 100000 in
theorem seen_any (h : Dsk w p bL bS bW L S V) :
    Calls Tryz.prog 84 #[.pointer (some ⟨p, 0, none⟩)] w fun e w' => e = .returned (.slice (some ⟨w.heap.size, 0, none⟩) S.length S.length) ∧ Whole w' w.heap.size 5 (bts S) ∧ Chg [] w w' := by
  have c0 := h.rec_.cell 1
  have hb := h.lenS
  have hv := h.le
  have hlt : S.length ≤ 1000000 := by omega
  clear hb
  go_enter Tryz.func84, Tryz.ntmps84
  go_wp2_with (go_at_call 87; refine (fresh_any (bts_len S) (Src.of_all h.seen) (bts_one S) hlt).mono ?_; rintro e w1 ⟨rfl, HB, HC⟩)
  go_ret
  exact ⟨rfl, HB, HC⟩
end
end Go.Proofs.YtddjgncdjdjgeaaGreat
namespace Go.Proofs.YtddjgncdjdjgeaaGreat
open Go.RowKit
theorem Src.chg {w w' : World} {A : Option Addr} {xs : List Value} {T : List Nat} (h : Src w A xs) (hc : Chg T w w') (hA : 0 < xs.length → ∀ ad, A = some ad → ad.block ∉ T) : Src w' A xs := fun hp => by
  obtain ⟨ad, e, hb, hx⟩ := h hp
  refine ⟨ad, e, Nat.lt_of_lt_of_le hb hc.size, fun j v hj => ?_⟩
  have := hx j v hj
  rw [← this]
  have e2 : (ad.add j).block = ad.block := by unfold Addr.add; split <;> rfl
  refine World.cell?_of_block (w := w) (hc.block _ ?_ ?_)
  · rw [e2]; exact hb
  · rw [e2]; exact hA hp ad e

structure St where
  L : List UInt8
  S : List UInt8
  V : List Bool
def St.write (s : St) (k : Nat) (x : List UInt8) : St := ⟨s.L, splice s.S (k * 64) x, s.V.set k true⟩
theorem whole_at {w : World} {g g' t : Nat} {cs : List Value} (h : Whole w g t cs) (e : g = g') : Whole w g' t cs := e ▸ h
end Go.Proofs.YtddjgncdjdjgeaaGreat
namespace Go.Proofs.YtddjgncdjdjgeaaGreat
open Go.RowKit

/-- The reference's disk: struct in p; lasting bytes in gL, seen ones in gN (spare room rL, rN behind them), what waits in gW; how many deeds may be done: lf; how many were done: m. -/
structure Rfx (w : World) (p gL gN gW : Nat) (rL rN : List Value) (lf m : Int) (s : St) : Prop where
  rec_ : Whole w p 71 [.slice (some ⟨gL, 0, none⟩) s.L.length (s.L.length + rL.length), .slice (some ⟨gN, 0, none⟩) s.S.length (s.S.length + rN.length), .slice (some ⟨gW, 0, none⟩) s.V.length s.V.length, .int .i64 lf, .int .i64 m]
  last : Whole w gL 5 (bts s.L ++ rL)
  now : Whole w gN 5 (bts s.S ++ rN)
  wait : Whole w gW 4 (bls s.V)
  lenL : s.L.length = 64 * s.V.length
  lenS : s.S.length = 64 * s.V.length
  le : s.V.length ≤ 160
  ne : gL ≠ gN
/-- .. with all deeds let be done. -/
abbrev Rfd (w : World) (p gL gN gW : Nat) (rL rN : List Value) (m : Int) (s : St) : Prop := Rfx w p gL gN gW rL rN (-1) m s

section
variable {w w' : World} {p gL gN gW : Nat} {rL rN : List Value} {lf m : Int} {s : St}
theorem Rfx.keep (h : Rfx w p gL gN gW rL rN lf m s) (hc : Chg [] w w') : Rfx w' p gL gN gW rL rN lf m s :=
  ⟨h.rec_.keep hc, h.last.keep hc, h.now.keep hc, h.wait.keep hc, h.lenL, h.lenS, h.le, h.ne⟩
theorem Rfx.away {T : List Nat} (h : Rfx w p gL gN gW rL rN lf m s) (hc : Chg T w w') (h0 : p ∉ T) (h1 : gL ∉ T) (h2 : gN ∉ T) (h3 : gW ∉ T) : Rfx w' p gL gN gW rL rN lf m s :=
  ⟨h.rec_.chg hc h0, h.last.chg hc h1, h.now.chg hc h2, h.wait.chg hc h3, h.lenL, h.lenS, h.le, h.ne⟩
theorem Rfd.keep (h : Rfd w p gL gN gW rL rN m s) (hc : Chg [] w w') : Rfd w' p gL gN gW rL rN m s := Rfx.keep h hc
theorem Rfd.away {T : List Nat} (h : Rfd w p gL gN gW rL rN m s) (hc : Chg T w w') (h0 : p ∉ T) (h1 : gL ∉ T) (h2 : gN ∉ T) (h3 : gW ∉ T) : Rfd w' p gL gN gW rL rN m s := Rfx.away h hc h0 h1 h2 h3

set_option maxHeartbeats 400000 in
set_option maxRecDepth 100000 in
theorem rlen_any (h : Rfx w p gL gN gW rL rN lf m s) : Calls Tryz.prog 53 #[.pointer (some ⟨p, 0, none⟩)] w fun e w' => e = .returned (.int .i64 (s.V.length : Int)) ∧ w = w' := by
  have c2 := h.rec_.cell 2
  go_enter Tryz.func53, Tryz.ntmps53
  go_wp2_with fail
  go_ret
  exact ⟨rfl, rfl⟩

set_option maxHeartbeats 1000000 in
set_option maxRecDepth 100000 in
theorem rdeed_any (h : Rfd w p gL gN gW rL rN m s) : Calls Tryz.prog 79 #[.pointer (some ⟨p, 0, none⟩)] w fun e w' => ∃ m', e = .returned (.bool true) ∧ Rfd w' p gL gN gW rL rN m' s ∧ Chg [p] w w' := by
  have c3 := h.rec_.cell 3
  have c4 := h.rec_.cell 4
  have f4 := h.rec_.frozen 4
  go_enter Tryz.func79, Tryz.ntmps79
  go_wp2_with fail
  go_ret
  refine ⟨_, rfl, ⟨h.rec_.set_ 4 _, h.last.far (h.last.ne_ h.rec_ (by decide)) _, h.now.far (h.now.ne_ h.rec_ (by decide)) _, h.wait.far (h.wait.ne_ h.rec_ (by decide)) _, h.lenL, h.lenS, h.le, h.ne⟩, (Chg.refl [p] w).setCell (by simp) _⟩
end
end Go.Proofs.YtddjgncdjdjgeaaGreat
namespace Go.Proofs.YtddjgncdjdjgeaaGreat
open Go.RowKit
theorem own_form {w : World} {base n e : Nat} {v : Value} {xs : List Value} (h : w.ownsRow base e 1 v n xs) : ∃ A c, v = .slice A n c ∧ Src w A xs ∧ xs.length = n ∧ ∀ ad, A = some ad → ad.spot = none ∧ base ≤ ad.block := by
  have hl : xs.length = n := by simpa using h.1
  rcases h.2 with ⟨rfl, h0⟩ | ⟨g, cap, cur, rfl, hb, hg, _⟩
  · subst h0
    exact ⟨none, 0, rfl, fun hp => absurd hp (by omega), hl, by simp⟩
  · refine ⟨_, cap, rfl, fun _ => ⟨_, rfl, ?_, h.cells rfl⟩, hl, fun ad e => ?_⟩
    · rcases Nat.lt_or_ge g w.heap.size with hlt | hge
      · exact hlt
      · rw [Array.getElem?_eq_none hge] at hg; cases hg
    · injection e with e
      subst e
      exact ⟨rfl, hb⟩
def DskS (w : World) (p bL bS bW : Nat) (s : St) : Prop := Dsk w p bL bS bW s.L s.S s.V
theorem str_front {w : World} {g : Nat} {X : List UInt8} {r : List Value} (h : Whole w g 5 (bts X ++ r)) (n : Nat) (hn : X.length = n) (c : Nat) :
    (convert 30 9 (.slice (some ⟨g, 0, none⟩) n c)).run Tryz.prog w = .ok (.string (strOf X)) w := by
  subst hn
  have hs : Src w (some ⟨g, 0, none⟩) (bts X) := by
    have := Src.of_whole h 0 X.length
    rwa [List.drop_zero, List.take_append_of_le_length (by rw [bts_len]; omega), List.take_of_length_le (by rw [bts_len]; omega)] at this
  exact run_str 30 5 9 Tryz.underlying30 Tryz.underlying5 Tryz.underlying9 _ X c w hs (fun ad e => by injection e with e; subst e; rfl)
end Go.Proofs.YtddjgncdjdjgeaaGreat
namespace Go.Proofs.YtddjgncdjdjgeaaGreat
open Go.RowKit
section
variable {w : World} {p bL bS bW : Nat} {L S : List UInt8} {V : List Bool}

set_option maxHeartbeats 400000 in
set_option maxRecDepth 100000 in
theorem write_no (h : Dsk w p bL bS bW L S V) (i : Int) (A : Option Addr) (n c : Nat) (hi : i < 0 ∨ (V.length : Int) ≤ i ∨ n ≠ 64) :
    Calls Tryz.prog 91 #[.pointer (some ⟨p, 0, none⟩), .int .i64 i, .slice A n c] w fun e w' => e = .returned (.bool false) ∧ w = w' := by
  by_cases hok : 0 ≤ i ∧ i < V.length
  · obtain ⟨h0, h1⟩ := hok
    have hd : ((n : Int) != 64) = true := by simp; omega
    clear hi
    go_enter Tryz.func91, Tryz.ntmps91
    go_wp2_with (go_at_call 118; refine (has_yes h i h0 h1).mono ?_; rintro e w' ⟨rfl, rfl⟩)
    go_ret
    exact ⟨rfl, rfl⟩
  · have h2 : i < 0 ∨ (V.length : Int) ≤ i := by omega
    clear hi hok
    go_enter Tryz.func91, Tryz.ntmps91
    go_wp2_with (go_at_call 118; refine (has_no h i h2).mono ?_; rintro e w' ⟨rfl, rfl⟩)
    go_ret
    exact ⟨rfl, rfl⟩

theorem write_end {w2 : World} {k : Nat} {x : List UInt8} (h : Dsk w p bL bS bW L S V) (hk : k < V.length) (hx : x.length = 64) (HC : Chg [bS] w w2) (HG : Whole w2 bS 5 (splice (bts S) (k * 64) (bts x))) :
    Dsk (w2.setCell ⟨bW, k, none⟩ (.bool true)) p bL bS bW L (splice S (k * 64) x) (V.set k true) ∧ Chg [bS, bW] w (w2.setCell ⟨bW, k, none⟩ (.bool true)) := by
  have s1 : 64 * (k + 1) ≤ S.length := by have := h.lenS; omega
  have eS : (splice S (k * 64) x).length = S.length := length_splice _ _ _ (by omega)
  rw [bts_splice] at HG
  have d0 := h.rec_.ne_ h.seen (by decide)
  have d1 := h.rec_.ne_ h.wait (by decide)
  have d2 := h.last.ne_ h.wait (by decide)
  have d3 := h.seen.ne_ h.wait (by decide)
  have V2 := h.wait.chg HC (by simpa using fun e => d3 e.symm)
  have hw : Whole (w2.setCell ⟨bW, k, none⟩ (.bool true)) bW 4 (bls (V.set k true)) := by
    have := V2.set_ k (.bool true)
    rwa [bls_set] at this
  refine ⟨⟨?_, (h.last.chg HC (by simpa using h.ne)).far d2 _, HG.far d3 _, hw, by rw [List.length_set]; exact h.lenL, by rw [eS, List.length_set]; exact h.lenS, by rw [List.length_set]; exact h.pos, by rw [List.length_set]; exact h.le, h.ne⟩, ?_⟩
  · rw [eS, List.length_set]
    exact (h.rec_.chg HC (by simpa using d0)).far d1 _
  · exact (HC.sub (T' := [bS, bW]) (by simp)).setCell (by simp) _

set_option maxHeartbeats 1000000 in
set_option maxRecDepth 100000 in
theorem write_yes (h : Dsk w p bL bS bW L S V) (k : Nat) (hk : k < V.length) {A : Option Addr} {c : Nat} {x : List UInt8} (hx : x.length = 64) (hs : Src w A (bts x)) :
    Calls Tryz.prog 91 #[.pointer (some ⟨p, 0, none⟩), .int .i64 (k : Int), .slice A 64 c] w fun e w' => e = .returned (.bool true) ∧
      Dsk w' p bL bS bW L (splice S (k * 64) x) (V.set k true) ∧ Chg [bS, bW] w w' := by
  have c1 := h.rec_.cell 1
  have hS := h.lenS
  have hv := h.le
  have s1 : 64 * (k + 1) ≤ S.length := by omega
  have s2 : S.length ≤ 1000000 := by omega
  clear hS
  have hfit : k * 64 + (bts x).length ≤ (bts S).length := by rw [bts_len, bts_len]; omega
  have Hn := Lib.hid (show (bts x).length = Nat.min 64 64 by rw [bts_len, hx]; rfl)
  have Hx := Lib.hid hx
  have b1 := bts_one x
  have n2 := Lib.hid (show p ∉ [bS] by simpa using h.rec_.ne_ h.seen (by decide))
  have n3 := Lib.hid (show bW ∉ [bS] by simpa using h.wait.ne_ h.seen (by decide))
  obtain ⟨Y, hY⟩ : ∃ Y, Y = bts x := ⟨_, rfl⟩
  have HY := Lib.hid hY
  rw [← hY] at hfit Hn b1 hs
  clear hx hY
  go_enter Tryz.func91, Tryz.ntmps91
  go_wp2_with (first
    | (go_at_call 118; refine (has_yes h _ (by omega) (by omega)).mono ?_; rintro e w' ⟨rfl, rfl⟩)
    | (go_at_call 88; refine (dsector_any k s1 (Nat.le_refl _) s2).mono ?_; rintro e w' ⟨rfl, rfl⟩)
    | (with_reducible refine wpList_copy_chg rfl (.tmp 21) (.tmp 22) _ _ rfl 5 Tryz.underlying30 size_u8 (some ⟨bS, k * 64, none⟩) A 64 (S.length - k * 64) 64 c rfl rfl bS (k * 64) 5 (bts S) Y h.seen Hn.out (fun _ => rfl) hs hfit b1 ?_
       intro w2 HG HC
       have R2 := h.rec_.chg HC n2.out
       have V2 := h.wait.chg HC n3.out
       have c2 := R2.cell 2
       have c4 := (V2.cell k).trans (bls_get V k hk)
       have c5 := V2.frozen k))
  go_ret
  rw [HY.out] at HG
  exact ⟨rfl, write_end h hk Hx.out HC HG⟩

set_option maxHeartbeats 400000 in
set_option maxRecDepth 100000 in
theorem read_no (h : Dsk w p bL bS bW L S V) (i : Int) (hi : i < 0 ∨ (V.length : Int) ≤ i) :
    Calls Tryz.prog 93 #[.pointer (some ⟨p, 0, none⟩), .int .i64 i] w fun e w' => e = .returned (.tuple #[.slice none 0 0, .bool false]) ∧ w = w' := by
  go_enter Tryz.func93, Tryz.ntmps93
  go_wp2_with (go_at_call 118; refine (has_no h i hi).mono ?_; rintro e w' ⟨rfl, rfl⟩)
  go_ret2
  exact ⟨rfl, rfl⟩

set_option maxHeartbeats 1000000 in
set_option maxRecDepth 100000 in
theorem read_yes (h : Dsk w p bL bS bW L S V) (k : Nat) (hk : k < V.length) :
    Calls Tryz.prog 93 #[.pointer (some ⟨p, 0, none⟩), .int .i64 (k : Int)] w fun e w' => e = .returned (.tuple #[.slice (some ⟨w.heap.size, 0, none⟩) 64 64, .bool true]) ∧
      Whole w' w.heap.size 5 (bts ((S.drop (k * 64)).take 64)) ∧ Chg [] w w' := by
  have c1 := h.rec_.cell 1
  have hS := h.lenS
  have hv := h.le
  have s1 : 64 * (k + 1) ≤ S.length := by omega
  have s2 : S.length ≤ 1000000 := by omega
  clear hS
  have hl : (bts ((S.drop (k * 64)).take 64)).length = 64 := by rw [bts_len, List.length_take, List.length_drop]; omega
  have Hl := Lib.hid hl
  have hsr : Src w (some ⟨bS, k * 64, none⟩) (bts ((S.drop (k * 64)).take 64)) := by rw [← bts_cut]; exact Src.of_whole h.seen _ _
  have b1 := bts_one ((S.drop (k * 64)).take 64)
  obtain ⟨Y, hY⟩ : ∃ Y, Y = bts ((S.drop (k * 64)).take 64) := ⟨_, rfl⟩
  rw [← hY] at Hl hsr b1
  rw [← hY]
  clear hl hY
  go_enter Tryz.func93, Tryz.ntmps93
  go_wp2_with (first
    | (go_at_call 118; refine (has_yes h _ (by omega) (by omega)).mono ?_; rintro e w' ⟨rfl, rfl⟩)
    | (go_at_call 88; refine (dsector_any k s1 (Nat.le_refl _) s2).mono ?_; rintro e w' ⟨rfl, rfl⟩)
    | (go_at_call 87; refine (fresh_any Hl.out hsr b1 (by omega)).mono ?_; rintro e w2 ⟨rfl, HB, HC⟩))
  go_ret2
  exact ⟨rfl, HB, HC⟩
end
end Go.Proofs.YtddjgncdjdjgeaaGreat
namespace Go.Proofs.YtddjgncdjdjgeaaGreat
open Go.RowKit
theorem splice_get {α : Type} (L m : List α) (o i : Nat) (h : o + m.length ≤ L.length) : (splice L o m)[i]? = if o ≤ i ∧ i < o + m.length then m[i - o]? else L[i]? := by
  have ht : (L.take o).length = o := by rw [List.length_take]; omega
  unfold splice
  rcases Nat.lt_or_ge i o with h1 | h1
  · rw [if_neg (by omega), List.getElem?_append_left (by omega), List.getElem?_take, if_pos h1]
  · rcases Nat.lt_or_ge i (o + m.length) with h2 | h2
    · rw [if_pos ⟨h1, h2⟩, List.getElem?_append_right (by omega), ht, List.getElem?_append_left (by omega)]
    · rw [if_neg (by omega), List.getElem?_append_right (by omega), ht, List.getElem?_append_right (by omega), List.getElem?_drop]
      congr 1; omega
theorem splice_len {α : Type} (L m : List α) (o : Nat) (h : o + m.length ≤ L.length) : (splice L o m).length = L.length := by
  unfold splice
  simp only [List.length_append, List.length_take, List.length_drop]; omega
/-- Sectors that bytes at a place touch. -/
def tch (a n j : Nat) : Bool := decide (0 < n ∧ j * 64 < a + n ∧ a < (j + 1) * 64)
/-- Bytes written from a on. -/
def apS (s : St) (a : Nat) (b : List UInt8) : St := ⟨s.L, splice s.S a b, (List.range s.V.length).map fun j => s.V.getD j false || tch a b.length j⟩
theorem apS_nil (s : St) (a : Nat) (ha : a ≤ s.S.length) : apS s a [] = s := by
  obtain ⟨L, S, V⟩ := s
  unfold apS
  congr 1
  · apply List.ext_getElem?
    intro i
    rw [splice_get _ _ _ _ (by simpa using ha), if_neg (by simp)]
  · apply List.ext_getElem?
    intro j
    rw [List.getElem?_map]
    rcases Nat.lt_or_ge j V.length with h | h
    · rw [List.getElem?_range h, List.getElem?_eq_getElem h]
      simp [tch, List.getD, h]
    · rw [List.getElem?_eq_none (by simpa using h), List.getElem?_eq_none h]; rfl
theorem apS_V (s : St) (a : Nat) (b : List UInt8) : (apS s a b).V.length = s.V.length := by simp [apS]
/-- One sector more. -/
theorem apS_step {s : St} {a : Nat} {b : List UInt8} {k k' q : Nat} {x : List UInt8} (hl : s.S.length = 64 * s.V.length) (hb : a + b.length ≤ s.S.length) (hk : k < k') (hk' : k' ≤ b.length) (h1 : q * 64 ≤ a + k) (h2 : a + k' ≤ (q + 1) * 64) (h3 : a < (q + 1) * 64)
    (hx : x = ((splice s.S a (b.take k')).drop (q * 64)).take 64) : (apS s a (b.take k)).write q x = apS s a (b.take k') := by
  have lk : (b.take k).length = k := by rw [List.length_take]; omega
  have lk' : (b.take k').length = k' := by rw [List.length_take]; omega
  have hq : q < s.V.length := by omega
  have hsl : (splice s.S a (b.take k')).length = s.S.length := splice_len _ _ _ (by rw [lk']; omega)
  have hsk : (splice s.S a (b.take k)).length = s.S.length := splice_len _ _ _ (by rw [lk]; omega)
  have xl : x.length = 64 := by rw [hx, List.length_take, List.length_drop, hsl]; omega
  unfold St.write apS
  congr 1
  · show splice (splice s.S a (b.take k)) (q * 64) x = splice s.S a (b.take k')
    apply List.ext_getElem?
    intro i
    rw [splice_get _ _ _ _ (by rw [hsk, xl]; omega), xl]
    by_cases hi : q * 64 ≤ i ∧ i < q * 64 + 64
    · rw [if_pos hi, hx, List.getElem?_take, if_pos (by omega), List.getElem?_drop]
      congr 1; omega
    · rw [if_neg hi, splice_get _ _ _ _ (by rw [lk]; omega), splice_get _ _ _ _ (by rw [lk']; omega), lk, lk']
      by_cases h4 : a ≤ i ∧ i < a + k
      · rw [if_pos h4, if_pos (by omega), List.getElem?_take, List.getElem?_take, if_pos (by omega), if_pos (by omega)]
      · rw [if_neg h4]
        by_cases h5 : a ≤ i ∧ i < a + k'
        · omega
        · rw [if_neg h5]
  · apply List.ext_getElem?
    intro j
    rw [List.getElem?_set]
    simp only [List.getElem?_map, List.length_map, List.length_range]
    rcases Nat.lt_or_ge j s.V.length with hj | hj
    · rw [List.getElem?_range hj]
      simp only [Option.map_some]
      by_cases e : q = j
      · subst e
        rw [if_pos rfl, if_pos hj]
        have : tch a (b.take k').length q = true := decide_eq_true (by rw [lk']; omega)
        rw [this, Bool.or_true]
      · rw [if_neg e]
        have : tch a (b.take k).length j = tch a (b.take k').length j := by
          unfold tch
          rw [lk, lk']
          congr 1
          apply propext
          constructor
          · rintro ⟨_, _, _⟩; omega
          · rintro ⟨_, _, _⟩
            have : j ≠ q := fun h => e h.symm
            rcases Nat.lt_or_ge j q with h | h
            · omega
            · omega
        rw [this]
    · rw [List.getElem?_eq_none (by simpa using hj)]
      simp only [Option.map_none]
      by_cases e : q = j
      · omega
      · rw [if_neg e]
/-- What is copied into a sector that was read. -/
theorem sect_app {S b : List UInt8} {a k m q f : Nat} (hb : a + b.length ≤ S.length) (hk : k + m ≤ b.length) (hq : q * 64 + f = a + k) (hf : f + m ≤ 64) (hS : (q + 1) * 64 ≤ S.length) :
    splice (((splice S a (b.take k)).drop (q * 64)).take 64) f ((b.drop k).take m) = ((splice S a (b.take (k + m))).drop (q * 64)).take 64 := by
  have lk : (b.take k).length = k := by rw [List.length_take]; omega
  have lk' : (b.take (k + m)).length = k + m := by rw [List.length_take]; omega
  have lm : ((b.drop k).take m).length = m := by rw [List.length_take, List.length_drop]; omega
  have hsk : (splice S a (b.take k)).length = S.length := splice_len _ _ _ (by rw [lk]; omega)
  have ls : (((splice S a (b.take k)).drop (q * 64)).take 64).length = 64 := by rw [List.length_take, List.length_drop, hsk]; omega
  apply List.ext_getElem?
  intro i
  rw [splice_get _ _ _ _ (by rw [ls, lm]; exact hf), lm]
  rcases Nat.lt_or_ge i 64 with hi | hi
  · have e1 : ∀ Z : List UInt8, (Z.take 64)[i]? = Z[i]? := fun Z => by rw [List.getElem?_take, if_pos hi]
    rw [e1, e1, List.getElem?_drop, List.getElem?_drop, splice_get _ _ _ _ (by rw [lk]; omega), splice_get _ _ _ _ (by rw [lk']; omega), lk, lk']
    by_cases h1 : f ≤ i ∧ i < f + m
    · rw [if_pos h1, if_pos (show a ≤ q * 64 + i ∧ q * 64 + i < a + (k + m) by omega), List.getElem?_take, List.getElem?_take, if_pos (show i - f < m by omega), if_pos (show q * 64 + i - a < k + m by omega), List.getElem?_drop]
      congr 1; omega
    · rw [if_neg h1]
      by_cases h2 : a ≤ q * 64 + i ∧ q * 64 + i < a + k
      · rw [if_pos h2, if_pos (show a ≤ q * 64 + i ∧ q * 64 + i < a + (k + m) by omega), List.getElem?_take, List.getElem?_take, if_pos (by omega), if_pos (by omega)]
      · rw [if_neg h2, if_neg (show ¬ (a ≤ q * 64 + i ∧ q * 64 + i < a + (k + m)) by omega)]
  · have e1 : ∀ Z : List UInt8, (Z.take 64)[i]? = none := fun Z => by rw [List.getElem?_take, if_neg (by omega)]
    rw [if_neg (by omega), e1, e1]
/-- The log's bytes. -/
def logB (s : St) (L : Nat) : List UInt8 := (s.S.drop 128).take (L * 64)
theorem logB_next (s : St) (k : Nat) : logB s (k + 1) = logB s k ++ (s.S.drop ((2 + k) * 64)).take 64 := by
  unfold logB
  rw [show (k + 1) * 64 = k * 64 + 64 by omega, List.take_add, List.drop_drop]
  congr 3; omega
theorem logB_len {s : St} {L : Nat} (h : 128 + L * 64 ≤ s.S.length) : (logB s L).length = L * 64 := by
  unfold logB; rw [List.length_take, List.length_drop]; omega
end Go.Proofs.YtddjgncdjdjgeaaGreat
namespace Go.Proofs.YtddjgncdjdjgeaaGreat
open Go.RowKit
/-- Slices of bytes of our own, one for each list. -/
def Rows (B : Nat) (w : World) (vs : List Value) (rs : List (List UInt8)) : Prop :=
  vs.length = rs.length ∧ ∀ (i : Nat) (v : Value) (l : List UInt8), vs[i]? = some v → rs[i]? = some l → w.ownsRow B 5 1 v l.length (bts l)
theorem Rows.keep {B : Nat} {w w' : World} {vs : List Value} {rs : List (List UInt8)} (h : Rows B w vs rs) (hc : Chg [] w w') : Rows B w' vs rs :=
  ⟨h.1, fun i v l hv hl => own_keep (h.2 i v l hv hl) hc⟩
theorem Rows.nil (B : Nat) (w : World) : Rows B w [] [] := ⟨rfl, fun i v l hv => by simp at hv⟩
theorem Rows.snoc {B : Nat} {w : World} {vs : List Value} {rs : List (List UInt8)} (h : Rows B w vs rs) {v : Value} {l : List UInt8} (ho : w.ownsRow B 5 1 v l.length (bts l)) : Rows B w (vs ++ [v]) (rs ++ [l]) := by
  refine ⟨by simp [h.1], fun i u x hu hx => ?_⟩
  rcases Nat.lt_or_ge i vs.length with hi | hi
  · rw [List.getElem?_append_left hi] at hu
    rw [List.getElem?_append_left (by rw [← h.1]; exact hi)] at hx
    exact h.2 i u x hu hx
  · rw [List.getElem?_append_right hi] at hu
    rw [List.getElem?_append_right (by rw [← h.1]; exact hi)] at hx
    rw [← h.1] at hx
    cases hj : i - vs.length with
    | zero => rw [hj] at hu hx; simp at hu hx; subst hu; subst hx; exact ho
    | succ j => rw [hj] at hu; simp at hu
theorem own_grown {w w' : World} {B B2 n m : Nat} {e e2 : TypeId} {v v2 : Value} {xs ys : List Value} (h : w.ownsRow B e 1 v n xs) (h2 : w.ownsRow B2 e2 1 v2 m ys) (hne : e ≠ e2) (hg : w.grownBy w' v2.ownBlock) : w'.ownsRow B e 1 v n xs := by
  refine ⟨h.1, h.2.imp id ?_⟩
  rintro ⟨g, cap, cur, rfl, hb, hh, r⟩
  refine ⟨g, cap, cur, rfl, hb, ?_, r⟩
  rw [hg.block g ?_ ?_]
  · exact hh
  · rcases Nat.lt_or_ge g w.heap.size with hlt | hge
    · exact hlt
    · rw [Array.getElem?_eq_none hge] at hh; cases hh
  · intro hc
    rcases h2.2 with ⟨rfl, _⟩ | ⟨g2, cap2, cur2, rfl, hb2, hh2, _⟩
    · simp [Value.ownBlock] at hc
    · simp [Value.ownBlock] at hc
      subst hc
      rw [hh] at hh2
      simp at hh2
      exact hne hh2.2
theorem Rows.grown {B B2 m : Nat} {w w' : World} {vs : List Value} {rs : List (List UInt8)} (h : Rows B w vs rs) {v2 : Value} {ys : List Value} (h2 : w.ownsRow B2 30 1 v2 m ys) (hg : w.grownBy w' v2.ownBlock) : Rows B w' vs rs :=
  ⟨h.1, fun i v l hv hl => own_grown (h.2 i v l hv hl) h2 (by decide) hg⟩
theorem info_bytes : (Tryz.prog.info? 30).map (fun i => (i.zero, i.size, i.bytes)) = some (some (.slice none 0 0), 1, 24) := by kernel_rfl
theorem cells_slice : (Value.slice none 0 0).cells.size = 1 := rfl
end Go.Proofs.YtddjgncdjdjgeaaGreat
