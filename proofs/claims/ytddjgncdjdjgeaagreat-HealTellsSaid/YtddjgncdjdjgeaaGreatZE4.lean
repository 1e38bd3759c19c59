/-
  E: Fresh, Dsk, Sect, BRows, Of, New.
-/
import Derived.Test.YtddjgncdjdjgeaaGreatZE1
import Derived.Test.YtddjgncdjdjgeaaGreatChecked
import Derived.Deep.QuietTactic
import Derived.BigQuiet
import Derived.BigRegion
import Derived.Deep.RegionWith
namespace Go.Proofs.YtddjgncdjdjgeaaGreat
open Go.RowKit

theorem info_u8 : (Tryz.prog.info? 5).map (fun i => (i.zero, i.size, i.bytes)) = some (some (.int .u8 0), 1, 1) := by kernel_rfl
theorem info_bool : (Tryz.prog.info? 4).map (fun i => (i.zero, i.size, i.bytes)) = some (some (.bool false), 1, 1) := by kernel_rfl
theorem info_int : (Tryz.prog.info? 3).map (fun i => (i.zero, i.size, i.bytes)) = some (some (.int .i64 0), 1, 8) := by kernel_rfl
theorem size_u8 : (Tryz.prog.info? 5).map (·.size) = some 1 := by kernel_rfl

theorem make_u8 (n : Nat) (h : n ≤ 1000000) (w : World) :
    (Instr.makeSlice 30 (.int .i64 (n : Int)) (.int .i64 (n : Int))).run Tryz.prog w = .ok (.slice (some ⟨w.heap.size, 0, none⟩) n n) (w.alloc (.cells (bts (zeros n)).toArray 5)) := by
  rw [bts_zeros]
  obtain ⟨i, hi, hz, hs, hb⟩ := info_parts info_u8
  exact run_make1 _ _ i _ rfl Tryz.underlying30 hi hz hs n (by rw [hb]; omega) (by omega) w
theorem make_bool (n : Nat) (h : n ≤ 1000000) (w : World) :
    (Instr.makeSlice 67 (.int .i64 (n : Int)) (.int .i64 (n : Int))).run Tryz.prog w = .ok (.slice (some ⟨w.heap.size, 0, none⟩) n n) (w.alloc (.cells (bls (falses n)).toArray 4)) := by
  rw [bls_falses]
  obtain ⟨i, hi, hz, hs, hb⟩ := info_parts info_bool
  exact run_make1 _ _ i _ rfl Tryz.underlying67 hi hz hs n (by rw [hb]; omega) (by omega) w

set_option maxHeartbeats 400000 in
set_option maxRecDepth 100000 in
theorem fresh_any {w : World} {A : Option Addr} {n c : Nat} {xs : List Value} (hl : xs.length = n) (hs : Src w A xs) (h1 : ∀ v ∈ xs, v.oneCell' = true) (hn : n ≤ 1000000) :
    Calls Tryz.prog 87 #[.slice A n c] w fun e w' => e = .returned (.slice (some ⟨w.heap.size, 0, none⟩) n n) ∧ Whole w' w.heap.size 5 xs ∧ Chg [] w w' := by
  have hmk := make_u8 n hn
  go_enter Tryz.func87, Tryz.ntmps87
  go_wp2_with (first
    | (with_reducible refine wpList_copy_splice rfl (.tmp 7) (.tmp 8) _ _ rfl 5 Tryz.underlying30 size_u8 (some ⟨w.heap.size, 0, none⟩) A n n n c rfl rfl w.heap.size 0 (bts (zeros n)) 5 ?c1 xs ?c2 ?c3 ?c4 h1 w.heap.size w ?c5 (Nat.le_refl _) ?_
       case c1 => exact heap_alloc_new w _
       case c2 => simp [hl]
       case c3 =>
         intro hp
         obtain ⟨ad, e, _, hx⟩ := (hs.keep ((Chg.refl [] w).alloc _)) hp
         exact ⟨rfl, ad, e, hx⟩
       case c4 => simp [hl, bts_len, zeros_len]
       case c5 => exact (Below.refl _ _).alloc (Nat.le_refl _) _
       intro w1 HG hB))
  go_ret
  have HG' := HG.out
  rw [splice_all _ _ (by simp [hl, bts_len, zeros_len])] at HG'
  exact ⟨rfl, HG', Chg.of_below hB⟩

end Go.Proofs.YtddjgncdjdjgeaaGreat
namespace Go.Proofs.YtddjgncdjdjgeaaGreat
open Go.RowKit

/-- A disk: its struct lies in block p, the lasting bytes L in bL, the seen ones S in bS, what waits (V) in bW. -/
structure Dsk (w : World) (p bL bS bW : Nat) (L S : List UInt8) (V : List Bool) : Prop where
  rec_ : Whole w p 123 [.slice (some ⟨bL, 0, none⟩) L.length L.length, .slice (some ⟨bS, 0, none⟩) S.length S.length, .slice (some ⟨bW, 0, none⟩) V.length V.length]
  last : Whole w bL 5 (bts L)
  seen : Whole w bS 5 (bts S)
  wait : Whole w bW 4 (bls V)
  lenL : L.length = 64 * V.length
  lenS : S.length = 64 * V.length
  pos : 0 < V.length
  le : V.length ≤ 160
  ne : bL ≠ bS

section
variable {w w' : World} {p bL bS bW : Nat} {L S : List UInt8} {V : List Bool}
theorem Dsk.keep (h : Dsk w p bL bS bW L S V) (hc : Chg [] w w') : Dsk w' p bL bS bW L S V :=
  ⟨h.rec_.keep hc, h.last.keep hc, h.seen.keep hc, h.wait.keep hc, h.lenL, h.lenS, h.pos, h.le, h.ne⟩
theorem Dsk.away {T : List Nat} (h : Dsk w p bL bS bW L S V) (hc : Chg T w w') (h0 : p ∉ T) (h1 : bL ∉ T) (h2 : bS ∉ T) (h3 : bW ∉ T) : Dsk w' p bL bS bW L S V :=
  ⟨h.rec_.chg hc h0, h.last.chg hc h1, h.seen.chg hc h2, h.wait.chg hc h3, h.lenL, h.lenS, h.pos, h.le, h.ne⟩

set_option maxHeartbeats 400000 in
set_option maxRecDepth 100000 in
theorem len_any (h : Dsk w p bL bS bW L S V) : Calls Tryz.prog 49 #[.pointer (some ⟨p, 0, none⟩)] w fun e w' => e = .returned (.int .i64 (V.length : Int)) ∧ w = w' := by
  have c2 := h.rec_.cell 2
  go_enter Tryz.func49, Tryz.ntmps49
  go_wp2_with fail
  go_ret
  exact ⟨rfl, rfl⟩

set_option maxHeartbeats 400000 in
set_option maxRecDepth 100000 in
theorem has_yes (h : Dsk w p bL bS bW L S V) (i : Int) (h0 : 0 ≤ i) (h1 : i < V.length) :
    Calls Tryz.prog 118 #[.pointer (some ⟨p, 0, none⟩), .int .i64 i] w fun e w' => e = .returned (.bool true) ∧ w = w' := by
  go_enter Tryz.func118, Tryz.ntmps118
  go_wp2_with (go_at_call 49; refine (len_any h).mono ?_; rintro e w' ⟨rfl, rfl⟩)
  go_ret
  exact ⟨rfl, rfl⟩

set_option maxHeartbeats 400000 in
set_option maxRecDepth 100000 in
theorem has_no (h : Dsk w p bL bS bW L S V) (i : Int) (h0 : i < 0 ∨ (V.length : Int) ≤ i) :
    Calls Tryz.prog 118 #[.pointer (some ⟨p, 0, none⟩), .int .i64 i] w fun e w' => e = .returned (.bool false) ∧ w = w' := by
  rcases h0 with h0 | h0
  · have hd : decide (0 ≤ i) = false := by simp; omega
    go_enter Tryz.func118, Tryz.ntmps118
    go_wp2_with (go_at_call 49; refine (len_any h).mono ?_; rintro e w' ⟨rfl, rfl⟩)
    go_ret
    exact ⟨rfl, rfl⟩
  · by_cases hi : 0 ≤ i
    · go_enter Tryz.func118, Tryz.ntmps118
      go_wp2_with (go_at_call 49; refine (len_any h).mono ?_; rintro e w' ⟨rfl, rfl⟩)
      go_ret
      exact ⟨by simp; omega, rfl⟩
    · have := h.pos
      exact absurd h0 (by omega)
end
end Go.Proofs.YtddjgncdjdjgeaaGreat
namespace Go.Proofs.YtddjgncdjdjgeaaGreat
open Go.RowKit
set_option maxHeartbeats 400000 in
set_option maxRecDepth 100000 in
theorem dsector_any {w : World} {g n c : Nat} (k : Nat) (h : 64 * (k + 1) ≤ n) (hc : n ≤ c) (hn : c ≤ 1000000) :
    Calls Tryz.prog 88 #[.slice (some ⟨g, 0, none⟩) n c, .int .i64 (k : Int)] w fun e w' => e = .returned (.slice (some ⟨g, k * 64, none⟩) 64 (c - k * 64)) ∧ w = w' := by
  go_enter Tryz.func88, Tryz.ntmps88
  go_wp2_with fail
  go_ret
  exact ⟨by show Ending.returned (.slice _ ((k + 1) * 64 - k * 64) _) = _; rw [show (k + 1) * 64 - k * 64 = 64 by omega], rfl⟩

section
variable {w : World} {p bL bS bW : Nat} {L S : List UInt8} {V : List Bool}
set_option maxHeartbeats 400000 in
set_option maxRecDepth 100000 in
theorem image_any (h : Dsk w p bL bS bW L S V) :
    Calls Tryz.prog 83 #[.pointer (some ⟨p, 0, none⟩)] w fun e w' => e = .returned (.slice (some ⟨w.heap.size, 0, none⟩) L.length L.length) ∧ Whole w' w.heap.size 5 (bts L) ∧ Chg [] w w' := by
  have c0 := h.rec_.cell 0
  have hb := h.lenL
  have hv := h.le
  have hlt : L.length ≤ 1000000 := by omega
  clear hb
  go_enter Tryz.func83, Tryz.ntmps83
  go_wp2_with (go_at_call 87; refine (fresh_any (bts_len L) (Src.of_all h.last) (bts_one L) hlt).mono ?_; rintro e w1 ⟨rfl, HB, HC⟩)
  go_ret
  exact ⟨rfl, HB, HC⟩
set_option maxHeartbeats 400000 in
set_option maxRecDepth 100000 in
theorem seen_any (h : Dsk w p bL bS bW L S V) :
    Calls Tryz.prog 84 #[.pointer (some ⟨p, 0, none⟩)] w fun e w' => e = .returned (.slice (some ⟨w.heap.size, 0, none⟩) S.length S.length) ∧ Whole w' w.heap.size 5 (bts S) ∧ Chg [] w w' := by
  have c0 := h.rec_.cell 1
  have hb := h.lenS
  have hv := h.le
  have hlt : S.length ≤ 1000000 := by omega
  clear hb
  go_enter Tryz.func84, Tryz.ntmps84
  go_wp2_with (go_at_call 87; refine (fresh_any (bts_len S) (Src.of_all h.seen) (bts_one S) hlt).mono ?_; rintro e w1 ⟨rfl, HB, HC⟩)
  go_ret
  exact ⟨rfl, HB, HC⟩
end
end Go.Proofs.YtddjgncdjdjgeaaGreat
namespace Go.Proofs.YtddjgncdjdjgeaaGreat
open Go.RowKit
/-- Slices of bytes of our own, one for each list. -/
def Rows (B : Nat) (w : World) (vs : List Value) (rs : List (List UInt8)) : Prop :=
  vs.length = rs.length ∧ ∀ (i : Nat) (v : Value) (l : List UInt8), vs[i]? = some v → rs[i]? = some l → w.ownsRow B 5 1 v l.length (bts l)
theorem Rows.keep {B : Nat} {w w' : World} {vs : List Value} {rs : List (List UInt8)} (h : Rows B w vs rs) (hc : Chg [] w w') : Rows B w' vs rs :=
  ⟨h.1, fun i v l hv hl => own_keep (h.2 i v l hv hl) hc⟩
theorem Rows.nil (B : Nat) (w : World) : Rows B w [] [] := ⟨rfl, fun i v l hv => by simp at hv⟩
theorem Rows.snoc {B : Nat} {w : World} {vs : List Value} {rs : List (List UInt8)} (h : Rows B w vs rs) {v : Value} {l : List UInt8} (ho : w.ownsRow B 5 1 v l.length (bts l)) : Rows B w (vs ++ [v]) (rs ++ [l]) := by
  refine ⟨by simp [h.1], fun i u x hu hx => ?_⟩
  rcases Nat.lt_or_ge i vs.length with hi | hi
  · rw [List.getElem?_append_left hi] at hu
    rw [List.getElem?_append_left (by rw [← h.1]; exact hi)] at hx
    exact h.2 i u x hu hx
  · rw [List.getElem?_append_right hi] at hu
    rw [List.getElem?_append_right (by rw [← h.1]; exact hi)] at hx
    rw [← h.1] at hx
    cases hj : i - vs.length with
    | zero => rw [hj] at hu hx; simp at hu hx; subst hu; subst hx; exact ho
    | succ j => rw [hj] at hu; simp at hu
theorem own_grown {w w' : World} {B B2 n m : Nat} {e e2 : TypeId} {v v2 : Value} {xs ys : List Value} (h : w.ownsRow B e 1 v n xs) (h2 : w.ownsRow B2 e2 1 v2 m ys) (hne : e ≠ e2) (hg : w.grownBy w' v2.ownBlock) : w'.ownsRow B e 1 v n xs := by
  refine ⟨h.1, h.2.imp id ?_⟩
  rintro ⟨g, cap, cur, rfl, hb, hh, r⟩
  refine ⟨g, cap, cur, rfl, hb, ?_, r⟩
  rw [hg.block g ?_ ?_]
  · exact hh
  · rcases Nat.lt_or_ge g w.heap.size with hlt | hge
    · exact hlt
    · rw [Array.getElem?_eq_none hge] at hh; cases hh
  · intro hc
    rcases h2.2 with ⟨rfl, _⟩ | ⟨g2, cap2, cur2, rfl, hb2, hh2, _⟩
    · simp [Value.ownBlock] at hc
    · simp [Value.ownBlock] at hc
      subst hc
      rw [hh] at hh2
      simp at hh2
      exact hne hh2.2
theorem Rows.grown {B B2 m : Nat} {w w' : World} {vs : List Value} {rs : List (List UInt8)} (h : Rows B w vs rs) {v2 : Value} {ys : List Value} (h2 : w.ownsRow B2 30 1 v2 m ys) (hg : w.grownBy w' v2.ownBlock) : Rows B w' vs rs :=
  ⟨h.1, fun i v l hv hl => own_grown (h.2 i v l hv hl) h2 (by decide) hg⟩
theorem info_bytes : (Tryz.prog.info? 30).map (fun i => (i.zero, i.size, i.bytes)) = some (some (.slice none 0 0), 1, 24) := by kernel_rfl
theorem cells_slice : (Value.slice none 0 0).cells.size = 1 := rfl
end Go.Proofs.YtddjgncdjdjgeaaGreat
namespace Go.Proofs.YtddjgncdjdjgeaaGreat
open Go.RowKit

section
variable {w : World} {A : Option Addr} {n c : Nat} {l : List UInt8}

set_option maxHeartbeats 400000 in
set_option maxRecDepth 100000 in
/-- Less than a sector, or more than 160, or no whole ones: nil. -/
theorem of_no (hn : n ≤ 1000000) (h : n < 64 ∨ 10304 ≤ n ∨ n % 64 ≠ 0) :
    Calls Tryz.prog 39 #[.slice A n c] w fun e w' => e = .returned (.pointer none) ∧ w = w' := by
  by_cases h1 : n < 64
  · have hd : decide ((n : Int) / 64 < 1) = true := by simp; omega
    go_enter Tryz.func39, Tryz.ntmps39
    go_wp2_with fail
    go_ret
    exact ⟨rfl, rfl⟩
  · by_cases h2 : 10304 ≤ n
    · have hd1 : decide ((n : Int) / 64 < 1) = false := by simp; omega
      have hd2 : decide (160 < (n : Int) / 64) = true := by simp; omega
      go_enter Tryz.func39, Tryz.ntmps39
      go_wp2_with fail
      go_ret
      exact ⟨rfl, rfl⟩
    · have h3 : n % 64 ≠ 0 := by omega
      have hd1 : decide ((n : Int) / 64 < 1) = false := by simp; omega
      have hd2 : decide (160 < (n : Int) / 64) = false := by simp; omega
      have hd3 : ((n : Int) % 64 != 0) = true := by simp; omega
      clear h
      go_enter Tryz.func39, Tryz.ntmps39
      go_wp2_with fail
      go_ret
      exact ⟨rfl, rfl⟩

/-- The struct is laid last: the disk stands. -/
theorem dsk_end {W : World} {q bL bS bW : Nat} (hq : q = W.heap.size) (hL : Whole W bL 5 (bts l)) (hS : Whole W bS 5 (bts l)) (hV : Whole W bW 4 (bls (falses (l.length / 64)))) (hne : bL ≠ bS)
    (h1 : 64 ≤ l.length) (h2 : l.length < 10304) (h3 : l.length % 64 = 0) (hc : Chg [] w W) (b1 : w.heap.size ≤ bL) (b2 : w.heap.size ≤ bS) (b3 : w.heap.size ≤ bW) :
    ∃ p bL' bS' bW', Ending.returned (.pointer (some ⟨q, 0, none⟩)) = .returned (.pointer (some ⟨p, 0, none⟩)) ∧
      Dsk (W.alloc (.cells #[.slice (some ⟨bL, 0, none⟩) l.length l.length, .slice (some ⟨bS, 0, none⟩) l.length l.length, .slice (some ⟨bW, 0, none⟩) (l.length / 64) (l.length / 64)] 123)) p bL' bS' bW' l l (falses (l.length / 64)) ∧
      w.heap.size ≤ p ∧ w.heap.size ≤ bL' ∧ w.heap.size ≤ bS' ∧ w.heap.size ≤ bW' ∧ Chg [] w (W.alloc (.cells #[.slice (some ⟨bL, 0, none⟩) l.length l.length, .slice (some ⟨bS, 0, none⟩) l.length l.length, .slice (some ⟨bW, 0, none⟩) (l.length / 64) (l.length / 64)] 123)) := by
  subst hq
  have hk : ∀ o, Chg [] W (W.alloc o) := fun o => (Chg.refl [] W).alloc o
  refine ⟨W.heap.size, bL, bS, bW, rfl, ⟨?_, hL.keep (hk _), hS.keep (hk _), hV.keep (hk _), ?_, ?_, ?_, ?_, hne⟩, hc.size, b1, b2, b3, hc.alloc _⟩
  · have := Whole.new W 123 [.slice (some ⟨bL, 0, none⟩) l.length l.length, .slice (some ⟨bS, 0, none⟩) l.length l.length, .slice (some ⟨bW, 0, none⟩) (l.length / 64) (l.length / 64)]
    simpa only [falses_len] using this
  · rw [falses_len]; omega
  · rw [falses_len]; omega
  · rw [falses_len]; omega
  · rw [falses_len]; omega

set_option maxHeartbeats 400000 in
set_option maxRecDepth 100000 in
theorem of_yes (hl : l.length = n) (hs : Src w A (bts l)) (h1 : 64 ≤ n) (h2 : n < 10304) (h3 : n % 64 = 0) :
    Calls Tryz.prog 39 #[.slice A n c] w fun e w' => ∃ p bL bS bW, e = .returned (.pointer (some ⟨p, 0, none⟩)) ∧ Dsk w' p bL bS bW l l (falses (n / 64)) ∧
      w.heap.size ≤ p ∧ w.heap.size ≤ bL ∧ w.heap.size ≤ bS ∧ w.heap.size ≤ bW ∧ Chg [] w w' := by
  have hd1 : decide ((n : Int) / 64 < 1) = false := by simp; omega
  have hd2 : decide (160 < (n : Int) / 64) = false := by simp; omega
  have hd3 : ((n : Int) % 64 != 0) = false := by simp; omega
  have hmk : ∀ W : World, (Instr.makeSlice 67 (.int .i64 ((n : Int) / 64)) (.int .i64 ((n : Int) / 64))).run Tryz.prog W = .ok (.slice (some ⟨W.heap.size, 0, none⟩) (n / 64) (n / 64)) (W.alloc (.cells (bls (falses (n / 64))).toArray 4)) :=
    fun W => make_bool (n / 64) (by omega) W
  have HL := Lib.hid hl
  have H3 := Lib.hid h3
  clear hl h3
  go_enter Tryz.func39, Tryz.ntmps39
  go_wp2_with fail
  go_region_with (first
    | (go_at_call 87; have _t := HB1; refine (fresh_any (xs := bts l) (by rw [bts_len]; exact HL.out) ?_ (bts_one l) (by omega)).mono ?_; · (refine hs.keep ?_; repeat (first | exact Chg.refl _ _ | apply Chg.drew | apply Chg.alloc | refine Chg.new ?_ HC1))
       rintro e w2 ⟨rfl, HB2, HC2⟩)
    | (go_at_call 87; refine (fresh_any (xs := bts l) (by rw [bts_len]; exact HL.out) ?_ (bts_one l) (by omega)).mono ?_; · (refine hs.keep ?_; repeat (first | exact Chg.refl _ _ | apply Chg.drew | apply Chg.alloc))
       rintro e w1 ⟨rfl, HB1, HC1⟩))
  all_goals (go_wp2_with fail; go_ret; obtain rfl := HL.out)
  · have c1 : Chg [] w w1 := (Chg.refl [] w).drew.new HC1
    have l1 := Whole.lt HB1
    have z1 : w.drew.heap.size = w.heap.size := rfl
    exact dsk_end (W := w2.alloc _) (by simp) ((Whole.keep HB1 HC2).keep ((Chg.refl [] w2).alloc _)) (HB2.keep ((Chg.refl [] w2).alloc _)) (Whole.new w2 _ _) (by omega) h1 h2 H3.out ((c1.new HC2).alloc _)
      (Nat.le_refl _) c1.size (Nat.le_trans c1.size HC2.size)
  · have c1 : Chg [] w w1 := (Chg.refl [] w).drew.new HC1
    have l1 := Whole.lt HB1
    have z1 : w.drew.heap.size = w.heap.size := rfl
    have hb2 : Whole w2 (w1.heap.size + 1) 5 (bts l) := by simpa using HB2
    have s1 := c1.size
    exact dsk_end (W := w2) rfl ((Whole.keep HB1 ((Chg.refl [] w1).alloc _)).keep HC2) hb2 ((Whole.new w1 _ _).keep HC2) (by omega) h1 h2 H3.out ((c1.alloc _).new HC2)
      (Nat.le_refl _) (by omega) s1
  · have hb1 : Whole w1 (w.heap.size + 1) 5 (bts l) := by simpa using HB1
    have c1 : Chg [] w w1 := ((Chg.refl [] w).alloc _).drew.new HC1
    have l1 := hb1.lt
    exact dsk_end (W := w2) rfl (hb1.keep HC2) HB2 (((Whole.new w _ _).keep ((Chg.refl [] _).drew.new HC1)).keep HC2) (by omega) h1 h2 H3.out (c1.new HC2)
      (by omega) (by omega) (Nat.le_refl _)
end
end Go.Proofs.YtddjgncdjdjgeaaGreat
namespace Go.Proofs.YtddjgncdjdjgeaaGreat
open Go.RowKit

section
variable {w : World}
set_option maxHeartbeats 400000 in
set_option maxRecDepth 100000 in
theorem new_yes (k : Nat) (h1 : 1 ≤ k) (h2 : k ≤ 160) :
    Calls Tryz.prog 41 #[.int .i64 (k : Int)] w fun e w' => ∃ p bL bS bW, e = .returned (.pointer (some ⟨p, 0, none⟩)) ∧ Dsk w' p bL bS bW (zeros (k * 64)) (zeros (k * 64)) (falses k) ∧
      w.heap.size ≤ p ∧ w.heap.size ≤ bL ∧ w.heap.size ≤ bS ∧ w.heap.size ≤ bW ∧ Chg [] w w' := by
  have hd1 : decide ((k : Int) < 1) = false := by simp; omega
  have hd2 : decide (160 < (k : Int)) = false := by simp; omega
  have hmk : ∀ W : World, (Instr.makeSlice 30 (.int .i64 ((k : Int) * 64)) (.int .i64 ((k : Int) * 64))).run Tryz.prog W = .ok (.slice (some ⟨W.heap.size, 0, none⟩) (k * 64) (k * 64)) (W.alloc (.cells (bts (zeros (k * 64))).toArray 5)) :=
    fun W => by
      have := make_u8 (k * 64) (by omega) W
      simpa using this
  go_enter Tryz.func41, Tryz.ntmps41
  go_wp2_with (go_at_call 39; refine (of_yes (l := zeros (k * 64)) (by simp [zeros]) (Src.of_all (Whole.new w _ _)) (by omega) (by omega) (by omega)).mono ?_; rintro e w1 ⟨p, bL, bS, bW, rfl, HD, b0, b1, b2, b3, HC⟩)
  go_ret
  rw [show k * 64 / 64 = k by omega] at HD
  have hs : (w.alloc (.cells (bts (zeros (k * 64))).toArray 5)).heap.size = w.heap.size + 1 := by simp
  exact ⟨p, bL, bS, bW, rfl, HD, by omega, by omega, by omega, by omega, ((Chg.refl [] w).alloc _).new HC⟩
end
end Go.Proofs.YtddjgncdjdjgeaaGreat
