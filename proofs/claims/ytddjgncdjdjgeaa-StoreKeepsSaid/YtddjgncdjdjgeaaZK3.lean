/-
  K: Dsk, Sect, Settle, SettleLt, Of.
-/
import Derived.Test.YtddjgncdjdjgeaaZK2
import Derived.Deep.QuietTactic
import Derived.BigQuiet
import Derived.BigRegion
import Derived.Deep.RegionWith
namespace Go.Proofs.Ytddjgncdjdjgeaa
open Go.RowKit

/-- A disk: its struct lies in block p, the lasting bytes L in bL, the seen ones S in bS, what waits (V) in bW. -/
structure Dsk (w : World) (p bL bS bW : Nat) (L S : List UInt8) (V : List Bool) : Prop where
  rec_ : Whole w p 97 [.slice (some ⟨bL, 0, none⟩) L.length L.length, .slice (some ⟨bS, 0, none⟩) S.length S.length, .slice (some ⟨bW, 0, none⟩) V.length V.length]
  last : Whole w bL 5 (bts L)
  seen : Whole w bS 5 (bts S)
  wait : Whole w bW 4 (bls V)
  lenL : L.length = 64 * V.length
  lenS : S.length = 64 * V.length
  pos : 0 < V.length
  le : V.length ≤ 160
  ne : bL ≠ bS

section
variable {w w' : World} {p bL bS bW : Nat} {L S : List UInt8} {V : List Bool}
theorem Dsk.keep (h : Dsk w p bL bS bW L S V) (hc : Chg [] w w') : Dsk w' p bL bS bW L S V :=
  ⟨h.rec_.keep hc, h.last.keep hc, h.seen.keep hc, h.wait.keep hc, h.lenL, h.lenS, h.pos, h.le, h.ne⟩
theorem Dsk.away {T : List Nat} (h : Dsk w p bL bS bW L S V) (hc : Chg T w w') (h0 : p ∉ T) (h1 : bL ∉ T) (h2 : bS ∉ T) (h3 : bW ∉ T) : Dsk w' p bL bS bW L S V :=
  ⟨h.rec_.chg hc h0, h.last.chg hc h1, h.seen.chg hc h2, h.wait.chg hc h3, h.lenL, h.lenS, h.pos, h.le, h.ne⟩

set_option maxHeartbeats 400000 in
set_option maxRecDepth 100000 in
theorem len_any (h : Dsk w p bL bS bW L S V) : Calls Try.prog 28 #[.pointer (some ⟨p, 0, none⟩)] w fun e w' => e = .returned (.int .i64 (V.length : Int)) ∧ w = w' := by
  have c2 := h.rec_.cell 2
  go_enter Try.func28, Try.ntmps28
  go_wp2_with fail
  go_ret
  exact ⟨rfl, rfl⟩

set_option maxHeartbeats 400000 in
set_option maxRecDepth 100000 in
theorem has_yes (h : Dsk w p bL bS bW L S V) (i : Int) (h0 : 0 ≤ i) (h1 : i < V.length) :
    Calls Try.prog 101 #[.pointer (some ⟨p, 0, none⟩), .int .i64 i] w fun e w' => e = .returned (.bool true) ∧ w = w' := by
  go_enter Try.func101, Try.ntmps101
  go_wp2_with (go_at_call 28; refine (len_any h).mono ?_; rintro e w' ⟨rfl, rfl⟩)
  go_ret
  exact ⟨rfl, rfl⟩

set_option maxHeartbeats 400000 in
set_option maxRecDepth 100000 in
theorem has_no (h : Dsk w p bL bS bW L S V) (i : Int) (h0 : i < 0 ∨ (V.length : Int) ≤ i) :
    Calls Try.prog 101 #[.pointer (some ⟨p, 0, none⟩), .int .i64 i] w fun e w' => e = .returned (.bool false) ∧ w = w' := by
  rcases h0 with h0 | h0
  · have hd : decide (0 ≤ i) = false := by simp; omega
    go_enter Try.func101, Try.ntmps101
    go_wp2_with (go_at_call 28; refine (len_any h).mono ?_; rintro e w' ⟨rfl, rfl⟩)
    go_ret
    exact ⟨rfl, rfl⟩
  · by_cases hi : 0 ≤ i
    · go_enter Try.func101, Try.ntmps101
      go_wp2_with (go_at_call 28; refine (len_any h).mono ?_; rintro e w' ⟨rfl, rfl⟩)
      go_ret
      exact ⟨by simp; omega, rfl⟩
    · have := h.pos
      exact absurd h0 (by omega)
end
end Go.Proofs.Ytddjgncdjdjgeaa
namespace Go.Proofs.Ytddjgncdjdjgeaa
open Go.RowKit
set_option maxHeartbeats 400000 in
set_option maxRecDepth 100000 in
theorem dsector_any {w : World} {g n c : Nat} (k : Nat) (h : 64 * (k + 1) ≤ n) (hc : n ≤ c) (hn : c ≤ 1000000) :
    Calls Try.prog 80 #[.slice (some ⟨g, 0, none⟩) n c, .int .i64 (k : Int)] w fun e w' => e = .returned (.slice (some ⟨g, k * 64, none⟩) 64 (c - k * 64)) ∧ w = w' := by
  go_enter Try.func80, Try.ntmps80
  go_wp2_with fail
  go_ret
  exact ⟨by show Ending.returned (.slice _ ((k + 1) * 64 - k * 64) _) = _; rw [show (k + 1) * 64 - k * 64 = 64 by omega], rfl⟩

section
variable {w : World} {p bL bS bW : Nat} {L S : List UInt8} {V : List Bool}
set_option maxHeartbeats 400000 in
set_option maxRecDepth 100000 in
theorem image_any (h : Dsk w p bL bS bW L S V) :
    Calls Try.prog 21 #[.pointer (some ⟨p, 0, none⟩)] w fun e w' => e = .returned (.slice (some ⟨w.heap.size, 0, none⟩) L.length L.length) ∧ Whole w' w.heap.size 5 (bts L) ∧ Chg [] w w' := by
  have c0 := h.rec_.cell 0
  have hb := h.lenL
  have hv := h.le
  have hlt : L.length ≤ 1000000 := by omega
  clear hb
  go_enter Try.func21, Try.ntmps21
  go_wp2_with (go_at_call 53; refine (fresh_any (bts_len L) (Src.of_all h.last) (bts_one L) hlt).mono ?_; rintro e w1 ⟨rfl, HB, HC⟩)
  go_ret
  exact ⟨rfl, HB, HC⟩
end
end Go.Proofs.Ytddjgncdjdjgeaa
namespace Go.Proofs.Ytddjgncdjdjgeaa
open Go.RowKit

/-- The lasting bytes behind settle(k, cut), and the seen ones. -/
def setL (L S : List UInt8) (k cut : Nat) : List UInt8 := splice L (k * 64) ((S.drop (k * 64)).take cut)
def setS (L S : List UInt8) (k cut : Nat) : List UInt8 := splice S (k * 64 + cut) ((L.drop (k * 64 + cut)).take (64 - cut))

theorem part_n {S : List UInt8} {k cut : Nat} (s1 : 64 * (k + 1) ≤ S.length) (hc : cut ≤ 64) : (bts ((S.drop (k * 64)).take cut)).length = Nat.min cut cut := by
  rw [bts_len, List.length_take, List.length_drop, show Nat.min cut cut = cut from Nat.min_self cut]; omega
theorem part_src {w : World} {S : List UInt8} {g t o cut : Nat} (h : Whole w g t (bts S)) : Src w (some ⟨g, o, none⟩) (bts ((S.drop o).take cut)) := by
  rw [← bts_cut]; exact Src.of_whole h o cut
theorem part_fit {L S : List UInt8} {k cut : Nat} (l1 : 64 * (k + 1) ≤ L.length) (hc : cut ≤ 64) : k * 64 + (bts ((S.drop (k * 64)).take cut)).length ≤ (bts L).length := by
  rw [bts_len, bts_len, List.length_take, List.length_drop]; omega

theorem setL_len {L S : List UInt8} {k cut : Nat} (l1 : 64 * (k + 1) ≤ L.length) (hc : cut ≤ 64) : (setL L S k cut).length = L.length := by
  unfold setL
  rw [length_splice]
  rw [List.length_take, List.length_drop]; omega
theorem setS_len {L S : List UInt8} {k cut : Nat} (s1 : 64 * (k + 1) ≤ S.length) (hc : cut ≤ 64) : (setS L S k cut).length = S.length := by
  unfold setS
  rw [length_splice]
  rw [List.length_take, List.length_drop]; omega
theorem setL_tail {L S : List UInt8} {k cut : Nat} (l1 : 64 * (k + 1) ≤ L.length) (s1 : 64 * (k + 1) ≤ S.length) (hc : cut ≤ 64) : (setL L S k cut).drop (k * 64 + cut) = L.drop (k * 64 + cut) := by
  have e : ((S.drop (k * 64)).take cut).length = cut := by rw [List.length_take, List.length_drop]; omega
  unfold setL splice
  rw [e, ← List.append_assoc]
  rw [List.drop_append_of_le_length (by simp [e]; omega)]
  rw [List.drop_of_length_le (by simp [e]; omega)]
  simp
theorem part2_n {L S : List UInt8} {k cut : Nat} (l1 : 64 * (k + 1) ≤ L.length) (s1 : 64 * (k + 1) ≤ S.length) (hc : cut ≤ 64) : (bts (((setL L S k cut).drop (k * 64 + cut)).take (64 - cut))).length = Nat.min (64 - cut) (64 - cut) := by
  rw [setL_tail l1 s1 hc, bts_len, List.length_take, List.length_drop, show Nat.min (64 - cut) (64 - cut) = 64 - cut from Nat.min_self _]; omega
theorem part2_fit {L S : List UInt8} {k cut : Nat} (s1 : 64 * (k + 1) ≤ S.length) (hc : cut ≤ 64) : k * 64 + cut + (bts (((setL L S k cut).drop (k * 64 + cut)).take (64 - cut))).length ≤ (bts S).length := by
  rw [bts_len, bts_len, List.length_take, List.length_drop]; omega

theorem settle_end {w w2 w3 : World} {p bL bS bW nq k cut : Nat} {L S : List UInt8} {V : List Bool} (h : Dsk w p bL bS bW L S V) (hk : k < V.length) (hc : cut ≤ 64) (HC : Chg [bL] (w.drewN nq).drew w2) (HC3 : Chg [bS] w2.drew w3)
    (R3 : Whole w3 p 97 [.slice (some ⟨bL, 0, none⟩) L.length L.length, .slice (some ⟨bS, 0, none⟩) S.length S.length, .slice (some ⟨bW, 0, none⟩) V.length V.length])
    (L3 : Whole w3 bL 5 (bts (setL L S k cut))) (V3 : Whole w3 bW 4 (bls V)) (HG : Whole w3 bS 5 (splice (bts S) (k * 64 + cut) (bts (((setL L S k cut).drop (k * 64 + cut)).take (64 - cut))))) :
    Ending.returned (.tuple #[]) = Ending.returned (.tuple #[]) ∧ Dsk (w3.setCell ⟨bW, k, none⟩ (.bool false)) p bL bS bW (setL L S k cut) (setS L S k cut) (V.set k false) ∧ Chg [bL, bS, bW] w (w3.setCell ⟨bW, k, none⟩ (.bool false)) := by
  have l1 : 64 * (k + 1) ≤ L.length := by have := h.lenL; omega
  have s1 : 64 * (k + 1) ≤ S.length := by have := h.lenS; omega
  have eL := setL_len (S := S) l1 hc
  have eS := setS_len (L := L) s1 hc
  rw [bts_splice, setL_tail l1 s1 hc] at HG
  have d1 := h.rec_.ne_ h.wait (by decide)
  have d2 := h.last.ne_ h.wait (by decide)
  have d3 := h.seen.ne_ h.wait (by decide)
  have hw : Whole (w3.setCell ⟨bW, k, none⟩ (.bool false)) bW 4 (bls (V.set k false)) := by
    have := V3.set_ k (.bool false)
    rwa [bls_set] at this
  refine ⟨rfl, ⟨?_, L3.far d2 _, HG.far d3 _, hw, by rw [eL, List.length_set]; exact h.lenL, by rw [eS, List.length_set]; exact h.lenS, by rw [List.length_set]; exact h.pos, by rw [List.length_set]; exact h.le, h.ne⟩, ?_⟩
  · rw [eL, eS, List.length_set]
    exact R3.far d1 _
  · have a1 : Chg [bL, bS, bW] w w2 := ((Chg.refl [bL, bS, bW] w).drewN nq).drew.trans (HC.sub (by simp))
    have a2 : Chg [bL, bS, bW] w w3 := a1.drew.trans (HC3.sub (by simp))
    exact a2.setCell (by simp) _

end Go.Proofs.Ytddjgncdjdjgeaa
namespace Go.Proofs.Ytddjgncdjdjgeaa
open Go.RowKit
section
variable {w : World} {p bL bS bW : Nat} {L S : List UInt8} {V : List Bool}
set_option maxHeartbeats 3000000 in
set_option maxRecDepth 100000 in
theorem settle_lt (h : Dsk w p bL bS bW L S V) (k cut : Nat) (hk : k < V.length) (h64 : cut < 64) :
    Calls Try.prog 48 #[.pointer (some ⟨p, 0, none⟩), .int .i64 (k : Int), .int .i64 (cut : Int)] w fun e w' => e = .returned (.tuple #[]) ∧
      Dsk w' p bL bS bW (setL L S k cut) (setS L S k cut) (V.set k false) ∧ Chg [bL, bS, bW] w w' := by
  have hc : cut ≤ 64 := by omega
  have c0 := h.rec_.cell 0
  have c1 := h.rec_.cell 1
  have c2 := h.rec_.cell 2
  have hL := h.lenL
  have hS := h.lenS
  have hv := h.le
  have l1 : 64 * (k + 1) ≤ L.length := by omega
  have l2 : L.length ≤ 1000000 := by omega
  have s1 : 64 * (k + 1) ≤ S.length := by omega
  have s2 : S.length ≤ 1000000 := by omega
  clear hL hS
  have n1 := Lib.hid (show bS ∉ [bL] by simpa using fun e => h.ne e.symm)
  have n2 := Lib.hid (show p ∉ [bL] by simpa using h.rec_.ne_ h.last (by decide))
  have n3 := Lib.hid (show bW ∉ [bL] by simpa using h.wait.ne_ h.last (by decide))
  have hci : (cut : Int) ≤ 64 := by omega
  have m1 := Lib.hid (show bL ∉ [bS] by simpa using h.ne)
  have m2 := Lib.hid (show p ∉ [bS] by simpa using h.rec_.ne_ h.seen (by decide))
  have m3 := Lib.hid (show bW ∉ [bS] by simpa using h.wait.ne_ h.seen (by decide))
  have e1 : cut ≤ L.length - k * 64 := by omega
  have e2 : cut ≤ S.length - k * 64 := by omega
  go_enter Try.func48, Try.ntmps48
  go_wp2_with fail
  go_quiet ((go_at_call 80; exact Calls.quiet_of_same ((dsector_any k (by assumption) (Nat.le_refl _) (by assumption)).mono fun _ _ hh => ⟨hh.1, hh.2.symm⟩)))
  go_wp2_with fail
  go_region_law (with_reducible refine step_copy_chg rfl (.tmp 22) (.tmp 25) _ _ rfl 5 Try.underlying44 size_u8 (some ⟨bL, k * 64, none⟩) (some ⟨bS, k * 64, none⟩) cut (L.length - k * 64) cut (S.length - k * 64) rfl rfl bL (k * 64) 5 (bts L) (bts ((S.drop (k * 64)).take cut)) ((h.last.drewN _).drew) (part_n s1 hc) (fun _ => rfl) (Src.drew (Src.drewN (part_src h.seen) _)) (part_fit l1 hc) (bts_one _) ?_; intro w2 HG HC)
  have S2 : Whole w2 bS 5 (bts S) := (h.seen.drewN _).drew.chg HC n1.out
  have R2 := (h.rec_.drewN _).drew.chg HC n2.out
  have V2 := (h.wait.drewN _).drew.chg HC n3.out
  clear c0 c1 c2
  have c2 := R2.cell 2
  rw [bts_splice] at HG
  have HL2 : Whole w2 bL 5 (bts (setL L S k cut)) := HG
  clear HG
  have hne : ¬ (S.length - k * 64 = cut) := by omega
  have hne2 : ¬ (L.length - k * 64 = cut) := by omega
  go_wp2_with fail
  go_region_law (with_reducible refine step_copy_chg rfl (.tmp 29) (.tmp 32) _ _ rfl 5 Try.underlying44 size_u8 (some ⟨bS, k * 64 + cut, none⟩) (some ⟨bL, k * 64 + cut, none⟩) (64 - cut) (S.length - k * 64 - cut) (64 - cut) (L.length - k * 64 - cut) rfl rfl bS (k * 64 + cut) 5 (bts S) (bts (((setL L S k cut).drop (k * 64 + cut)).take (64 - cut))) (S2.drew) (part2_n l1 s1 hc) (fun _ => rfl) (Src.drew (part_src HL2)) (part2_fit s1 hc) (bts_one _) ?_; intro w3 HG HC3)
  have L3 : Whole w3 bL 5 (bts (setL L S k cut)) := HL2.drew.chg HC3 m1.out
  have R3 := R2.drew.chg HC3 m2.out
  have V3 := V2.drew.chg HC3 m3.out
  clear c2
  have c2 := R3.cell 2
  have c4 := (V3.cell k).trans (bls_get V k hk)
  have c5 := V3.frozen k
  go_wp2_with fail
  go_end0
  exact settle_end h hk hc HC HC3 R3 L3 V3 HG
end
end Go.Proofs.Ytddjgncdjdjgeaa
namespace Go.Proofs.Ytddjgncdjdjgeaa
open Go.RowKit

section
variable {w : World} {A : Option Addr} {n c : Nat} {l : List UInt8}

set_option maxHeartbeats 400000 in
set_option maxRecDepth 100000 in
/-- The struct is laid last: the disk stands. -/
theorem dsk_end {W : World} {q bL bS bW : Nat} (hq : q = W.heap.size) (hL : Whole W bL 5 (bts l)) (hS : Whole W bS 5 (bts l)) (hV : Whole W bW 4 (bls (falses (l.length / 64)))) (hne : bL ≠ bS)
    (h1 : 64 ≤ l.length) (h2 : l.length < 10304) (h3 : l.length % 64 = 0) (hc : Chg [] w W) (b1 : w.heap.size ≤ bL) (b2 : w.heap.size ≤ bS) (b3 : w.heap.size ≤ bW) :
    ∃ p bL' bS' bW', Ending.returned (.pointer (some ⟨q, 0, none⟩)) = .returned (.pointer (some ⟨p, 0, none⟩)) ∧
      Dsk (W.alloc (.cells #[.slice (some ⟨bL, 0, none⟩) l.length l.length, .slice (some ⟨bS, 0, none⟩) l.length l.length, .slice (some ⟨bW, 0, none⟩) (l.length / 64) (l.length / 64)] 97)) p bL' bS' bW' l l (falses (l.length / 64)) ∧
      w.heap.size ≤ p ∧ w.heap.size ≤ bL' ∧ w.heap.size ≤ bS' ∧ w.heap.size ≤ bW' ∧ Chg [] w (W.alloc (.cells #[.slice (some ⟨bL, 0, none⟩) l.length l.length, .slice (some ⟨bS, 0, none⟩) l.length l.length, .slice (some ⟨bW, 0, none⟩) (l.length / 64) (l.length / 64)] 97)) := by
  subst hq
  have hk : ∀ o, Chg [] W (W.alloc o) := fun o => (Chg.refl [] W).alloc o
  refine ⟨W.heap.size, bL, bS, bW, rfl, ⟨?_, hL.keep (hk _), hS.keep (hk _), hV.keep (hk _), ?_, ?_, ?_, ?_, hne⟩, hc.size, b1, b2, b3, hc.alloc _⟩
  · have := Whole.new W 97 [.slice (some ⟨bL, 0, none⟩) l.length l.length, .slice (some ⟨bS, 0, none⟩) l.length l.length, .slice (some ⟨bW, 0, none⟩) (l.length / 64) (l.length / 64)]
    simpa only [falses_len] using this
  · rw [falses_len]; omega
  · rw [falses_len]; omega
  · rw [falses_len]; omega
  · rw [falses_len]; omega

set_option maxHeartbeats 400000 in
set_option maxRecDepth 100000 in
theorem of_yes (hl : l.length = n) (hs : Src w A (bts l)) (h1 : 64 ≤ n) (h2 : n < 10304) (h3 : n % 64 = 0) :
    Calls Try.prog 23 #[.slice A n c] w fun e w' => ∃ p bL bS bW, e = .returned (.pointer (some ⟨p, 0, none⟩)) ∧ Dsk w' p bL bS bW l l (falses (n / 64)) ∧
      w.heap.size ≤ p ∧ w.heap.size ≤ bL ∧ w.heap.size ≤ bS ∧ w.heap.size ≤ bW ∧ Chg [] w w' := by
  have hd1 : decide ((n : Int) / 64 < 1) = false := by simp; omega
  have hd2 : decide (160 < (n : Int) / 64) = false := by simp; omega
  have hd3 : ((n : Int) % 64 != 0) = false := by simp; omega
  have hmk : ∀ W : World, (Instr.makeSlice 68 (.int .i64 ((n : Int) / 64)) (.int .i64 ((n : Int) / 64))).run Try.prog W = .ok (.slice (some ⟨W.heap.size, 0, none⟩) (n / 64) (n / 64)) (W.alloc (.cells (bls (falses (n / 64))).toArray 4)) :=
    fun W => make_bool (n / 64) (by omega) W
  have HL := Lib.hid hl
  have H3 := Lib.hid h3
  clear hl h3
  go_enter Try.func23, Try.ntmps23
  go_wp2_with fail
  go_region_with (first
    | (go_at_call 53; have _t := HB1; refine (fresh_any (xs := bts l) (by rw [bts_len]; exact HL.out) ?_ (bts_one l) (by omega)).mono ?_; · (refine hs.keep ?_; repeat (first | exact Chg.refl _ _ | apply Chg.drew | apply Chg.alloc | refine Chg.new ?_ HC1))
       rintro e w2 ⟨rfl, HB2, HC2⟩)
    | (go_at_call 53; refine (fresh_any (xs := bts l) (by rw [bts_len]; exact HL.out) ?_ (bts_one l) (by omega)).mono ?_; · (refine hs.keep ?_; repeat (first | exact Chg.refl _ _ | apply Chg.drew | apply Chg.alloc))
       rintro e w1 ⟨rfl, HB1, HC1⟩))
  all_goals (go_wp2_with fail; go_ret; obtain rfl := HL.out)
  · have c1 : Chg [] w w1 := (Chg.refl [] w).drew.new HC1
    have l1 := Whole.lt HB1
    have z1 : w.drew.heap.size = w.heap.size := rfl
    exact dsk_end (W := w2.alloc _) (by simp) ((Whole.keep HB1 HC2).keep ((Chg.refl [] w2).alloc _)) (HB2.keep ((Chg.refl [] w2).alloc _)) (Whole.new w2 _ _) (by omega) h1 h2 H3.out ((c1.new HC2).alloc _)
      (Nat.le_refl _) c1.size (Nat.le_trans c1.size HC2.size)
  · have c1 : Chg [] w w1 := (Chg.refl [] w).drew.new HC1
    have l1 := Whole.lt HB1
    have z1 : w.drew.heap.size = w.heap.size := rfl
    have hb2 : Whole w2 (w1.heap.size + 1) 5 (bts l) := by simpa using HB2
    have s1 := c1.size
    exact dsk_end (W := w2) rfl ((Whole.keep HB1 ((Chg.refl [] w1).alloc _)).keep HC2) hb2 ((Whole.new w1 _ _).keep HC2) (by omega) h1 h2 H3.out ((c1.alloc _).new HC2)
      (Nat.le_refl _) (by omega) s1
  · have hb1 : Whole w1 (w.heap.size + 1) 5 (bts l) := by simpa using HB1
    have c1 : Chg [] w w1 := ((Chg.refl [] w).alloc _).drew.new HC1
    have l1 := hb1.lt
    exact dsk_end (W := w2) rfl (hb1.keep HC2) HB2 (((Whole.new w _ _).keep ((Chg.refl [] _).drew.new HC1)).keep HC2) (by omega) h1 h2 H3.out (c1.new HC2)
      (by omega) (by omega) (Nat.le_refl _)
end
end Go.Proofs.Ytddjgncdjdjgeaa
