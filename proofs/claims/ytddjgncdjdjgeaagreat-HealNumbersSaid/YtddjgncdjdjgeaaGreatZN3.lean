/-
  N: St, Ref, DskS, Settle, SettleLt, SettleAll, Crash, Flush, RedoPure, Of, New.
-/
import Derived.Test.YtddjgncdjdjgeaaGreatZN1
import Derived.Test.YtddjgncdjdjgeaaGreatZN2
namespace Go.Proofs.YtddjgncdjdjgeaaGreat
open Go.RowKit
theorem Src.chg {w w' : World} {A : Option Addr} {xs : List Value} {T : List Nat} (h : Src w A xs) (hc : Chg T w w') (hA : 0 < xs.length → ∀ ad, A = some ad → ad.block ∉ T) : Src w' A xs := fun hp => by
  obtain ⟨ad, e, hb, hx⟩ := h hp
  refine ⟨ad, e, Nat.lt_of_lt_of_le hb hc.size, fun j v hj => ?_⟩
  have := hx j v hj
  rw [← this]
  have e2 : (ad.add j).block = ad.block := by unfold Addr.add; split <;> rfl
  refine World.cell?_of_block (w := w) (hc.block _ ?_ ?_)
  · rw [e2]; exact hb
  · rw [e2]; exact hA hp ad e

structure St where
  L : List UInt8
  S : List UInt8
  V : List Bool
def St.write (s : St) (k : Nat) (x : List UInt8) : St := ⟨s.L, splice s.S (k * 64) x, s.V.set k true⟩
theorem whole_at {w : World} {g g' t : Nat} {cs : List Value} (h : Whole w g t cs) (e : g = g') : Whole w g' t cs := e ▸ h
end Go.Proofs.YtddjgncdjdjgeaaGreat
namespace Go.Proofs.YtddjgncdjdjgeaaGreat
open Go.RowKit

/-- The reference's disk: struct in p; lasting bytes in gL, seen ones in gN (spare room rL, rN behind them), what waits in gW; how many deeds may be done: lf; how many were done: m. -/
structure Rfx (w : World) (p gL gN gW : Nat) (rL rN : List Value) (lf m : Int) (s : St) : Prop where
  rec_ : Whole w p 71 [.slice (some ⟨gL, 0, none⟩) s.L.length (s.L.length + rL.length), .slice (some ⟨gN, 0, none⟩) s.S.length (s.S.length + rN.length), .slice (some ⟨gW, 0, none⟩) s.V.length s.V.length, .int .i64 lf, .int .i64 m]
  last : Whole w gL 5 (bts s.L ++ rL)
  now : Whole w gN 5 (bts s.S ++ rN)
  wait : Whole w gW 4 (bls s.V)
  lenL : s.L.length = 64 * s.V.length
  lenS : s.S.length = 64 * s.V.length
  le : s.V.length ≤ 160
  ne : gL ≠ gN
/-- .. with all deeds let be done. -/
abbrev Rfd (w : World) (p gL gN gW : Nat) (rL rN : List Value) (m : Int) (s : St) : Prop := Rfx w p gL gN gW rL rN (-1) m s

section
variable {w w' : World} {p gL gN gW : Nat} {rL rN : List Value} {lf m : Int} {s : St}
theorem Rfx.keep (h : Rfx w p gL gN gW rL rN lf m s) (hc : Chg [] w w') : Rfx w' p gL gN gW rL rN lf m s :=
  ⟨h.rec_.keep hc, h.last.keep hc, h.now.keep hc, h.wait.keep hc, h.lenL, h.lenS, h.le, h.ne⟩
theorem Rfx.away {T : List Nat} (h : Rfx w p gL gN gW rL rN lf m s) (hc : Chg T w w') (h0 : p ∉ T) (h1 : gL ∉ T) (h2 : gN ∉ T) (h3 : gW ∉ T) : Rfx w' p gL gN gW rL rN lf m s :=
  ⟨h.rec_.chg hc h0, h.last.chg hc h1, h.now.chg hc h2, h.wait.chg hc h3, h.lenL, h.lenS, h.le, h.ne⟩
theorem Rfd.keep (h : Rfd w p gL gN gW rL rN m s) (hc : Chg [] w w') : Rfd w' p gL gN gW rL rN m s := Rfx.keep h hc
theorem Rfd.away {T : List Nat} (h : Rfd w p gL gN gW rL rN m s) (hc : Chg T w w') (h0 : p ∉ T) (h1 : gL ∉ T) (h2 : gN ∉ T) (h3 : gW ∉ T) : Rfd w' p gL gN gW rL rN m s := Rfx.away h hc h0 h1 h2 h3

set_option maxHeartbeats 400000 in
set_option maxRecDepth 100000 in
theorem rlen_any (h : Rfx w p gL gN gW rL rN lf m s) : Calls Tryz.prog 53 #[.pointer (some ⟨p, 0, none⟩)] w fun e w' => e = .returned (.int .i64 (s.V.length : Int)) ∧ w = w' := by
  have c2 := h.rec_.cell 2
  go_enter Tryz.func53, Tryz.ntmps53
  go_wp2_with fail
  go_ret
  exact ⟨rfl, rfl⟩

set_option maxHeartbeats 1000000 in
set_option maxRecDepth 100000 in
theorem rdeed_any (h : Rfd w p gL gN gW rL rN m s) : Calls Tryz.prog 79 #[.pointer (some ⟨p, 0, none⟩)] w fun e w' => ∃ m', e = .returned (.bool true) ∧ Rfd w' p gL gN gW rL rN m' s ∧ Chg [p] w w' := by
  have c3 := h.rec_.cell 3
  have c4 := h.rec_.cell 4
  have f4 := h.rec_.frozen 4
  go_enter Tryz.func79, Tryz.ntmps79
  go_wp2_with fail
  go_ret
  refine ⟨_, rfl, ⟨h.rec_.set_ 4 _, h.last.far (h.last.ne_ h.rec_ (by decide)) _, h.now.far (h.now.ne_ h.rec_ (by decide)) _, h.wait.far (h.wait.ne_ h.rec_ (by decide)) _, h.lenL, h.lenS, h.le, h.ne⟩, (Chg.refl [p] w).setCell (by simp) _⟩
end
end Go.Proofs.YtddjgncdjdjgeaaGreat
namespace Go.Proofs.YtddjgncdjdjgeaaGreat
open Go.RowKit
theorem own_form {w : World} {base n e : Nat} {v : Value} {xs : List Value} (h : w.ownsRow base e 1 v n xs) : ∃ A c, v = .slice A n c ∧ Src w A xs ∧ xs.length = n ∧ ∀ ad, A = some ad → ad.spot = none ∧ base ≤ ad.block := by
  have hl : xs.length = n := by simpa using h.1
  rcases h.2 with ⟨rfl, h0⟩ | ⟨g, cap, cur, rfl, hb, hg, _⟩
  · subst h0
    exact ⟨none, 0, rfl, fun hp => absurd hp (by omega), hl, by simp⟩
  · refine ⟨_, cap, rfl, fun _ => ⟨_, rfl, ?_, h.cells rfl⟩, hl, fun ad e => ?_⟩
    · rcases Nat.lt_or_ge g w.heap.size with hlt | hge
      · exact hlt
      · rw [Array.getElem?_eq_none hge] at hg; cases hg
    · injection e with e
      subst e
      exact ⟨rfl, hb⟩
def DskS (w : World) (p bL bS bW : Nat) (s : St) : Prop := Dsk w p bL bS bW s.L s.S s.V
theorem str_front {w : World} {g : Nat} {X : List UInt8} {r : List Value} (h : Whole w g 5 (bts X ++ r)) (n : Nat) (hn : X.length = n) (c : Nat) :
    (convert 30 9 (.slice (some ⟨g, 0, none⟩) n c)).run Tryz.prog w = .ok (.string (strOf X)) w := by
  subst hn
  have hs : Src w (some ⟨g, 0, none⟩) (bts X) := by
    have := Src.of_whole h 0 X.length
    rwa [List.drop_zero, List.take_append_of_le_length (by rw [bts_len]; omega), List.take_of_length_le (by rw [bts_len]; omega)] at this
  exact run_str 30 5 9 Tryz.underlying30 Tryz.underlying5 Tryz.underlying9 _ X c w hs (fun ad e => by injection e with e; subst e; rfl)
end Go.Proofs.YtddjgncdjdjgeaaGreat
namespace Go.Proofs.YtddjgncdjdjgeaaGreat
open Go.RowKit

/-- The lasting bytes behind settle(k, cut), and the seen ones. -/
def setL (L S : List UInt8) (k cut : Nat) : List UInt8 := splice L (k * 64) ((S.drop (k * 64)).take cut)
def setS (L S : List UInt8) (k cut : Nat) : List UInt8 := splice S (k * 64 + cut) ((L.drop (k * 64 + cut)).take (64 - cut))

theorem part_n {S : List UInt8} {k cut : Nat} (s1 : 64 * (k + 1) ≤ S.length) (hc : cut ≤ 64) : (bts ((S.drop (k * 64)).take cut)).length = Nat.min cut cut := by
  rw [bts_len, List.length_take, List.length_drop, show Nat.min cut cut = cut from Nat.min_self cut]; omega
theorem part_src {w : World} {S : List UInt8} {g t o cut : Nat} (h : Whole w g t (bts S)) : Src w (some ⟨g, o, none⟩) (bts ((S.drop o).take cut)) := by
  rw [← bts_cut]; exact Src.of_whole h o cut
theorem part_fit {L S : List UInt8} {k cut : Nat} (l1 : 64 * (k + 1) ≤ L.length) (hc : cut ≤ 64) : k * 64 + (bts ((S.drop (k * 64)).take cut)).length ≤ (bts L).length := by
  rw [bts_len, bts_len, List.length_take, List.length_drop]; omega

theorem setL_len {L S : List UInt8} {k cut : Nat} (l1 : 64 * (k + 1) ≤ L.length) (hc : cut ≤ 64) : (setL L S k cut).length = L.length := by
  unfold setL
  rw [length_splice]
  rw [List.length_take, List.length_drop]; omega
theorem setS_len {L S : List UInt8} {k cut : Nat} (s1 : 64 * (k + 1) ≤ S.length) (hc : cut ≤ 64) : (setS L S k cut).length = S.length := by
  unfold setS
  rw [length_splice]
  rw [List.length_take, List.length_drop]; omega
theorem setL_tail {L S : List UInt8} {k cut : Nat} (l1 : 64 * (k + 1) ≤ L.length) (s1 : 64 * (k + 1) ≤ S.length) (hc : cut ≤ 64) : (setL L S k cut).drop (k * 64 + cut) = L.drop (k * 64 + cut) := by
  have e : ((S.drop (k * 64)).take cut).length = cut := by rw [List.length_take, List.length_drop]; omega
  unfold setL splice
  rw [e, ← List.append_assoc]
  rw [List.drop_append_of_le_length (by simp [e]; omega)]
  rw [List.drop_of_length_le (by simp [e]; omega)]
  simp
theorem part2_n {L S : List UInt8} {k cut : Nat} (l1 : 64 * (k + 1) ≤ L.length) (s1 : 64 * (k + 1) ≤ S.length) (hc : cut ≤ 64) : (bts (((setL L S k cut).drop (k * 64 + cut)).take (64 - cut))).length = Nat.min (64 - cut) (64 - cut) := by
  rw [setL_tail l1 s1 hc, bts_len, List.length_take, List.length_drop, show Nat.min (64 - cut) (64 - cut) = 64 - cut from Nat.min_self _]; omega
theorem part2_fit {L S : List UInt8} {k cut : Nat} (s1 : 64 * (k + 1) ≤ S.length) (hc : cut ≤ 64) : k * 64 + cut + (bts (((setL L S k cut).drop (k * 64 + cut)).take (64 - cut))).length ≤ (bts S).length := by
  rw [bts_len, bts_len, List.length_take, List.length_drop]; omega

theorem settle_end {w w2 w3 : World} {p bL bS bW nq k cut : Nat} {L S : List UInt8} {V : List Bool} (h : Dsk w p bL bS bW L S V) (hk : k < V.length) (hc : cut ≤ 64) (HC : Chg [bL] (w.drewN nq).drew w2) (HC3 : Chg [bS] w2.drew w3)
    (R3 : Whole w3 p 123 [.slice (some ⟨bL, 0, none⟩) L.length L.length, .slice (some ⟨bS, 0, none⟩) S.length S.length, .slice (some ⟨bW, 0, none⟩) V.length V.length])
    (L3 : Whole w3 bL 5 (bts (setL L S k cut))) (V3 : Whole w3 bW 4 (bls V)) (HG : Whole w3 bS 5 (splice (bts S) (k * 64 + cut) (bts (((setL L S k cut).drop (k * 64 + cut)).take (64 - cut))))) :
    Ending.returned (.tuple #[]) = Ending.returned (.tuple #[]) ∧ Dsk (w3.setCell ⟨bW, k, none⟩ (.bool false)) p bL bS bW (setL L S k cut) (setS L S k cut) (V.set k false) ∧ Chg [bL, bS, bW] w (w3.setCell ⟨bW, k, none⟩ (.bool false)) := by
  have l1 : 64 * (k + 1) ≤ L.length := by have := h.lenL; omega
  have s1 : 64 * (k + 1) ≤ S.length := by have := h.lenS; omega
  have eL := setL_len (S := S) l1 hc
  have eS := setS_len (L := L) s1 hc
  rw [bts_splice, setL_tail l1 s1 hc] at HG
  have d1 := h.rec_.ne_ h.wait (by decide)
  have d2 := h.last.ne_ h.wait (by decide)
  have d3 := h.seen.ne_ h.wait (by decide)
  have hw : Whole (w3.setCell ⟨bW, k, none⟩ (.bool false)) bW 4 (bls (V.set k false)) := by
    have := V3.set_ k (.bool false)
    rwa [bls_set] at this
  refine ⟨rfl, ⟨?_, L3.far d2 _, HG.far d3 _, hw, by rw [eL, List.length_set]; exact h.lenL, by rw [eS, List.length_set]; exact h.lenS, by rw [List.length_set]; exact h.pos, by rw [List.length_set]; exact h.le, h.ne⟩, ?_⟩
  · rw [eL, eS, List.length_set]
    exact R3.far d1 _
  · have a1 : Chg [bL, bS, bW] w w2 := ((Chg.refl [bL, bS, bW] w).drewN nq).drew.trans (HC.sub (by simp))
    have a2 : Chg [bL, bS, bW] w w3 := a1.drew.trans (HC3.sub (by simp))
    exact a2.setCell (by simp) _

end Go.Proofs.YtddjgncdjdjgeaaGreat
namespace Go.Proofs.YtddjgncdjdjgeaaGreat
open Go.RowKit
section
variable {w : World} {p bL bS bW : Nat} {L S : List UInt8} {V : List Bool}
set_option maxHeartbeats 3000000 in
set_option maxRecDepth 100000 in
theorem settle_lt (h : Dsk w p bL bS bW L S V) (k cut : Nat) (hk : k < V.length) (h64 : cut < 64) :
    Calls Tryz.prog 43 #[.pointer (some ⟨p, 0, none⟩), .int .i64 (k : Int), .int .i64 (cut : Int)] w fun e w' => e = .returned (.tuple #[]) ∧
      Dsk w' p bL bS bW (setL L S k cut) (setS L S k cut) (V.set k false) ∧ Chg [bL, bS, bW] w w' := by
  have hc : cut ≤ 64 := by omega
  have c0 := h.rec_.cell 0
  have c1 := h.rec_.cell 1
  have c2 := h.rec_.cell 2
  have hL := h.lenL
  have hS := h.lenS
  have hv := h.le
  have l1 : 64 * (k + 1) ≤ L.length := by omega
  have l2 : L.length ≤ 1000000 := by omega
  have s1 : 64 * (k + 1) ≤ S.length := by omega
  have s2 : S.length ≤ 1000000 := by omega
  clear hL hS
  have n1 := Lib.hid (show bS ∉ [bL] by simpa using fun e => h.ne e.symm)
  have n2 := Lib.hid (show p ∉ [bL] by simpa using h.rec_.ne_ h.last (by decide))
  have n3 := Lib.hid (show bW ∉ [bL] by simpa using h.wait.ne_ h.last (by decide))
  have hci : (cut : Int) ≤ 64 := by omega
  have m1 := Lib.hid (show bL ∉ [bS] by simpa using h.ne)
  have m2 := Lib.hid (show p ∉ [bS] by simpa using h.rec_.ne_ h.seen (by decide))
  have m3 := Lib.hid (show bW ∉ [bS] by simpa using h.wait.ne_ h.seen (by decide))
  have e1 : cut ≤ L.length - k * 64 := by omega
  have e2 : cut ≤ S.length - k * 64 := by omega
  go_enter Tryz.func43, Tryz.ntmps43
  go_wp2_with fail
  go_quiet ((go_at_call 88; exact Calls.quiet_of_same ((dsector_any k (by assumption) (Nat.le_refl _) (by assumption)).mono fun _ _ hh => ⟨hh.1, hh.2.symm⟩)))
  go_wp2_with fail
  go_region_law (with_reducible refine step_copy_chg rfl (.tmp 22) (.tmp 25) _ _ rfl 5 Tryz.underlying30 size_u8 (some ⟨bL, k * 64, none⟩) (some ⟨bS, k * 64, none⟩) cut (L.length - k * 64) cut (S.length - k * 64) rfl rfl bL (k * 64) 5 (bts L) (bts ((S.drop (k * 64)).take cut)) ((h.last.drewN _).drew) (part_n s1 hc) (fun _ => rfl) (Src.drew (Src.drewN (part_src h.seen) _)) (part_fit l1 hc) (bts_one _) ?_; intro w2 HG HC)
  have S2 : Whole w2 bS 5 (bts S) := (h.seen.drewN _).drew.chg HC n1.out
  have R2 := (h.rec_.drewN _).drew.chg HC n2.out
  have V2 := (h.wait.drewN _).drew.chg HC n3.out
  clear c0 c1 c2
  have c2 := R2.cell 2
  rw [bts_splice] at HG
  have HL2 : Whole w2 bL 5 (bts (setL L S k cut)) := HG
  clear HG
  have hne : ¬ (S.length - k * 64 = cut) := by omega
  have hne2 : ¬ (L.length - k * 64 = cut) := by omega
  go_wp2_with fail
  go_region_law (with_reducible refine step_copy_chg rfl (.tmp 29) (.tmp 32) _ _ rfl 5 Tryz.underlying30 size_u8 (some ⟨bS, k * 64 + cut, none⟩) (some ⟨bL, k * 64 + cut, none⟩) (64 - cut) (S.length - k * 64 - cut) (64 - cut) (L.length - k * 64 - cut) rfl rfl bS (k * 64 + cut) 5 (bts S) (bts (((setL L S k cut).drop (k * 64 + cut)).take (64 - cut))) (S2.drew) (part2_n l1 s1 hc) (fun _ => rfl) (Src.drew (part_src HL2)) (part2_fit s1 hc) (bts_one _) ?_; intro w3 HG HC3)
  have L3 : Whole w3 bL 5 (bts (setL L S k cut)) := HL2.drew.chg HC3 m1.out
  have R3 := R2.drew.chg HC3 m2.out
  have V3 := V2.drew.chg HC3 m3.out
  clear c2
  have c2 := R3.cell 2
  have c4 := (V3.cell k).trans (bls_get V k hk)
  have c5 := V3.frozen k
  go_wp2_with fail
  go_end0
  exact settle_end h hk hc HC HC3 R3 L3 V3 HG
end
end Go.Proofs.YtddjgncdjdjgeaaGreat
namespace Go.Proofs.YtddjgncdjdjgeaaGreat
open Go.RowKit
section
variable {w : World} {p bL bS bW : Nat} {L S : List UInt8} {V : List Bool}
set_option maxHeartbeats 3000000 in
set_option maxRecDepth 100000 in
theorem settle_64 (h : Dsk w p bL bS bW L S V) (k : Nat) (hk : k < V.length) :
    Calls Tryz.prog 43 #[.pointer (some ⟨p, 0, none⟩), .int .i64 (k : Int), .int .i64 64] w fun e w' => e = .returned (.tuple #[]) ∧
      Dsk w' p bL bS bW (setL L S k 64) (setS L S k 64) (V.set k false) ∧ Chg [bL, bS, bW] w w' := by
  have c0 := h.rec_.cell 0
  have c1 := h.rec_.cell 1
  have c2 := h.rec_.cell 2
  have hL := h.lenL
  have hS := h.lenS
  have hv := h.le
  have hc : (64 : Nat) ≤ 64 := Nat.le_refl _
  have l1 : 64 * (k + 1) ≤ L.length := by omega
  have l2 : L.length ≤ 1000000 := by omega
  have s1 : 64 * (k + 1) ≤ S.length := by omega
  have s2 : S.length ≤ 1000000 := by omega
  have hLS := Lib.hid (show L.length = S.length by omega)
  clear hL hS
  have n1 := Lib.hid (show bS ∉ [bL] by simpa using fun e => h.ne e.symm)
  have n2 := Lib.hid (show p ∉ [bL] by simpa using h.rec_.ne_ h.last (by decide))
  have n3 := Lib.hid (show bW ∉ [bL] by simpa using h.wait.ne_ h.last (by decide))
  have m1 := Lib.hid (show bL ∉ [bS] by simpa using h.ne)
  have m2 := Lib.hid (show p ∉ [bS] by simpa using h.rec_.ne_ h.seen (by decide))
  have m3 := Lib.hid (show bW ∉ [bS] by simpa using h.wait.ne_ h.seen (by decide))
  have e1 : (64 : Int) ≤ ((L.length - k * 64 : Nat) : Int) := by omega
  have e2 : (64 : Int) ≤ ((S.length - k * 64 : Nat) : Int) := by omega
  have hn0 := part_n s1 hc
  have hf0 := part_fit (S := S) l1 hc
  have hs0 := part_src (o := k * 64) (cut := 64) h.seen
  have hsp := Lib.hid (bts_splice L ((S.drop (k * 64)).take 64) (k * 64))
  have hb1 := bts_one ((S.drop (k * 64)).take 64)
  obtain ⟨Y, hY⟩ : ∃ Y, Y = bts ((S.drop (k * 64)).take 64) := ⟨_, rfl⟩
  rw [← hY] at hn0 hf0 hs0 hsp hb1
  have Hn := Lib.hid hn0
  clear hn0 hY
  go_enter Tryz.func43, Tryz.ntmps43
  go_wp2_with fail
  go_quiet ((go_at_call 88; exact Calls.quiet_of_same ((dsector_any k (by assumption) (Nat.le_refl _) (by assumption)).mono fun _ _ hh => ⟨hh.1, hh.2.symm⟩)))
  go_wp2_with fail
  go_region_law (with_reducible refine step_copy_chg rfl (.tmp 22) (.tmp 25) _ _ rfl 5 Tryz.underlying30 size_u8 (some ⟨bL, k * 64, none⟩) (some ⟨bS, k * 64, none⟩) 64 (L.length - k * 64) 64 (S.length - k * 64) rfl rfl bL (k * 64) 5 (bts L) Y ((h.last.drewN _).drew) Hn.out (fun _ => rfl) (Src.drew (Src.drewN hs0 _)) hf0 hb1 ?_; intro w2 HG HC)
  have S2 : Whole w2 bS 5 (bts S) := (h.seen.drewN _).drew.chg HC n1.out
  have R2 := (h.rec_.drewN _).drew.chg HC n2.out
  have V2 := (h.wait.drewN _).drew.chg HC n3.out
  clear c0 c1 c2
  have c2 := R2.cell 2
  rw [hsp.out] at HG
  have HL2 : Whole w2 bL 5 (bts (setL L S k 64)) := HG
  clear HG
  have c4 := (V2.cell k).trans (bls_get V k hk)
  have c5 := V2.frozen k
  by_cases hlast : S.length - k * 64 = 64
  · have hlast2 : L.length - k * 64 = 64 := by have := hLS.out; omega
    go_wp2_with fail
    go_region_law (with_reducible refine step_copy_none rfl (.tmp 29) (.tmp 32) _ _ rfl 5 Tryz.underlying30 size_u8 _ _ 0 _ 0 _ rfl rfl rfl ?_)
    go_wp2_with fail
    go_end0
    exact settle_end h hk hc HC (Chg.refl _ _) R2.drew HL2.drew V2.drew (by simpa [splice, bts] using S2.drew)
  · have hlast2 : ¬ (L.length - k * 64 = 64) := by have := hLS.out; omega
    go_wp2_with fail
    go_region_law (with_reducible refine step_copy_none rfl (.tmp 29) (.tmp 32) _ _ rfl 5 Tryz.underlying30 size_u8 _ _ 0 _ 0 _ rfl rfl rfl ?_)
    go_wp2_with fail
    go_end0
    exact settle_end h hk hc HC (Chg.refl _ _) R2.drew HL2.drew V2.drew (by simpa [splice, bts] using S2.drew)
end
end Go.Proofs.YtddjgncdjdjgeaaGreat
namespace Go.Proofs.YtddjgncdjdjgeaaGreat
open Go.RowKit

/-- The i-th cut, held between 0 and 64; 0 where there is none. -/
def cutAt (cuts : List Int) (i : Nat) : Nat := if h : i < cuts.length then (min (max cuts[i] 0) 64).toNat else 0
theorem cutAt_le (cuts : List Int) (i : Nat) : cutAt cuts i ≤ 64 := by unfold cutAt; split <;> omega

def St.settle (s : St) (k cut : Nat) : St := ⟨setL s.L s.S k cut, setS s.L s.S k cut, s.V.set k false⟩
/-- Behind the first i of the sectors ws. -/
def St.crash (s : St) (ws : List Nat) (cuts : List Int) : Nat → St
  | 0 => s
  | i + 1 => (St.crash s ws cuts i).settle (ws.getD i 0) (cutAt cuts i)
theorem crash_len (s : St) (ws : List Nat) (cuts : List Int) (i : Nat) : (s.crash ws cuts i).V.length = s.V.length := by
  induction i with
  | zero => rfl
  | succ i ih => simp [St.crash, St.settle, ih]
theorem wl_lt (V : List Bool) (k i : Nat) (h : i < (wl V k).length) : (wl V k)[i] < k := by
  have := List.getElem_mem h
  unfold wl at this
  exact List.mem_range.1 (List.mem_filter.1 this).1

section
variable {w : World} {p bL bS bW : Nat} {L S : List UInt8} {V : List Bool}
theorem settle_int (h : Dsk w p bL bS bW L S V) (k : Nat) (hk : k < V.length) (c : Int) (h0 : 0 ≤ c) (h1 : c ≤ 64) :
    Calls Tryz.prog 43 #[.pointer (some ⟨p, 0, none⟩), .int .i64 (k : Int), .int .i64 c] w fun e w' => e = .returned (.tuple #[]) ∧
      Dsk w' p bL bS bW (setL L S k c.toNat) (setS L S k c.toNat) (V.set k false) ∧ Chg [bL, bS, bW] w w' := by
  obtain ⟨n, rfl⟩ := Int.eq_ofNat_of_zero_le h0
  rw [Int.toNat_natCast]
  by_cases hn : n < 64
  · exact settle_lt h k n hk hn
  · obtain rfl : n = 64 := by omega
    rw [show ((64 : Nat) : Int) = 64 from rfl]
    exact settle_64 h k hk

end
end Go.Proofs.YtddjgncdjdjgeaaGreat
namespace Go.Proofs.YtddjgncdjdjgeaaGreat
open Go.RowKit

/-- Behind the first i sectors. -/
def St.flush (s : St) : Nat → St
  | 0 => s
  | i + 1 => (St.flush s i).settle i 64
theorem flush_len (s : St) (i : Nat) : (s.flush i).V.length = s.V.length := by
  induction i with
  | zero => rfl
  | succ i ih => simp [St.flush, St.settle, ih]

section
variable {w : World} {p bL bS bW : Nat} {L S : List UInt8} {V : List Bool}
set_option maxHeartbeats 1000000 in
set_option maxRecDepth 100000 in
theorem flush_any (h : Dsk w p bL bS bW L S V) :
    Calls Tryz.prog 78 #[.pointer (some ⟨p, 0, none⟩)] w fun e w' => e = .returned (.tuple #[]) ∧ DskS w' p bL bS bW (St.flush ⟨L, S, V⟩ V.length) ∧ Chg [bL, bS, bW] w w' := by
  have c2 := h.rec_.cell 2
  have hle := h.le
  go_enter Tryz.func78, Tryz.ntmps78
  go_wp2_with fail
  go_loopw [8] (fun i wr => ∃ k : Nat, k ≤ V.length ∧ i = .int .i64 (k : Int) ∧ DskS wr p bL bS bW (St.flush ⟨L, S, V⟩ k) ∧ Chg [bL, bS, bW] w wr) (fun i _ => V.length - (intOf i).toNat)
  case atStart => exact ⟨0, Nat.zero_le _, rfl, h, Chg.refl _ _⟩
  case round =>
    obtain ⟨k, hk, rfl, hdk, hck⟩ := hrel
    by_cases hlt : k < V.length
    · have hlt3 : k < (St.flush ⟨L, S, V⟩ k).V.length := by rw [flush_len]; exact hlt
      have HE := Lib.hid (show (St.flush ⟨L, S, V⟩ (k + 1)) = (St.flush ⟨L, S, V⟩ k).settle k 64 from rfl)
      obtain ⟨s2, hE2⟩ : ∃ s2, s2 = St.flush ⟨L, S, V⟩ (k + 1) := ⟨_, rfl⟩
      rw [← hE2] at HE
      have hE2 := Lib.hid hE2
      generalize St.flush ⟨L, S, V⟩ k = s0 at HE hdk hlt3
      go_wp2_with fail
      refine (settle_int hdk k hlt3 64 (by omega) (by omega)).mono ?_
      rintro e w2 ⟨rfl, hd2, hc2⟩
      have hd3 : DskS w2 p bL bS bW s2 := by rw [HE.out]; exact hd2
      clear hd2
      go_wp2_with fail
      go_roundw
      case rel => exact ⟨k + 1, by omega, by go_num, (hE2.out ▸ hd3), hck.trans hc2⟩
      case measure => simp [intOf]; omega
    · have hkl : k = V.length := by omega
      have hdl : DskS wr p bL bS bW (St.flush ⟨L, S, V⟩ V.length) := hkl ▸ hdk
      clear hkl
      go_wp2_with fail
      go_end0
      exact ⟨rfl, hdl, hck⟩
end
end Go.Proofs.YtddjgncdjdjgeaaGreat
namespace Go.Proofs.YtddjgncdjdjgeaaGreat
open Go.RowKit
theorem splice_get {α : Type} (L m : List α) (o i : Nat) (h : o + m.length ≤ L.length) : (splice L o m)[i]? = if o ≤ i ∧ i < o + m.length then m[i - o]? else L[i]? := by
  have ht : (L.take o).length = o := by rw [List.length_take]; omega
  unfold splice
  rcases Nat.lt_or_ge i o with h1 | h1
  · rw [if_neg (by omega), List.getElem?_append_left (by omega), List.getElem?_take, if_pos h1]
  · rcases Nat.lt_or_ge i (o + m.length) with h2 | h2
    · rw [if_pos ⟨h1, h2⟩, List.getElem?_append_right (by omega), ht, List.getElem?_append_left (by omega)]
    · rw [if_neg (by omega), List.getElem?_append_right (by omega), ht, List.getElem?_append_right (by omega), List.getElem?_drop]
      congr 1; omega
theorem splice_len {α : Type} (L m : List α) (o : Nat) (h : o + m.length ≤ L.length) : (splice L o m).length = L.length := by
  unfold splice
  simp only [List.length_append, List.length_take, List.length_drop]; omega
/-- Sectors that bytes at a place touch. -/
def tch (a n j : Nat) : Bool := decide (0 < n ∧ j * 64 < a + n ∧ a < (j + 1) * 64)
/-- Bytes written from a on. -/
def apS (s : St) (a : Nat) (b : List UInt8) : St := ⟨s.L, splice s.S a b, (List.range s.V.length).map fun j => s.V.getD j false || tch a b.length j⟩
theorem apS_nil (s : St) (a : Nat) (ha : a ≤ s.S.length) : apS s a [] = s := by
  obtain ⟨L, S, V⟩ := s
  unfold apS
  congr 1
  · apply List.ext_getElem?
    intro i
    rw [splice_get _ _ _ _ (by simpa using ha), if_neg (by simp)]
  · apply List.ext_getElem?
    intro j
    rw [List.getElem?_map]
    rcases Nat.lt_or_ge j V.length with h | h
    · rw [List.getElem?_range h, List.getElem?_eq_getElem h]
      simp [tch, List.getD, h]
    · rw [List.getElem?_eq_none (by simpa using h), List.getElem?_eq_none h]; rfl
theorem apS_V (s : St) (a : Nat) (b : List UInt8) : (apS s a b).V.length = s.V.length := by simp [apS]
/-- One sector more. -/
theorem apS_step {s : St} {a : Nat} {b : List UInt8} {k k' q : Nat} {x : List UInt8} (hl : s.S.length = 64 * s.V.length) (hb : a + b.length ≤ s.S.length) (hk : k < k') (hk' : k' ≤ b.length) (h1 : q * 64 ≤ a + k) (h2 : a + k' ≤ (q + 1) * 64) (h3 : a < (q + 1) * 64)
    (hx : x = ((splice s.S a (b.take k')).drop (q * 64)).take 64) : (apS s a (b.take k)).write q x = apS s a (b.take k') := by
  have lk : (b.take k).length = k := by rw [List.length_take]; omega
  have lk' : (b.take k').length = k' := by rw [List.length_take]; omega
  have hq : q < s.V.length := by omega
  have hsl : (splice s.S a (b.take k')).length = s.S.length := splice_len _ _ _ (by rw [lk']; omega)
  have hsk : (splice s.S a (b.take k)).length = s.S.length := splice_len _ _ _ (by rw [lk]; omega)
  have xl : x.length = 64 := by rw [hx, List.length_take, List.length_drop, hsl]; omega
  unfold St.write apS
  congr 1
  · show splice (splice s.S a (b.take k)) (q * 64) x = splice s.S a (b.take k')
    apply List.ext_getElem?
    intro i
    rw [splice_get _ _ _ _ (by rw [hsk, xl]; omega), xl]
    by_cases hi : q * 64 ≤ i ∧ i < q * 64 + 64
    · rw [if_pos hi, hx, List.getElem?_take, if_pos (by omega), List.getElem?_drop]
      congr 1; omega
    · rw [if_neg hi, splice_get _ _ _ _ (by rw [lk]; omega), splice_get _ _ _ _ (by rw [lk']; omega), lk, lk']
      by_cases h4 : a ≤ i ∧ i < a + k
      · rw [if_pos h4, if_pos (by omega), List.getElem?_take, List.getElem?_take, if_pos (by omega), if_pos (by omega)]
      · rw [if_neg h4]
        by_cases h5 : a ≤ i ∧ i < a + k'
        · omega
        · rw [if_neg h5]
  · apply List.ext_getElem?
    intro j
    rw [List.getElem?_set]
    simp only [List.getElem?_map, List.length_map, List.length_range]
    rcases Nat.lt_or_ge j s.V.length with hj | hj
    · rw [List.getElem?_range hj]
      simp only [Option.map_some]
      by_cases e : q = j
      · subst e
        rw [if_pos rfl, if_pos hj]
        have : tch a (b.take k').length q = true := decide_eq_true (by rw [lk']; omega)
        rw [this, Bool.or_true]
      · rw [if_neg e]
        have : tch a (b.take k).length j = tch a (b.take k').length j := by
          unfold tch
          rw [lk, lk']
          congr 1
          apply propext
          constructor
          · rintro ⟨_, _, _⟩; omega
          · rintro ⟨_, _, _⟩
            have : j ≠ q := fun h => e h.symm
            rcases Nat.lt_or_ge j q with h | h
            · omega
            · omega
        rw [this]
    · rw [List.getElem?_eq_none (by simpa using hj)]
      simp only [Option.map_none]
      by_cases e : q = j
      · omega
      · rw [if_neg e]
/-- The log's bytes. -/
def logB (s : St) (L : Nat) : List UInt8 := (s.S.drop 128).take (L * 64)
theorem logB_next (s : St) (k : Nat) : logB s (k + 1) = logB s k ++ (s.S.drop ((2 + k) * 64)).take 64 := by
  unfold logB
  rw [show (k + 1) * 64 = k * 64 + 64 by omega, List.take_add, List.drop_drop]
  congr 3; omega
theorem logB_len {s : St} {L : Nat} (h : 128 + L * 64 ≤ s.S.length) : (logB s L).length = L * 64 := by
  unfold logB; rw [List.length_take, List.length_drop]; omega
end Go.Proofs.YtddjgncdjdjgeaaGreat
namespace Go.Proofs.YtddjgncdjdjgeaaGreat
open Go.RowKit

section
variable {w : World} {A : Option Addr} {n c : Nat} {l : List UInt8}

set_option maxHeartbeats 400000 in
set_option maxRecDepth 100000 in
/-- The struct is laid last: the disk stands. -/
theorem dsk_end {W : World} {q bL bS bW : Nat} (hq : q = W.heap.size) (hL : Whole W bL 5 (bts l)) (hS : Whole W bS 5 (bts l)) (hV : Whole W bW 4 (bls (falses (l.length / 64)))) (hne : bL ≠ bS)
    (h1 : 64 ≤ l.length) (h2 : l.length < 10304) (h3 : l.length % 64 = 0) (hc : Chg [] w W) (b1 : w.heap.size ≤ bL) (b2 : w.heap.size ≤ bS) (b3 : w.heap.size ≤ bW) :
    ∃ p bL' bS' bW', Ending.returned (.pointer (some ⟨q, 0, none⟩)) = .returned (.pointer (some ⟨p, 0, none⟩)) ∧
      Dsk (W.alloc (.cells #[.slice (some ⟨bL, 0, none⟩) l.length l.length, .slice (some ⟨bS, 0, none⟩) l.length l.length, .slice (some ⟨bW, 0, none⟩) (l.length / 64) (l.length / 64)] 123)) p bL' bS' bW' l l (falses (l.length / 64)) ∧
      w.heap.size ≤ p ∧ w.heap.size ≤ bL' ∧ w.heap.size ≤ bS' ∧ w.heap.size ≤ bW' ∧ Chg [] w (W.alloc (.cells #[.slice (some ⟨bL, 0, none⟩) l.length l.length, .slice (some ⟨bS, 0, none⟩) l.length l.length, .slice (some ⟨bW, 0, none⟩) (l.length / 64) (l.length / 64)] 123)) := by
  subst hq
  have hk : ∀ o, Chg [] W (W.alloc o) := fun o => (Chg.refl [] W).alloc o
  refine ⟨W.heap.size, bL, bS, bW, rfl, ⟨?_, hL.keep (hk _), hS.keep (hk _), hV.keep (hk _), ?_, ?_, ?_, ?_, hne⟩, hc.size, b1, b2, b3, hc.alloc _⟩
  · have := Whole.new W 123 [.slice (some ⟨bL, 0, none⟩) l.length l.length, .slice (some ⟨bS, 0, none⟩) l.length l.length, .slice (some ⟨bW, 0, none⟩) (l.length / 64) (l.length / 64)]
    simpa only [falses_len] using this
  · rw [falses_len]; omega
  · rw [falses_len]; omega
  · rw [falses_len]; omega
  · rw [falses_len]; omega

set_option maxHeartbeats 400000 in
set_option maxRecDepth 100000 in
theorem of_yes (hl : l.length = n) (hs : Src w A (bts l)) (h1 : 64 ≤ n) (h2 : n < 10304) (h3 : n % 64 = 0) :
    Calls Tryz.prog 39 #[.slice A n c] w fun e w' => ∃ p bL bS bW, e = .returned (.pointer (some ⟨p, 0, none⟩)) ∧ Dsk w' p bL bS bW l l (falses (n / 64)) ∧
      w.heap.size ≤ p ∧ w.heap.size ≤ bL ∧ w.heap.size ≤ bS ∧ w.heap.size ≤ bW ∧ Chg [] w w' := by
  have hd1 : decide ((n : Int) / 64 < 1) = false := by simp; omega
  have hd2 : decide (160 < (n : Int) / 64) = false := by simp; omega
  have hd3 : ((n : Int) % 64 != 0) = false := by simp; omega
  have hmk : ∀ W : World, (Instr.makeSlice 67 (.int .i64 ((n : Int) / 64)) (.int .i64 ((n : Int) / 64))).run Tryz.prog W = .ok (.slice (some ⟨W.heap.size, 0, none⟩) (n / 64) (n / 64)) (W.alloc (.cells (bls (falses (n / 64))).toArray 4)) :=
    fun W => make_bool (n / 64) (by omega) W
  have HL := Lib.hid hl
  have H3 := Lib.hid h3
  clear hl h3
  go_enter Tryz.func39, Tryz.ntmps39
  go_wp2_with fail
  go_region_with (first
    | (go_at_call 87; have _t := HB1; refine (fresh_any (xs := bts l) (by rw [bts_len]; exact HL.out) ?_ (bts_one l) (by omega)).mono ?_; · (refine hs.keep ?_; repeat (first | exact Chg.refl _ _ | apply Chg.drew | apply Chg.alloc | refine Chg.new ?_ HC1))
       rintro e w2 ⟨rfl, HB2, HC2⟩)
    | (go_at_call 87; refine (fresh_any (xs := bts l) (by rw [bts_len]; exact HL.out) ?_ (bts_one l) (by omega)).mono ?_; · (refine hs.keep ?_; repeat (first | exact Chg.refl _ _ | apply Chg.drew | apply Chg.alloc))
       rintro e w1 ⟨rfl, HB1, HC1⟩))
  all_goals (go_wp2_with fail; go_ret; obtain rfl := HL.out)
  · have c1 : Chg [] w w1 := (Chg.refl [] w).drew.new HC1
    have l1 := Whole.lt HB1
    have z1 : w.drew.heap.size = w.heap.size := rfl
    exact dsk_end (W := w2.alloc _) (by simp) ((Whole.keep HB1 HC2).keep ((Chg.refl [] w2).alloc _)) (HB2.keep ((Chg.refl [] w2).alloc _)) (Whole.new w2 _ _) (by omega) h1 h2 H3.out ((c1.new HC2).alloc _)
      (Nat.le_refl _) c1.size (Nat.le_trans c1.size HC2.size)
  · have c1 : Chg [] w w1 := (Chg.refl [] w).drew.new HC1
    have l1 := Whole.lt HB1
    have z1 : w.drew.heap.size = w.heap.size := rfl
    have hb2 : Whole w2 (w1.heap.size + 1) 5 (bts l) := by simpa using HB2
    have s1 := c1.size
    exact dsk_end (W := w2) rfl ((Whole.keep HB1 ((Chg.refl [] w1).alloc _)).keep HC2) hb2 ((Whole.new w1 _ _).keep HC2) (by omega) h1 h2 H3.out ((c1.alloc _).new HC2)
      (Nat.le_refl _) (by omega) s1
  · have hb1 : Whole w1 (w.heap.size + 1) 5 (bts l) := by simpa using HB1
    have c1 : Chg [] w w1 := ((Chg.refl [] w).alloc _).drew.new HC1
    have l1 := hb1.lt
    exact dsk_end (W := w2) rfl (hb1.keep HC2) HB2 (((Whole.new w _ _).keep ((Chg.refl [] _).drew.new HC1)).keep HC2) (by omega) h1 h2 H3.out (c1.new HC2)
      (by omega) (by omega) (Nat.le_refl _)
end
end Go.Proofs.YtddjgncdjdjgeaaGreat
namespace Go.Proofs.YtddjgncdjdjgeaaGreat
open Go.RowKit

section
variable {w : World}
set_option maxHeartbeats 400000 in
set_option maxRecDepth 100000 in
theorem new_yes (k : Nat) (h1 : 1 ≤ k) (h2 : k ≤ 160) :
    Calls Tryz.prog 41 #[.int .i64 (k : Int)] w fun e w' => ∃ p bL bS bW, e = .returned (.pointer (some ⟨p, 0, none⟩)) ∧ Dsk w' p bL bS bW (zeros (k * 64)) (zeros (k * 64)) (falses k) ∧
      w.heap.size ≤ p ∧ w.heap.size ≤ bL ∧ w.heap.size ≤ bS ∧ w.heap.size ≤ bW ∧ Chg [] w w' := by
  have hd1 : decide ((k : Int) < 1) = false := by simp; omega
  have hd2 : decide (160 < (k : Int)) = false := by simp; omega
  have hmk : ∀ W : World, (Instr.makeSlice 30 (.int .i64 ((k : Int) * 64)) (.int .i64 ((k : Int) * 64))).run Tryz.prog W = .ok (.slice (some ⟨W.heap.size, 0, none⟩) (k * 64) (k * 64)) (W.alloc (.cells (bts (zeros (k * 64))).toArray 5)) :=
    fun W => by
      have := make_u8 (k * 64) (by omega) W
      simpa using this
  go_enter Tryz.func41, Tryz.ntmps41
  go_wp2_with (go_at_call 39; refine (of_yes (l := zeros (k * 64)) (by simp [zeros]) (Src.of_all (Whole.new w _ _)) (by omega) (by omega) (by omega)).mono ?_; rintro e w1 ⟨p, bL, bS, bW, rfl, HD, b0, b1, b2, b3, HC⟩)
  go_ret
  rw [show k * 64 / 64 = k by omega] at HD
  have hs : (w.alloc (.cells (bts (zeros (k * 64))).toArray 5)).heap.size = w.heap.size + 1 := by simp
  exact ⟨p, bL, bS, bW, rfl, HD, by omega, by omega, by omega, by omega, ((Chg.refl [] w).alloc _).new HC⟩
end
end Go.Proofs.YtddjgncdjdjgeaaGreat
