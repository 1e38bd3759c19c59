/-
  SO: Settle, SettleLt.
-/
import Derived.Test.YtfhgnoajfipjdaaZSO9
namespace Go.Proofs.Ytfhgnoajfipjdaa
open Go.RowKit

/-- The lasting bytes behind settle(k, cut), and the seen ones. -/
def setL (L S : List UInt8) (k cut : Nat) : List UInt8 := splice L (k * 64) ((S.drop (k * 64)).take cut)
def setS (L S : List UInt8) (k cut : Nat) : List UInt8 := splice S (k * 64 + cut) ((L.drop (k * 64 + cut)).take (64 - cut))

theorem part_n {S : List UInt8} {k cut : Nat} (s1 : 64 * (k + 1) ≤ S.length) (hc : cut ≤ 64) : (bts ((S.drop (k * 64)).take cut)).length = Nat.min cut cut := by
  rw [bts_len, List.length_take, List.length_drop, show Nat.min cut cut = cut from Nat.min_self cut]; omega
theorem part_src {w : World} {S : List UInt8} {g t o cut : Nat} (h : Whole w g t (bts S)) : Src w (some ⟨g, o, none⟩) (bts ((S.drop o).take cut)) := by
  rw [← bts_cut]; exact Src.of_whole h o cut
theorem part_fit {L S : List UInt8} {k cut : Nat} (l1 : 64 * (k + 1) ≤ L.length) (hc : cut ≤ 64) : k * 64 + (bts ((S.drop (k * 64)).take cut)).length ≤ (bts L).length := by
  rw [bts_len, bts_len, List.length_take, List.length_drop]; omega

theorem setL_len {L S : List UInt8} {k cut : Nat} (l1 : 64 * (k + 1) ≤ L.length) (hc : cut ≤ 64) : (setL L S k cut).length = L.length := by
  unfold setL
  rw [length_splice]
  rw [List.length_take, List.length_drop]; omega
theorem setS_len {L S : List UInt8} {k cut : Nat} (s1 : 64 * (k + 1) ≤ S.length) (hc : cut ≤ 64) : (setS L S k cut).length = S.length := by
  unfold setS
  rw [length_splice]
  rw [List.length_take, List.length_drop]; omega
theorem setL_tail {L S : List UInt8} {k cut : Nat} (l1 : 64 * (k + 1) ≤ L.length) (s1 : 64 * (k + 1) ≤ S.length) (hc : cut ≤ 64) : (setL L S k cut).drop (k * 64 + cut) = L.drop (k * 64 + cut) := by
  have e : ((S.drop (k * 64)).take cut).length = cut := by rw [List.length_take, List.length_drop]; omega
  unfold setL splice
  rw [e, ← List.append_assoc]
  rw [List.drop_append_of_le_length (by simp [e]; omega)]
  rw [List.drop_of_length_le (by simp [e]; omega)]
  simp
theorem part2_n {L S : List UInt8} {k cut : Nat} (l1 : 64 * (k + 1) ≤ L.length) (s1 : 64 * (k + 1) ≤ S.length) (hc : cut ≤ 64) : (bts (((setL L S k cut).drop (k * 64 + cut)).take (64 - cut))).length = Nat.min (64 - cut) (64 - cut) := by
  rw [setL_tail l1 s1 hc, bts_len, List.length_take, List.length_drop, show Nat.min (64 - cut) (64 - cut) = 64 - cut from Nat.min_self _]; omega
theorem part2_fit {L S : List UInt8} {k cut : Nat} (s1 : 64 * (k + 1) ≤ S.length) (hc : cut ≤ 64) : k * 64 + cut + (bts (((setL L S k cut).drop (k * 64 + cut)).take (64 - cut))).length ≤ (bts S).length := by
  rw [bts_len, bts_len, List.length_take, List.length_drop]; omega

theorem settle_end {w w2 w3 : World} {p bL bS bW nq k cut : Nat} {L S : List UInt8} {V : List Bool} (h : Dsk w p bL bS bW L S V) (hk : k < V.length) (hc : cut ≤ 64) (HC : Chg [bL] (w.drewN nq).drew w2) (HC3 : Chg [bS] w2.drew w3)
    (R3 : Whole w3 p 157 [.slice (some ⟨bL, 0, none⟩) L.length L.length, .slice (some ⟨bS, 0, none⟩) S.length S.length, .slice (some ⟨bW, 0, none⟩) V.length V.length])
    (L3 : Whole w3 bL 5 (bts (setL L S k cut))) (V3 : Whole w3 bW 4 (bls V)) (HG : Whole w3 bS 5 (splice (bts S) (k * 64 + cut) (bts (((setL L S k cut).drop (k * 64 + cut)).take (64 - cut))))) :
    Ending.returned (.tuple #[]) = Ending.returned (.tuple #[]) ∧ Dsk (w3.setCell ⟨bW, k, none⟩ (.bool false)) p bL bS bW (setL L S k cut) (setS L S k cut) (V.set k false) ∧ Chg [bL, bS, bW] w (w3.setCell ⟨bW, k, none⟩ (.bool false)) := by
  have l1 : 64 * (k + 1) ≤ L.length := by have := h.lenL; omega
  have s1 : 64 * (k + 1) ≤ S.length := by have := h.lenS; omega
  have eL := setL_len (S := S) l1 hc
  have eS := setS_len (L := L) s1 hc
  rw [bts_splice, setL_tail l1 s1 hc] at HG
  have d1 := h.rec_.ne_ h.wait (by decide)
  have d2 := h.last.ne_ h.wait (by decide)
  have d3 := h.seen.ne_ h.wait (by decide)
  have hw : Whole (w3.setCell ⟨bW, k, none⟩ (.bool false)) bW 4 (bls (V.set k false)) := by
    have := V3.set_ k (.bool false)
    rwa [bls_set] at this
  refine ⟨rfl, ⟨?_, L3.far d2 _, HG.far d3 _, hw, by rw [eL, List.length_set]; exact h.lenL, by rw [eS, List.length_set]; exact h.lenS, by rw [List.length_set]; exact h.pos, by rw [List.length_set]; exact h.le, h.ne⟩, ?_⟩
  · rw [eL, eS, List.length_set]
    exact R3.far d1 _
  · have a1 : Chg [bL, bS, bW] w w2 := ((Chg.refl [bL, bS, bW] w).drewN nq).drew.trans (HC.sub (by simp))
    have a2 : Chg [bL, bS, bW] w w3 := a1.drew.trans (HC3.sub (by simp))
    exact a2.setCell (by simp) _

end Go.Proofs.Ytfhgnoajfipjdaa
namespace Go.Proofs.Ytfhgnoajfipjdaa
open Go.RowKit
section
variable {w : World} {p bL bS bW : Nat} {L S : List UInt8} {V : List Bool}
set_option maxHeartbeats 3000000 in
theorem settle_lt (h : Dsk w p bL bS bW L S V) (k cut : Nat) (hk : k < V.length) (h64 : cut < 64) :
    Calls Try.prog 83 #[.pointer (some ⟨p, 0, none⟩), .int .i64 (k : Int), .int .i64 (cut : Int)] w fun e w' => e = .returned (.tuple #[]) ∧
      Dsk w' p bL bS bW (setL L S k cut) (setS L S k cut) (V.set k false) ∧ Chg [bL, bS, bW] w w' := by
  have hc : cut ≤ 64 := by omega
  have c0 := h.rec_.cell 0
  have c1 := h.rec_.cell 1
  have c2 := h.rec_.cell 2
  have hL := h.lenL
  have hS := h.lenS
  have hv := h.le
  have l1 : 64 * (k + 1) ≤ L.length := by omega
  have l2 : L.length ≤ 1000000 := by omega
  have s1 : 64 * (k + 1) ≤ S.length := by omega
  have s2 : S.length ≤ 1000000 := by omega
  clear hL hS
  have n1 := Lib.hid (show bS ∉ [bL] by simpa using fun e => h.ne e.symm)
  have n2 := Lib.hid (show p ∉ [bL] by simpa using h.rec_.ne_ h.last (by decide))
  have n3 := Lib.hid (show bW ∉ [bL] by simpa using h.wait.ne_ h.last (by decide))
  have hci : (cut : Int) ≤ 64 := by omega
  have m1 := Lib.hid (show bL ∉ [bS] by simpa using h.ne)
  have m2 := Lib.hid (show p ∉ [bS] by simpa using h.rec_.ne_ h.seen (by decide))
  have m3 := Lib.hid (show bW ∉ [bS] by simpa using h.wait.ne_ h.seen (by decide))
  have e1 : cut ≤ L.length - k * 64 := by omega
  have e2 : cut ≤ S.length - k * 64 := by omega
  go_enter Try.func83, Try.ntmps83
  go_wp2_with fail
  go_quiet ((go_at_call 121; exact Calls.quiet_of_same ((dsector_any k (by assumption) (Nat.le_refl _) (by assumption)).mono fun _ _ hh => ⟨hh.1, hh.2.symm⟩)))
  go_wp2_with fail
  go_region_law (with_reducible refine step_copy_chg rfl (.tmp 22) (.tmp 25) _ _ rfl 5 Try.underlying46 size_u8 (some ⟨bL, k * 64, none⟩) (some ⟨bS, k * 64, none⟩) cut (L.length - k * 64) cut (S.length - k * 64) rfl rfl bL (k * 64) 5 (bts L) (bts ((S.drop (k * 64)).take cut)) ((h.last.drewN _).drew) (part_n s1 hc) (fun _ => rfl) (Src.drew (Src.drewN (part_src h.seen) _)) (part_fit l1 hc) (bts_one _) ?_; intro w2 HG HC)
  have S2 : Whole w2 bS 5 (bts S) := (h.seen.drewN _).drew.chg HC n1.out
  have R2 := (h.rec_.drewN _).drew.chg HC n2.out
  have V2 := (h.wait.drewN _).drew.chg HC n3.out
  clear c0 c1 c2
  have c2 := R2.cell 2
  rw [bts_splice] at HG
  have HL2 : Whole w2 bL 5 (bts (setL L S k cut)) := HG
  clear HG
  have hne : ¬ (S.length - k * 64 = cut) := by omega
  have hne2 : ¬ (L.length - k * 64 = cut) := by omega
  go_wp2_with fail
  go_region_law (with_reducible refine step_copy_chg rfl (.tmp 29) (.tmp 32) _ _ rfl 5 Try.underlying46 size_u8 (some ⟨bS, k * 64 + cut, none⟩) (some ⟨bL, k * 64 + cut, none⟩) (64 - cut) (S.length - k * 64 - cut) (64 - cut) (L.length - k * 64 - cut) rfl rfl bS (k * 64 + cut) 5 (bts S) (bts (((setL L S k cut).drop (k * 64 + cut)).take (64 - cut))) (S2.drew) (part2_n l1 s1 hc) (fun _ => rfl) (Src.drew (part_src HL2)) (part2_fit s1 hc) (bts_one _) ?_; intro w3 HG HC3)
  have L3 : Whole w3 bL 5 (bts (setL L S k cut)) := HL2.drew.chg HC3 m1.out
  have R3 := R2.drew.chg HC3 m2.out
  have V3 := V2.drew.chg HC3 m3.out
  clear c2
  have c2 := R3.cell 2
  have c4 := (V3.cell k).trans (bls_get V k hk)
  have c5 := V3.frozen k
  go_wp2_with fail
  go_end0
  exact settle_end h hk hc HC HC3 R3 L3 V3 HG
end
end Go.Proofs.Ytfhgnoajfipjdaa
