/-
  (*Disk).settle: what it makes of the bytes.
-/
import Derived.Test.YtigbnmckdjlihaaSect
namespace Go.Proofs.Ytigbnmckdjlihaa
open Go.RowKit

/-- The lasting bytes behind settle(k, cut), and the seen ones. -/
def setL (L S : List UInt8) (k cut : Nat) : List UInt8 := splice L (k * 64) ((S.drop (k * 64)).take cut)
def setS (L S : List UInt8) (k cut : Nat) : List UInt8 := splice S (k * 64 + cut) ((L.drop (k * 64 + cut)).take (64 - cut))

theorem part_n {S : List UInt8} {k cut : Nat} (s1 : 64 * (k + 1) ≤ S.length) (hc : cut ≤ 64) : (bts ((S.drop (k * 64)).take cut)).length = Nat.min cut cut := by
  rw [bts_len, List.length_take, List.length_drop, show Nat.min cut cut = cut from Nat.min_self cut]; omega
theorem part_src {w : World} {S : List UInt8} {g t o cut : Nat} (h : Whole w g t (bts S)) : Src w (some ⟨g, o, none⟩) (bts ((S.drop o).take cut)) := by
  rw [← bts_cut]; exact Src.of_whole h o cut
theorem part_fit {L S : List UInt8} {k cut : Nat} (l1 : 64 * (k + 1) ≤ L.length) (hc : cut ≤ 64) : k * 64 + (bts ((S.drop (k * 64)).take cut)).length ≤ (bts L).length := by
  rw [bts_len, bts_len, List.length_take, List.length_drop]; omega

theorem setL_len {L S : List UInt8} {k cut : Nat} (l1 : 64 * (k + 1) ≤ L.length) (hc : cut ≤ 64) : (setL L S k cut).length = L.length := by
  unfold setL
  rw [length_splice]
  rw [List.length_take, List.length_drop]; omega
theorem setS_len {L S : List UInt8} {k cut : Nat} (s1 : 64 * (k + 1) ≤ S.length) (hc : cut ≤ 64) : (setS L S k cut).length = S.length := by
  unfold setS
  rw [length_splice]
  rw [List.length_take, List.length_drop]; omega
theorem setL_tail {L S : List UInt8} {k cut : Nat} (l1 : 64 * (k + 1) ≤ L.length) (s1 : 64 * (k + 1) ≤ S.length) (hc : cut ≤ 64) : (setL L S k cut).drop (k * 64 + cut) = L.drop (k * 64 + cut) := by
  have e : ((S.drop (k * 64)).take cut).length = cut := by rw [List.length_take, List.length_drop]; omega
  unfold setL splice
  rw [e, ← List.append_assoc]
  rw [List.drop_append_of_le_length (by simp [e]; omega)]
  rw [List.drop_of_length_le (by simp [e]; omega)]
  simp
theorem part2_n {L S : List UInt8} {k cut : Nat} (l1 : 64 * (k + 1) ≤ L.length) (s1 : 64 * (k + 1) ≤ S.length) (hc : cut ≤ 64) : (bts (((setL L S k cut).drop (k * 64 + cut)).take (64 - cut))).length = Nat.min (64 - cut) (64 - cut) := by
  rw [setL_tail l1 s1 hc, bts_len, List.length_take, List.length_drop, show Nat.min (64 - cut) (64 - cut) = 64 - cut from Nat.min_self _]; omega
theorem part2_fit {L S : List UInt8} {k cut : Nat} (s1 : 64 * (k + 1) ≤ S.length) (hc : cut ≤ 64) : k * 64 + cut + (bts (((setL L S k cut).drop (k * 64 + cut)).take (64 - cut))).length ≤ (bts S).length := by
  rw [bts_len, bts_len, List.length_take, List.length_drop]; omega

theorem part2_zero {l : List UInt8} {cut : Nat} {p : Prop} (h : 64 ≤ cut) : 0 < (bts (l.take (64 - cut))).length → p := fun hp => by
  rw [bts_len, List.length_take] at hp
  exact absurd hp (by omega)
theorem settle_end {w w2 w3 : World} {p bL bS bW nq k cut : Nat} {L S : List UInt8} {V : List Bool} (h : Dsk w p bL bS bW L S V) (hk : k < V.length) (hc : cut ≤ 64) (HC : Chg [bL] (w.drewN nq).drew w2) (HC3 : Chg [bS] w2.drew w3)
    (R3 : Whole w3 p 111 [.slice (some ⟨bL, 0, none⟩) L.length L.length, .slice (some ⟨bS, 0, none⟩) S.length S.length, .slice (some ⟨bW, 0, none⟩) V.length V.length])
    (L3 : Whole w3 bL 5 (bts (setL L S k cut))) (V3 : Whole w3 bW 4 (bls V)) (HG : Whole w3 bS 5 (splice (bts S) (k * 64 + cut) (bts (((setL L S k cut).drop (k * 64 + cut)).take (64 - cut))))) :
    Ending.returned (.tuple #[]) = Ending.returned (.tuple #[]) ∧ Dsk (w3.setCell ⟨bW, k, none⟩ (.bool false)) p bL bS bW (setL L S k cut) (setS L S k cut) (V.set k false) ∧ Chg [bL, bS, bW] w (w3.setCell ⟨bW, k, none⟩ (.bool false)) := by
  have l1 : 64 * (k + 1) ≤ L.length := by have := h.lenL; omega
  have s1 : 64 * (k + 1) ≤ S.length := by have := h.lenS; omega
  have eL := setL_len (S := S) l1 hc
  have eS := setS_len (L := L) s1 hc
  rw [bts_splice, setL_tail l1 s1 hc] at HG
  have d1 := h.rec_.ne_ h.wait (by decide)
  have d2 := h.last.ne_ h.wait (by decide)
  have d3 := h.seen.ne_ h.wait (by decide)
  have hw : Whole (w3.setCell ⟨bW, k, none⟩ (.bool false)) bW 4 (bls (V.set k false)) := by
    have := V3.set_ k (.bool false)
    rwa [bls_set] at this
  refine ⟨rfl, ⟨?_, L3.far d2 _, HG.far d3 _, hw, by rw [eL, List.length_set]; exact h.lenL, by rw [eS, List.length_set]; exact h.lenS, by rw [List.length_set]; exact h.pos, by rw [List.length_set]; exact h.le, h.ne⟩, ?_⟩
  · rw [eL, eS, List.length_set]
    exact R3.far d1 _
  · have a1 : Chg [bL, bS, bW] w w2 := ((Chg.refl [bL, bS, bW] w).drewN nq).drew.trans (HC.sub (by simp))
    have a2 : Chg [bL, bS, bW] w w3 := a1.drew.trans (HC3.sub (by simp))
    exact a2.setCell (by simp) _

end Go.Proofs.Ytigbnmckdjlihaa
