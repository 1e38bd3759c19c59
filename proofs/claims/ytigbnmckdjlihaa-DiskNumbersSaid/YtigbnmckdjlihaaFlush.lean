/-
  (*Disk).Flush.
-/
import Derived.Test.YtigbnmckdjlihaaCrash
namespace Go.Proofs.Ytigbnmckdjlihaa
open Go.RowKit

/-- Behind the first i sectors. -/
def St.flush (s : St) : Nat → St
  | 0 => s
  | i + 1 => (St.flush s i).settle i 64
theorem flush_len (s : St) (i : Nat) : (s.flush i).V.length = s.V.length := by
  induction i with
  | zero => rfl
  | succ i ih => simp [St.flush, St.settle, ih]

section
variable {w : World} {p bL bS bW : Nat} {L S : List UInt8} {V : List Bool}
set_option maxHeartbeats 1000000 in
theorem flush_any (h : Dsk w p bL bS bW L S V) :
    Calls Try.prog 58 #[.pointer (some ⟨p, 0, none⟩)] w fun e w' => e = .returned (.tuple #[]) ∧ DskS w' p bL bS bW (St.flush ⟨L, S, V⟩ V.length) ∧ Chg [bL, bS, bW] w w' := by
  have c2 := h.rec_.cell 2
  have hle := h.le
  go_enter Try.func58, Try.ntmps58
  go_wp2_with fail
  go_loopw [8] (fun i wr => ∃ k : Nat, k ≤ V.length ∧ i = .int .i64 (k : Int) ∧ DskS wr p bL bS bW (St.flush ⟨L, S, V⟩ k) ∧ Chg [bL, bS, bW] w wr) (fun i _ => V.length - (intOf i).toNat)
  case atStart => exact ⟨0, Nat.zero_le _, rfl, h, Chg.refl _ _⟩
  case round =>
    obtain ⟨k, hk, rfl, hdk, hck⟩ := hrel
    by_cases hlt : k < V.length
    · have hlt3 : k < (St.flush ⟨L, S, V⟩ k).V.length := by rw [flush_len]; exact hlt
      have HE := Lib.hid (show (St.flush ⟨L, S, V⟩ (k + 1)) = (St.flush ⟨L, S, V⟩ k).settle k 64 from rfl)
      obtain ⟨s2, hE2⟩ : ∃ s2, s2 = St.flush ⟨L, S, V⟩ (k + 1) := ⟨_, rfl⟩
      rw [← hE2] at HE
      have hE2 := Lib.hid hE2
      generalize St.flush ⟨L, S, V⟩ k = s0 at HE hdk hlt3
      go_wp2_with fail
      refine (settle_int hdk k hlt3 64 (by omega) (by omega)).mono ?_
      rintro e w2 ⟨rfl, hd2, hc2⟩
      have hd3 : DskS w2 p bL bS bW s2 := by rw [HE.out]; exact hd2
      clear hd2
      go_wp2_with fail
      go_roundw
      case rel => exact ⟨k + 1, by omega, by go_num, (hE2.out ▸ hd3), hck.trans hc2⟩
      case measure => simp [intOf]; omega
    · have hkl : k = V.length := by omega
      have hdl : DskS wr p bL bS bW (St.flush ⟨L, S, V⟩ V.length) := hkl ▸ hdk
      clear hkl
      go_wp2_with fail
      go_end0
      exact ⟨rfl, hdl, hck⟩
end
end Go.Proofs.Ytigbnmckdjlihaa
