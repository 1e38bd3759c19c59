/-
  (*Disk).settle at a cut below 64.
-/
import Derived.Test.YtigbnmckdjlihaaSettle
namespace Go.Proofs.Ytigbnmckdjlihaa
open Go.RowKit
section
variable {w : World} {p bL bS bW : Nat} {L S : List UInt8} {V : List Bool}
set_option maxHeartbeats 3000000 in
theorem settle_lt (h : Dsk w p bL bS bW L S V) (k cut : Nat) (hk : k < V.length) (h64 : cut < 64) :
    Calls Try.prog 73 #[.pointer (some ⟨p, 0, none⟩), .int .i64 (k : Int), .int .i64 (cut : Int)] w fun e w' => e = .returned (.tuple #[]) ∧
      Dsk w' p bL bS bW (setL L S k cut) (setS L S k cut) (V.set k false) ∧ Chg [bL, bS, bW] w w' := by
  have hc : cut ≤ 64 := by omega
  have c0 := h.rec_.cell 0
  have c1 := h.rec_.cell 1
  have c2 := h.rec_.cell 2
  have hL := h.lenL
  have hS := h.lenS
  have hv := h.le
  have l1 : 64 * (k + 1) ≤ L.length := by omega
  have l2 : L.length ≤ 1000000 := by omega
  have s1 : 64 * (k + 1) ≤ S.length := by omega
  have s2 : S.length ≤ 1000000 := by omega
  clear hL hS
  have n1 := Lib.hid (show bS ∉ [bL] by simpa using fun e => h.ne e.symm)
  have n2 := Lib.hid (show p ∉ [bL] by simpa using h.rec_.ne_ h.last (by decide))
  have n3 := Lib.hid (show bW ∉ [bL] by simpa using h.wait.ne_ h.last (by decide))
  have hci : (cut : Int) ≤ 64 := by omega
  have m1 := Lib.hid (show bL ∉ [bS] by simpa using h.ne)
  have m2 := Lib.hid (show p ∉ [bS] by simpa using h.rec_.ne_ h.seen (by decide))
  have m3 := Lib.hid (show bW ∉ [bS] by simpa using h.wait.ne_ h.seen (by decide))
  have e1 : cut ≤ L.length - k * 64 := by omega
  have e2 : cut ≤ S.length - k * 64 := by omega
  go_enter Try.func73, Try.ntmps73
  go_wp2_with fail
  go_quiet ((go_at_call 77; exact Calls.quiet_of_same ((dsector_any k (by assumption) (Nat.le_refl _) (by assumption)).mono fun _ _ hh => ⟨hh.1, hh.2.symm⟩)))
  go_wp2_with fail
  go_region_law (with_reducible refine step_copy_chg rfl (.tmp 22) (.tmp 25) _ _ rfl 5 Try.underlying40 size_u8 (some ⟨bL, k * 64, none⟩) (some ⟨bS, k * 64, none⟩) cut (L.length - k * 64) cut (S.length - k * 64) rfl rfl bL (k * 64) 5 (bts L) (bts ((S.drop (k * 64)).take cut)) ((h.last.drewN _).drew) (part_n s1 hc) (fun _ => rfl) (Src.drew (Src.drewN (part_src h.seen) _)) (part_fit l1 hc) (bts_one _) ?_; intro w2 HG HC)
  have S2 : Whole w2 bS 5 (bts S) := (h.seen.drewN _).drew.chg HC n1.out
  have R2 := (h.rec_.drewN _).drew.chg HC n2.out
  have V2 := (h.wait.drewN _).drew.chg HC n3.out
  clear c0 c1 c2
  have c2 := R2.cell 2
  rw [bts_splice] at HG
  have HL2 : Whole w2 bL 5 (bts (setL L S k cut)) := HG
  clear HG
  have hne : ¬ (S.length - k * 64 = cut) := by omega
  have hne2 : ¬ (L.length - k * 64 = cut) := by omega
  go_wp2_with fail
  go_region_law (with_reducible refine step_copy_chg rfl (.tmp 29) (.tmp 32) _ _ rfl 5 Try.underlying40 size_u8 (some ⟨bS, k * 64 + cut, none⟩) (some ⟨bL, k * 64 + cut, none⟩) (64 - cut) (S.length - k * 64 - cut) (64 - cut) (L.length - k * 64 - cut) rfl rfl bS (k * 64 + cut) 5 (bts S) (bts (((setL L S k cut).drop (k * 64 + cut)).take (64 - cut))) (S2.drew) (part2_n l1 s1 hc) (fun _ => rfl) (Src.drew (part_src HL2)) (part2_fit s1 hc) (bts_one _) ?_; intro w3 HG HC3)
  have L3 : Whole w3 bL 5 (bts (setL L S k cut)) := HL2.drew.chg HC3 m1.out
  have R3 := R2.drew.chg HC3 m2.out
  have V3 := V2.drew.chg HC3 m3.out
  clear c2
  have c2 := R3.cell 2
  have c4 := (V3.cell k).trans (bls_get V k hk)
  have c5 := V3.frozen k
  go_wp2_with fail
  go_end0
  exact settle_end h hk hc HC HC3 R3 L3 V3 HG
end
end Go.Proofs.Ytigbnmckdjlihaa
