/-
  (*Disk).settle at the cut 64.
-/
import Derived.Test.YtigbnmckdjlihaaSettle
namespace Go.Proofs.Ytigbnmckdjlihaa
open Go.RowKit
section
variable {w : World} {p bL bS bW : Nat} {L S : List UInt8} {V : List Bool}
set_option maxHeartbeats 3000000 in
theorem settle_64 (h : Dsk w p bL bS bW L S V) (k : Nat) (hk : k < V.length) :
    Calls Try.prog 73 #[.pointer (some ⟨p, 0, none⟩), .int .i64 (k : Int), .int .i64 64] w fun e w' => e = .returned (.tuple #[]) ∧
      Dsk w' p bL bS bW (setL L S k 64) (setS L S k 64) (V.set k false) ∧ Chg [bL, bS, bW] w w' := by
  have c0 := h.rec_.cell 0
  have c1 := h.rec_.cell 1
  have c2 := h.rec_.cell 2
  have hL := h.lenL
  have hS := h.lenS
  have hv := h.le
  have hc : (64 : Nat) ≤ 64 := Nat.le_refl _
  have l1 : 64 * (k + 1) ≤ L.length := by omega
  have l2 : L.length ≤ 1000000 := by omega
  have s1 : 64 * (k + 1) ≤ S.length := by omega
  have s2 : S.length ≤ 1000000 := by omega
  have hLS := Lib.hid (show L.length = S.length by omega)
  clear hL hS
  have n1 := Lib.hid (show bS ∉ [bL] by simpa using fun e => h.ne e.symm)
  have n2 := Lib.hid (show p ∉ [bL] by simpa using h.rec_.ne_ h.last (by decide))
  have n3 := Lib.hid (show bW ∉ [bL] by simpa using h.wait.ne_ h.last (by decide))
  have m1 := Lib.hid (show bL ∉ [bS] by simpa using h.ne)
  have m2 := Lib.hid (show p ∉ [bS] by simpa using h.rec_.ne_ h.seen (by decide))
  have m3 := Lib.hid (show bW ∉ [bS] by simpa using h.wait.ne_ h.seen (by decide))
  have e1 : (64 : Int) ≤ ((L.length - k * 64 : Nat) : Int) := by omega
  have e2 : (64 : Int) ≤ ((S.length - k * 64 : Nat) : Int) := by omega
  have hn0 := part_n s1 hc
  have hf0 := part_fit (S := S) l1 hc
  have hs0 := part_src (o := k * 64) (cut := 64) h.seen
  have hsp := Lib.hid (bts_splice L ((S.drop (k * 64)).take 64) (k * 64))
  have hb1 := bts_one ((S.drop (k * 64)).take 64)
  obtain ⟨Y, hY⟩ : ∃ Y, Y = bts ((S.drop (k * 64)).take 64) := ⟨_, rfl⟩
  rw [← hY] at hn0 hf0 hs0 hsp hb1
  have Hn := Lib.hid hn0
  clear hn0 hY
  go_enter Try.func73, Try.ntmps73
  go_wp2_with fail
  go_quiet ((go_at_call 77; exact Calls.quiet_of_same ((dsector_any k (by assumption) (Nat.le_refl _) (by assumption)).mono fun _ _ hh => ⟨hh.1, hh.2.symm⟩)))
  go_wp2_with fail
  go_region_law (with_reducible refine step_copy_chg rfl (.tmp 22) (.tmp 25) _ _ rfl 5 Try.underlying40 size_u8 (some ⟨bL, k * 64, none⟩) (some ⟨bS, k * 64, none⟩) 64 (L.length - k * 64) 64 (S.length - k * 64) rfl rfl bL (k * 64) 5 (bts L) Y ((h.last.drewN _).drew) Hn.out (fun _ => rfl) (Src.drew (Src.drewN hs0 _)) hf0 hb1 ?_; intro w2 HG HC)
  have S2 : Whole w2 bS 5 (bts S) := (h.seen.drewN _).drew.chg HC n1.out
  have R2 := (h.rec_.drewN _).drew.chg HC n2.out
  have V2 := (h.wait.drewN _).drew.chg HC n3.out
  clear c0 c1 c2
  have c2 := R2.cell 2
  rw [hsp.out] at HG
  have HL2 : Whole w2 bL 5 (bts (setL L S k 64)) := HG
  clear HG
  have c4 := (V2.cell k).trans (bls_get V k hk)
  have c5 := V2.frozen k
  by_cases hlast : S.length - k * 64 = 64
  · have hlast2 : L.length - k * 64 = 64 := by have := hLS.out; omega
    go_wp2_with fail
    go_region_law (with_reducible refine step_copy_none rfl (.tmp 29) (.tmp 32) _ _ rfl 5 Try.underlying40 size_u8 _ _ 0 _ 0 _ rfl rfl rfl ?_)
    go_wp2_with fail
    go_end0
    exact settle_end h hk hc HC (Chg.refl _ _) R2.drew HL2.drew V2.drew (by simpa [splice, bts] using S2.drew)
  · have hlast2 : ¬ (L.length - k * 64 = 64) := by have := hLS.out; omega
    go_wp2_with fail
    go_region_law (with_reducible refine step_copy_none rfl (.tmp 29) (.tmp 32) _ _ rfl 5 Try.underlying40 size_u8 _ _ 0 _ 0 _ rfl rfl rfl ?_)
    go_wp2_with fail
    go_end0
    exact settle_end h hk hc HC (Chg.refl _ _) R2.drew HL2.drew V2.drew (by simpa [splice, bts] using S2.drew)
end
end Go.Proofs.Ytigbnmckdjlihaa
