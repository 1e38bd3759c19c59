/-
  The walk of SumNumbers.
-/
import Derived.Test.YtamdpmbonoolcaaLawSumB
namespace Go.Proofs.Ytamdpmbonoolcaa
open Go.RowKit

section
variable {w : World} {A : Option Addr} {n c : Nat} {l : List UInt8}
theorem lsame_z (h : Bs w A n c l) (q : Int) (hq0 : 0 ≤ q) (hq1 : q < 4294967296) (i : Int) (hi : i ≤ 9223372036854775807) (x : Int) (hx0 : 0 ≤ x) (hx1 : x < 256) (hn : n + 4 ≤ 140737488355328) :
    Calls Try.prog 30 #[.slice A n c, .int .u32 q, .int .i64 i, .int .u8 x] w (LawPost w) := by
  obtain ⟨k, rfl⟩ := Int.eq_ofNat_of_zero_le hq0
  have e : ((UInt8.ofNat x.toNat).toNat : Int) = x := by rw [UInt8.toNat_ofNat']; omega
  have := lsame_any h k (by omega) i hi (UInt8.ofNat x.toNat) hn
  rwa [e] at this

theorem bts_byte (x : Int) (h0 : 0 ≤ x) (h1 : x < 256) : bts [UInt8.ofNat x.toNat] = [.int .u8 x] := by
  simp only [bts, List.map_cons, List.map_nil, B8, UInt8.toNat_ofNat']
  congr 2
  omega
theorem m32 (q : Int) : 0 ≤ q % 4294967296 ∧ q % 4294967296 < 4294967296 := by omega
set_option maxHeartbeats 2000000 in
set_option maxRecDepth 100000 in
theorem sumNumbers_any : Calls Try.prog 8 #[] w (LawPost w) := by
  obtain ⟨i0, hi, hz, hs1, hb⟩ := info_parts info_byte
  go_enter Try.func8, Try.ntmps8
  go_wp2_with fail
  go_loopw [1, 2, 3] (fun v i _ wr => ∃ n : Nat, n ≤ 200 ∧ i = .int .i64 (n : Int) ∧ (∃ l : List UInt8, l.length = n ∧ wr.ownsRow w.heap.size 5 1 v n (bts l)) ∧ Chg [] w wr) (fun _ i _ _ => 200 - (intOf i).toNat)
  case atStart => exact ⟨0, by omega, rfl, ⟨[], rfl, own_nil _ _ _⟩, Chg.refl _ _⟩
  case round =>
    obtain ⟨n, hn, rfl, ⟨l, hl, hown⟩, hcr⟩ := hrel
    obtain ⟨A, c, rfl, hB, _⟩ := Bs.of_own hown
    obtain ⟨wo, rfl⟩ : ∃ wo : World, wo = wr := ⟨_, rfl⟩
    by_cases hlt : n < 200
    · have hd : decide ((n : Int) < 200) = true := by simp; omega
      go_wp2_with fail
      go_loopw [3] (fun t wr => ∃ z : Int, -2 ≤ z ∧ z ≤ 9 ∧ t = .int .i64 z ∧ Chg [] wo wr) (fun t _ => (9 - intOf t).toNat)
      case atStart => exact ⟨-2, by omega, by omega, rfl, Chg.refl _ _⟩
      case round =>
        obtain ⟨z, hz1, hz2, rfl, hcz⟩ := hrel
        by_cases hlz : z < 9
        · go_wp2_with fail
          refine (lsame_z (hB.keep hcz) _ ?_ ?_ _ ?_ _ ?_ ?_ ?_).mono ?_
          · exact (m32 _).1
          · exact (m32 _).2
          · omega
          · omega
          · omega
          · omega
          rintro e w1 ⟨rfl, hc1⟩
          go_wp2_with fail
          refine (lsame_z ((hB.keep hcz).keep hc1) _ (by omega) (by omega) _ (by omega) _ (by omega) (by omega) (by omega)).mono ?_
          rintro e w2 ⟨rfl, hc2⟩
          go_wp2_with fail
          go_roundw
          case rel => exact ⟨z + 1, by omega, by omega, rfl, (hcz.new hc1).new hc2⟩
          case measure => simp [intOf]; omega
        · have hown2 := own_keep hown hcz
          have hcr2 := hcr.new hcz
          have hlb := Lib.hid (show (bts l).length = n by rw [bts_len, hl])
          obtain ⟨w3, rfl⟩ : ∃ w3 : World, w3 = wr := ⟨_, rfl⟩
          go_wp2_with (at_builtin
                       refine wpList_append_src rfl (.tmp 32) (.tmp 36) 28 rfl w.heap.size 5 i0 _ 1 Try.underlying28 hi hz hs1 hb cells_u8 (.slice A n c) n (bts l) rfl (own_keep hown2 ((Chg.refl _ _).alloc _)) (some ⟨w3.heap.size, 0, none⟩) 1 1 _ rfl rfl (Src.of_all (Whole.new w3 5 (_ :: []))) (by simp [Value.oneCell']) (by unfold maxLen; omega) (by omega) (by have := hcr2.size; simp; omega) ?_
                       intro v4 w4 ho4 hg4 _
                       have hc4 : Chg [] w w4 := (hcr2.alloc _).own (own_keep hown2 ((Chg.refl _ _).alloc _)) (Nat.le_refl _) hg4
                       clear hg4)
          rw [← bts_byte _ (by omega) (by omega), ← bts_app] at ho4
          go_roundw
          case rel => exact ⟨n + 1, by omega, by go_num, ⟨_, by rw [List.length_append, hl]; rfl, ho4⟩, hc4⟩
          case measure => simp [intOf]; omega
    · go_wp2_with fail
      refine (lsame_z hB _ ?_ ?_ _ ?_ _ ?_ ?_ ?_).mono ?_
      · omega
      · omega
      · omega
      · omega
      · omega
      · omega
      rintro e w1 ⟨rfl, hc1⟩
      go_wp2_with fail
      refine (lsame_z (hB.keep hc1) _ ?_ ?_ _ ?_ _ ?_ ?_ ?_).mono ?_
      · omega
      · omega
      · omega
      · omega
      · omega
      · omega
      rintro e w2 ⟨rfl, hc2⟩
      go_wp2_with fail
      refine lknown_any.mono ?_
      rintro e w3 ⟨rfl, hc3⟩
      go_wp2_with fail
      go_ret
      exact ⟨rfl, ((hcr.new hc1).new hc2).new hc3⟩
end
end Go.Proofs.Ytamdpmbonoolcaa
