/-
  The walk of HomeNumbers.
-/
import Derived.Test.YtlhkmbcjgdjegaaHomeKnown
namespace Go.Proofs.Ytlhkmbcjgdjegaa
open Go.RowKit
/-- A sector, and what lies behind its first byte. -/
def secF (l : List UInt8) : Fact := fun v W => ∃ x, v = .slice (some ⟨x, 0, none⟩) 64 64 ∧ Whole W x 5 (bts l)
theorem keeps_sec (l : List UInt8) : Keeps (Chg []) (secF l) := fun _ _ _ ⟨x, h1, h2⟩ hc => ⟨x, h1, h2.keep hc⟩
def secF1 (l : List UInt8) : Fact := fun v W => ∃ x, v = .slice (some ⟨x, 1, none⟩) 63 63 ∧ Whole W x 5 (bts l)
theorem keeps_sec1 (l : List UInt8) : Keeps (Chg []) (secF1 l) := fun _ _ _ ⟨x, h1, h2⟩ hc => ⟨x, h1, h2.keep hc⟩
section
variable {w : World}
theorem hsector77 : Calls Try.prog 16 #[.int .u8 77] w fun e w' => e = .returned (.slice (some ⟨w.heap.size, 0, none⟩) 64 64) ∧ Whole w' w.heap.size 5 (bts (secL 77)) ∧ Chg [] w w' := hsector_any 77
theorem hsector1 : Calls Try.prog 16 #[.int .u8 1] w fun e w' => e = .returned (.slice (some ⟨w.heap.size, 0, none⟩) 64 64) ∧ Whole w' w.heap.size 5 (bts (secL 1)) ∧ Chg [] w w' := hsector_any 1
theorem make640 (W : World) : (Instr.makeSlice 22 (.int .i64 640) (.int .i64 640)).run Try.prog W = .ok (.slice (some ⟨W.heap.size, 0, none⟩) 640 640) (W.alloc (.cells (bts (zeros 640)).toArray 5)) := make_u8 640 (by omega) W
set_option maxHeartbeats 1600000 in
set_option maxRecDepth 100000 in
theorem homeNumbers_any : Calls Try.prog 3 #[] w (LawPost w) := by
  have hmk := make640
  go_enter Try.func3, Try.ntmps3
  go_wp2_with fail
  go_loopw [1] (fun v wr => ∃ q : Nat, 1 ≤ q ∧ q ≤ 12 ∧ v = .int .i64 (q : Int) ∧ Chg [] w wr) (fun v _ => 12 - (intOf v).toNat)
  case atStart => exact ⟨1, by omega, by omega, rfl, Chg.refl _ _⟩
  case round =>
    obtain ⟨q, hq1, hq12, rfl, hcr⟩ := hrel
    by_cases hlt : q < 12
    · have hql : (q : Int) < 12 := by omega
      have HC0 := Lib.hid hcr
      have Hq12 := Lib.hid hlt
      clear hcr hq12 hlt
      obtain ⟨N, hN, hN1, hN2, hN3⟩ : ∃ N : Nat, N = q * 64 ∧ 64 ≤ N ∧ N ≤ 704 ∧ N % 64 = 0 := ⟨_, rfl, by omega, by have := Hq12.out; omega, by omega⟩
      have hmul : (q : Int) * 64 = (N : Int) := by omega
      have hwrap : IntKind.i64.wrap (N : Int) = (N : Int) := by simp [IntKind.wrap, IntKind.signed, IntKind.bits]; omega
      have hmN := fun W => make_u8 N (by omega) W
      have HN3 := Lib.hid hN3
      clear hN hN3
      go_wp2_with fail
      have hW := Whole.new wr 5 (bts (zeros N))
      have hc1 : Chg [] wr (wr.alloc (.cells (bts (zeros N)).toArray 5)) := (Chg.refl [] wr).alloc _
      obtain ⟨g, hg⟩ : ∃ g, g = wr.heap.size := ⟨_, rfl⟩
      rw [← hg] at hW ⊢
      have Hgw := Lib.hid (show w.heap.size ≤ g by have := HC0.out.size; omega)
      have HC1 := Lib.hid (HC0.out.new hc1)
      generalize wr.alloc (.cells (bts (zeros N)).toArray 5) = w1 at hW HC1 ⊢
      clear hg hc1 HC0 hmN
      go_loopw [16] (fun v wx => ∃ (j : Nat) (X : List UInt8), j ≤ N ∧ v = .int .i64 (j : Int) ∧ Hid (X.length = N) ∧ Hid (Whole wx g 5 (bts X)) ∧ Hid (Chg [] w wx)) (fun v _ => N - (intOf v).toNat)
      case atStart => exact ⟨0, zeros N, by omega, rfl, Lib.hid (zeros_len N), Lib.hid hW, HC1⟩
      case round =>
        obtain ⟨j, X, hj, rfl, HX, HW, HC⟩ := hrel
        by_cases hlj : j < N
        · have hjl : (j : Int) < (N : Int) := by omega
          have hj0 : (0 : Int) ≤ (j : Int) := by omega
          have hq : (j : Int).tdiv 64 = ((j / 64 : Nat) : Int) := by rw [Int.tdiv_eq_ediv_of_nonneg (by omega)]; omega
          obtain ⟨b, hb⟩ : ∃ b, b = X[j]'(by rw [HX.out]; exact hlj) := ⟨_, rfl⟩
          have cj := HW.out.cell j
          rw [bts_get X j (by rw [HX.out]; exact hlj), ← hb] at cj
          have fj := HW.out.frozen j
          clear hb
          go_wp2_with fail
          go_roundw
          case rel =>
            have hv : (j : Int) / 64 = ((UInt8.ofNat (j / 64)).toNat : Int) := by rw [UInt8.toNat_ofNat']; omega
            refine ⟨j + 1, X.set j (UInt8.ofNat (j / 64)), by omega, by go_num, Lib.hid (by rw [List.length_set]; exact HX.out), Lib.hid ?_, Lib.hid (HC.out.setCell (fun h => absurd h (by have := Hgw.out; show ¬ g < _; omega)) _)⟩
            rw [← bts_set, hv]
            exact HW.out.set_ j _
          case measure => simp [intOf]; omega
        · have hge : ¬ (j : Int) < (N : Int) := by omega
          clear hj hlj hmul hwrap
          go_wp2_with fail
          go_loopw [4] (fun v wx => ∃ a : Nat, a ≤ 5 ∧ v = .int .i64 (a : Int) ∧ Hid (Whole wx g 5 (bts X)) ∧ Hid (Chg [] w wx)) (fun v _ => 5 - (intOf v).toNat)
          case atStart => exact ⟨0, by omega, rfl, HW, HC⟩
          case round =>
            obtain ⟨a, ha, rfl, HWa, HCa⟩ := hrel
            clear HW HC
            by_cases hla : a < 5
            · have hal : (a : Int) < 5 := by omega
              clear hla
              go_wp2_with fail
              go_loopw [5] (fun v wx => ∃ P : Int, -1 ≤ P ∧ P ≤ 6 ∧ v = .int .i64 P ∧ Hid (Whole wx g 5 (bts X)) ∧ Hid (Chg [] w wx)) (fun v _ => (6 - intOf v).toNat)
              case atStart => exact ⟨-1, by omega, by omega, rfl, HWa, HCa⟩
              case round =>
                obtain ⟨P, hP0, hP6, rfl, HWb, HCb⟩ := hrel
                clear HWa HCa
                by_cases hPl : P < 6
                · have Hal := Lib.hid hal
                  go_wp2_with fail
                  go_loopw [6] (fun v wx => ∃ i : Int, -1 ≤ i ∧ i ≤ 6 ∧ v = .int .i64 i ∧ Hid (Whole wx g 5 (bts X)) ∧ Hid (Chg [] w wx)) (fun v _ => (6 - intOf v).toNat)
                  case atStart => exact ⟨-1, by omega, by omega, rfl, HWb, HCb⟩
                  case round =>
                    obtain ⟨i, hi0, hi6, rfl, HWc, HCc⟩ := hrel
                    clear HWb HCb
                    by_cases hil : i < 6
                    · have HB : Hid (Bs wr (some ⟨g, 0, none⟩) N N X) := Lib.hid (by have := Bs.of_all HWc.out (by rw [HX.out]; omega); rwa [HX.out] at this)
                      go_wp2_with fail
                      refine hsector77.mono ?_
                      rintro e w2 ⟨rfl, hW2, hc2⟩
                      have HB2 := Lib.hid (HB.out.keep hc2)
                      have HS2 := Lib.hid (bs64 hW2 (secL_len 77))
                      have HC2 := Lib.hid hc2
                      clear hW2 hc2
                      go_wp2_with fail
                      refine (hsame_any HB2.out hN1 (by omega) HN3.out a P 1 i HS2.out HS2.out.blk).mono ?_
                      rintro e w3 ⟨rfl, hc3⟩
                      have HC3 := Lib.hid (HC2.out.new hc3)
                      clear hc3
                      go_wp2_with fail
                      refine hsector77.mono ?_
                      rintro e w4 ⟨rfl, hW4, hc4⟩
                      have HC4 := Lib.hid (HC3.out.new hc4)
                      have HS4 := Lib.hid (bs64 hW4 (secL_len 77))
                      clear hW4 hc4
                      go_wp2_with fail
                      refine (hsame_any (HB.out.keep HC4.out) hN1 (by omega) HN3.out a P 0 i HS4.out HS4.out.blk).mono ?_
                      rintro e w5 ⟨rfl, hc5⟩
                      have HC5 := Lib.hid (HC4.out.new hc5)
                      clear hc5
                      go_wp2_with fail
                      go_roundw
                      case rel => exact ⟨i + 1, by omega, by omega, by go_num, Lib.hid (HWc.out.keep HC5.out), Lib.hid (HCc.out.new HC5.out)⟩
                      case measure => simp [intOf]; omega
                    · go_wp2_with fail
                      go_roundw
                      case rel => exact ⟨P + 1, by omega, by omega, by go_num, HWc, HCc⟩
                      case measure => simp [intOf]; omega
                · go_wp2_with fail
                  go_roundw
                  case rel => exact ⟨a + 1, by omega, by go_num, HWb, HCb⟩
                  case measure => simp [intOf]; omega
            · go_wp2_with fail
              go_roundw
              case rel => exact ⟨q + 1, by omega, by have := Hq12.out; omega, by go_num, HCa.out⟩
              case measure => have := Hq12.out; simp [intOf]; omega
    · have hql : ¬ (q : Int) < 12 := by omega
      go_wp2_with fail
      refine wp_flow (by kernel_rfl) plainT plainT_ok (by kernel_rfl) ?_
      refine flow_op (ownF wr.drew.heap.size 5 (bts (zeros 640))) (keeps_own _ _ _) (.inr (keeps_own _ _ _)) rfl (fun ev W he hW hf => ?_) ?_
      · have hcst := he.const
        have hm := hmk W
        have hnew : ownF wr.drew.heap.size 5 (bts (zeros 640)) (.slice (some ⟨W.heap.size, 0, none⟩) 640 640) (W.alloc (.cells (bts (zeros 640)).toArray 5)) := by
          have := own_of_whole (B := wr.drew.heap.size) (n := 640) (c := 640) (Whole.new W 5 (bts (zeros 640))) (Chg.size hW) (by rw [bts_len, zeros_len]) (Nat.le_refl _) (by unfold maxLen; omega)
          rw [List.take_of_length_le (by rw [bts_len, zeros_len]; exact Nat.le_refl _)] at this
          rw [ownF, bts_len, zeros_len]; exact this
        have hch : plainT.by_ 0 W (W.alloc (.cells (bts (zeros 640)).toArray 5)) := by rw [plain_by]; exact (Chg.refl [] W).alloc _
        go_simp
        exact ⟨hch, hnew⟩
      refine flow3 (r := rootV 1 2 1) plainT_ok rfl (.const _) (.const _) (.const _) rfl (fun ev W he e1 e2 e3 => by have hcst := he.const; go_simp; try rfl) ?_
      refine flow_calld (secF (secL 1)) (keeps_sec _) (.inr (keeps_sec _)) (by kernel_rfl) rfl (.cons (.const _) .nil) (fun W hW => hsector1.mono ?_) ?_
      · rintro e w' ⟨rfl, hW', hc⟩; exact ⟨_, rfl, hc, _, rfl, hW'⟩
      refine flow_op (secF1 (secL 1)) (keeps_sec1 _) (.inr (keeps_sec1 _)) rfl (fun ev W he hW hf => ?_) ?_
      · obtain ⟨x, f0, hx⟩ : secF (secL 1) (ev (.tmp 58)) W := hf.1
        have hcst := he.const
        have hch : plainT.by_ 3 W W := by rw [plain_by]; exact Chg.refl [] W
        have hnew : secF1 (secL 1) (.slice (some ⟨x, 1, none⟩) 63 63) W := ⟨x, rfl, hx⟩
        go_simp
        exact ⟨hch, hnew⟩
      refine flow_call (isV (.bool true)) (keeps_isV _) (.inr (keeps_isV _)) (by kernel_rfl) rfl (fun ev W he hW hf => ?_) ?_
      · have f0 : ownF wr.drew.heap.size 5 (bts (zeros 640)) (ev (.tmp 56)) W := hf.1
        have f1 : ev (.tmp 57) = rootV 1 2 1 := hf.2.1
        obtain ⟨x, f3, hx⟩ : secF1 (secL 1) (ev (.tmp 59)) W := hf.2.2.2.1
        refine (?_ : Calls _ _ #[ev (.tmp 56), ev (.tmp 57), ev (.const (.int .i64 0)), ev (.tmp 59)] _ _)
        rw [ownF, bts_len, zeros_len] at f0
        obtain ⟨g6, r6, e0, _, h6, h6m⟩ := own_whole f0 (by omega)
        unfold maxLen at h6m
        have hb6 : Bs W (some ⟨g6, 0, none⟩) 640 (640 + r6.length) (zeros 640) := Bs.of_whole h6 (zeros_len 640) (by rw [List.take_left' (by rw [bts_len, zeros_len])]) (by omega) h6m
        have hb7 : Bs W (some ⟨x, 1, none⟩) 63 63 (((secL 1).drop 1).take (64 - 1)) := by
          have := (bs64 hx (secL_len 1)).cut (lo := 1) (hi := 64) (by omega) (by omega)
          rwa [if_neg (by omega), Option.map_some, add_plain] at this
        rw [e0, f1, f3, he.const]
        refine (hsame_any hb6 (by omega) (by omega) (by omega) 1 2 1 0 hb7 hb7.blk).mono ?_
        rintro e w' ⟨rfl, hc⟩
        exact ⟨_, rfl, hc, rfl⟩
      refine flow_move plainT_ok rfl (keeps_isV _) (.inr (keeps_isV _)) rfl ?_
      refine flow_callv (.bool true) (by kernel_rfl) rfl .nil (fun W hW => hknown_any.mono ?_) ?_
      · rintro e w' ⟨rfl, hc⟩; exact ⟨rfl, hc⟩
      refine flow_and plainT_ok rfl rfl rfl ?_
      refine flow_assign plainT_ok rfl (keeps_isV _) (.inr (keeps_isV _)) rfl ?_
      intro vs W hW hF
      have e0 : vs 0 = .bool true := hF 0 _ rfl rfl
      simp only [putAll, Act.put, List.setIfInBounds_toArray, List.set_cons_zero, List.set_cons_succ, e0]
      have HCW := Lib.hid (hcr.new (wdrew hW))
      clear hW hF
      go_wp2_with fail
      go_ret
      exact ⟨rfl, HCW.out⟩
end
end Go.Proofs.Ytlhkmbcjgdjegaa
