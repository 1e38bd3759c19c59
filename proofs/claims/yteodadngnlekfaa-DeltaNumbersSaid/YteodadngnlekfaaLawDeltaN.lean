/-
  The walk of DeltaNumbers.
-/
import Derived.Test.YteodadngnlekfaaDeltaLaw
import Derived.Laws.BitsAllLaws
namespace Go.Proofs.Yteodadngnlekfaa
open Go.RowKit
/-- A list of changes as it is written out. -/
theorem chs_new (W : World) (ls : List ChV) (hok : ∀ a ∈ ls, ChOk W a) : Chs (W.alloc (.cells (chCs ls).toArray 25)) (some ⟨W.heap.size, 0, none⟩) ls := by
  have hW := Whole.new W 25 (chCs ls)
  refine ⟨fun _ => ⟨_, 0, rfl, hW.lt, fun k a ha => ?_⟩, fun a ha => (hok a ha).keep ((Chg.refl [] W).alloc _)⟩
  rw [hW.cell, hW.cell, Nat.zero_add]
  exact ⟨(chCs_get ls k a 0 ha (by omega)).trans rfl, (chCs_get ls k a 1 ha (by omega)).trans rfl⟩
def pageC (g : Nat) (a : Int) : ChV := ⟨a, some ⟨g, 0, none⟩, 64, 64, zeros 64⟩
def pageS (g : Nat) (a : Int) : ChV := ⟨a, some ⟨g, 0, none⟩, 63, 64, (zeros 64).take 63⟩
theorem pageC_ok {W : World} {g : Nat} (h : Whole W g 5 (bts (zeros 64))) (a : Int) (h0 : -10 ≤ a) (h1 : a ≤ 10) : ChOk W (pageC g a) := by
  refine ⟨by show -9223372036854775808 ≤ a; omega, by show a ≤ 9223372036854775807; omega, ?_⟩
  have := Bs.of_all h (by rw [zeros_len]; omega)
  rwa [zeros_len] at this
theorem pageS_ok {W : World} {g : Nat} (h : Whole W g 5 (bts (zeros 64))) (a : Int) (h0 : -10 ≤ a) (h1 : a ≤ 10) : ChOk W (pageS g a) :=
  ⟨by show -9223372036854775808 ≤ a; omega, by show a ≤ 9223372036854775807; omega, (pageC_ok h a h0 h1).bs.take (m := 63) (by show 63 ≤ 64; omega)⟩
section
variable {w : World}
set_option maxHeartbeats 16000000 in
set_option maxRecDepth 100000 in
theorem deltaNumbers_any : Calls Try.prog 3 #[] w (LawPost w) := by
  obtain ⟨i0, hi, hz, hs1, hb⟩ := info_parts info_byte
  have hmk := make_page
  go_enter Try.func3, Try.ntmps3
  go_wp2_with fail
  have hG := Whole.new w 5 (bts (zeros 64))
  have hcw : Chg [] w (w.alloc (.cells (bts (zeros 64)).toArray 5)) := (Chg.refl [] w).alloc _
  obtain ⟨g, hg⟩ : ∃ g, g = w.heap.size := ⟨_, rfl⟩
  rw [← hg] at hG ⊢
  generalize w.alloc (.cells (bts (zeros 64)).toArray 5) = wp at hG hcw ⊢
  have HG := Lib.hid hG
  have HCW := Lib.hid hcw
  clear hG hcw hg
  go_loopw [2] (fun t wr => ∃ z : Int, -1 ≤ z ∧ z ≤ 5 ∧ t = .int .i64 z ∧ Chg [] wp wr) (fun t _ => (5 - intOf t).toNat)
  case atStart => exact ⟨-1, by omega, by omega, rfl, Chg.refl _ _⟩
  case round =>
    obtain ⟨z1, hz10, hz11, rfl, hcr⟩ := hrel
    obtain ⟨wo, rfl⟩ : ∃ wo : World, wo = wr := ⟨_, rfl⟩
    by_cases hlt1 : z1 < 5
    · have HCO := Lib.hid hcr
      clear hcr
      go_wp2_with fail
      go_loopw [3] (fun t wr => ∃ z : Int, -1 ≤ z ∧ z ≤ 5 ∧ t = .int .i64 z ∧ Chg [] wp wr) (fun t _ => (5 - intOf t).toNat)
      case atStart => exact ⟨-1, by omega, by omega, rfl, HCO.out⟩
      case round =>
        obtain ⟨z2, hz20, hz21, rfl, hcr⟩ := hrel
        obtain ⟨wo2, rfl⟩ : ∃ wo : World, wo = wr := ⟨_, rfl⟩
        clear HCO
        by_cases hlt2 : z2 < 5
        · have HCO := Lib.hid hcr
          clear hcr
          go_wp2_with fail
          go_loopw [4] (fun t wr => ∃ z : Int, -1 ≤ z ∧ z ≤ 6 ∧ t = .int .i64 z ∧ Chg [] wp wr) (fun t _ => (6 - intOf t).toNat)
          case atStart => exact ⟨-1, by omega, by omega, rfl, HCO.out⟩
          case round =>
            obtain ⟨z3, hz30, hz31, rfl, hcr⟩ := hrel
            clear HCO
            by_cases hlt3 : z3 < 6
            · have hGr := HG.out.keep hcr
              have k1 := Lib.hid (chs_new wr [pageC g z1, pageC g z2] (fun a ha => by
                simp only [List.mem_cons, List.not_mem_nil, or_false] at ha
                rcases ha with rfl | rfl
                · exact pageC_ok hGr _ (by omega) (by omega)
                · exact pageC_ok hGr _ (by omega) (by omega)))
              have HCR := Lib.hid hcr
              clear hGr hcr
              go_wp2_with fail
              refine (lsame_any (n := 2) (l := [pageC g z1, pageC g z2]) k1.out rfl (by omega) z3).mono ?_
              rintro e w2 ⟨rfl, hc2⟩
              have HC2 := Lib.hid ((HCR.out.alloc _).new hc2)
              clear hc2
              have k2 := Lib.hid (chs_new w2 [pageS g z1] (fun a ha => by
                simp only [List.mem_cons, List.not_mem_nil, or_false] at ha
                subst ha
                exact pageS_ok (HG.out.keep HC2.out) _ (by omega) (by omega)))
              go_wp2_with fail
              refine (lsame_any (n := 1) (l := [pageS g z1]) k2.out rfl (by omega) z3).mono ?_
              rintro e w3 ⟨rfl, hc3⟩
              have HC3 := Lib.hid ((HC2.out.alloc _).new hc3)
              clear hc3
              go_wp2_with fail
              refine (lsame_any (n := 0) (l := []) (Chs.nil w3 none) rfl (by omega) (60 + z3)).mono ?_
              rintro e w4 ⟨rfl, hc4⟩
              go_wp2_with fail
              go_roundw
              case rel => exact ⟨z3 + 1, by omega, by omega, rfl, HC3.out.new hc4⟩
              case measure => simp [intOf]; omega
            · obtain rfl : z3 = 6 := by omega
              go_wp2_with fail
              go_roundw
              case rel => exact ⟨z2 + 1, by omega, by omega, rfl, hcr⟩
              case measure => simp [intOf]; omega
        · obtain rfl : z2 = 5 := by omega
          go_wp2_with fail
          go_roundw
          case rel => exact ⟨z1 + 1, by omega, by omega, rfl, hcr⟩
          case measure => simp [intOf]; omega
    · obtain rfl : z1 = 5 := by omega
      have HCO := Lib.hid hcr
      have k1 := Lib.hid (chs_new wo [pageC g 1, pageC g 3] (fun a ha => by
        simp only [List.mem_cons, List.not_mem_nil, or_false] at ha
        rcases ha with rfl | rfl
        · exact pageC_ok (HG.out.keep hcr) _ (by omega) (by omega)
        · exact pageC_ok (HG.out.keep hcr) _ (by omega) (by omega)))
      clear hcr
      go_wp2_with fail
      refine (rdelta_any (n := 2) (l := [pageC g 1, pageC g 3]) k1.out (fun a ha => by
        simp only [List.mem_cons, List.not_mem_nil, or_false] at ha
        rcases ha with rfl | rfl
        · exact ⟨by show (0 : Int) ≤ 1; omega, by show (1 : Int) < 65536; omega, rfl⟩
        · exact ⟨by show (0 : Int) ≤ 3; omega, by show (3 : Int) < 65536; omega, rfl⟩) rfl (by omega)).mono ?_
      rintro e w5 ⟨v5, rfl, ho5, hc5⟩
      have HC5 := Lib.hid ((HCO.out.alloc _).new hc5)
      have hXl : (bytesD [pageC g 1, pageC g 3]).length = 134 := rfl
      generalize bytesD [pageC g 1, pageC g 3] = X at ho5 hXl
      obtain ⟨M, hM⟩ : ∃ M, M = X.length := ⟨_, rfl⟩
      rw [← hM] at ho5 hXl
      have hM1 : M ≤ 200 := by omega
      have hM0 : 1 ≤ M := by omega
      obtain ⟨A5, c5, rfl, hB5, _⟩ := Bs.of_own ho5
      have hcap5 := hB5.cap
      have HX := Lib.hid hB5
      have HM := Lib.hid hM
      clear ho5 hc5 hB5 hXl hM
      go_wp2_with fail
      go_loopw [6] (fun t wr => ∃ k : Nat, k ≤ M + 1 ∧ t = .int .i64 (k : Int) ∧ Chg [] w5 wr) (fun t _ => M + 1 - (intOf t).toNat)
      case atStart => exact ⟨0, by omega, rfl, Chg.refl _ _⟩
      case round =>
        obtain ⟨k, hk, rfl, hcr⟩ := hrel
        by_cases hlt : k ≤ M
        · have hkI : (k : Int) ≤ (M : Int) := by omega
          have hkJ : (k : Int) ≤ (c5 : Int) := by omega
          have hA0 := add0 A5
          have hT := Lib.hid ((HX.out.keep hcr).take (m := k) hlt)
          have HCR := Lib.hid hcr
          clear hcr
          go_wp2_with fail
          refine (lreads_any hT.out 4).mono ?_
          rintro e w6 ⟨rfl, hc6⟩
          have hT6 := Lib.hid (hT.out.keep hc6)
          have HC6 := Lib.hid (HCR.out.new hc6)
          clear hc6
          have ho0 : (w6.alloc (.cells #[] 5)).ownsRow w6.heap.size 5 1 (.slice (some ⟨w6.heap.size, 0, none⟩) 0 0) 0 [] :=
            own_of_whole (B := w6.heap.size) (n := 0) (c := 0) (Whole.new w6 5 []) (Nat.le_refl _) rfl (by omega) (by unfold maxLen; omega)
          have hlk := Lib.hid (show (bts (X.take k)).length = k by rw [bts_len]; exact hT.out.len)
          have hx1 := Lib.hid (show 0 + k ≤ maxLen by unfold maxLen; omega)
          have hx3 := Lib.hid (show (0 + k) * 1 ≤ 140737488355328 by omega)
          have hx2 := Lib.hid (show k + 1 ≤ maxLen by unfold maxLen; omega)
          have hx4 := Lib.hid (show (k + 1) * 1 ≤ 140737488355328 by omega)
          go_wp2_with (first
            | (at_builtin
               refine wpList_append_src_g rfl (.tmp 66) (.tmp 69) 22 rfl w6.heap.size 5 i0 _ 1 Try.underlying22 hi hz hs1 hb cells_u8 (.slice (some ⟨w6.heap.size, 0, none⟩) 0 0) 0 [] rfl ho0 A5 k c5 (bts (X.take k)) rfl hlk.out (hT6.out.src.keep ((Chg.refl _ _).alloc _)) (bts_one _) hx1.out hx3.out (by simp) ?_
               intro v7 w7 ho7 hg7 _
               have hc7 : Chg [] w6 w7 := ((Chg.refl [] w6).alloc _).own ho0 (Nat.le_refl _) hg7
               clear hg7
               simp only [Nat.zero_add, List.nil_append] at ho7
               obtain ⟨A7, c7, rfl, _⟩ := own_slice ho7)
            | (at_builtin
               refine wpList_append_src_g rfl (.tmp 70) (.tmp 71) 22 rfl w6.heap.size 5 i0 _ 1 Try.underlying22 hi hz hs1 hb cells_u8 (.slice A7 k c7) k (bts (X.take k)) rfl (own_keep ho7 ((Chg.refl _ _).alloc _)) (some ⟨w7.heap.size, 0, none⟩) 1 1 [.int .u8 0] rfl rfl (Src.of_all (Whole.new w7 5 [.int .u8 0])) (by simp [Value.oneCell']) hx2.out hx4.out (by have := hc7.size; simp; omega) ?_
               intro v8 w8 ho8 hg8 _
               have hc8 : Chg [] w6 w8 := (hc7.alloc _).own (own_keep ho7 ((Chg.refl _ _).alloc _)) (Nat.le_refl _) hg8
               clear hg8))
          have hB8 : ∃ A8 c8, v8 = .slice A8 (k + 1) c8 ∧ Bs w8 A8 (k + 1) c8 (X.take k ++ [0]) := by
            have : bts (X.take k ++ [0]) = bts (X.take k) ++ [.int .u8 0] := by simp [bts, B8]
            rw [← this] at ho8
            obtain ⟨A8, c8, e, h, _⟩ := Bs.of_own ho8
            exact ⟨A8, c8, e, h⟩
          obtain ⟨A8, c8, rfl, hB8⟩ := hB8
          have HB8 := Lib.hid hB8
          have HC8 := Lib.hid (HC6.out.new hc8)
          clear hB8 ho8 hc8 ho7 hc7 ho0
          refine (lreads_any HB8.out 4).mono ?_
          rintro e w9 ⟨rfl, hc9⟩
          have HC9 := Lib.hid (HC8.out.new hc9)
          clear hc9
          by_cases hlt2 : k < M
          · have hkL : (k : Int) < (M : Int) := by omega
            have hk0 : (0 : Int) ≤ (k : Int) := by omega
            obtain ⟨z0, hz0⟩ : ∃ z0, z0 = X[k]'(by rw [← HM.out]; exact hlt2) := ⟨_, rfl⟩
            have HZ := Lib.hid (show (bts X)[k]? = some (B8 z0) by rw [hz0]; exact bts_get X k _)
            clear hz0
            obtain ⟨D, hD⟩ : ∃ D : UInt8, bits .xor .u8 (z0.toNat : Int) 3 = (D.toNat : Int) := by
              have h1 := z0.toNat_lt
              refine ⟨UInt8.ofNat (z0.toNat ^^^ 3), ?_⟩
              have h4 := u8_xor_nat z0.toNat 3 (by omega) (by omega)
              rw [show ((3 : Nat) : Int) = 3 from rfl] at h4
              rw [h4, UInt8.toNat_ofNat']
              have h3 : z0.toNat ^^^ 3 < 256 := Nat.xor_lt_two_pow (n := 8) (by omega) (by omega)
              omega
            have HD := Lib.hid hD
            clear hD
            have ho0 : (w9.alloc (.cells #[] 5)).ownsRow w9.heap.size 5 1 (.slice (some ⟨w9.heap.size, 0, none⟩) 0 0) 0 [] :=
              own_of_whole (B := w9.heap.size) (n := 0) (c := 0) (Whole.new w9 5 []) (Nat.le_refl _) rfl (by omega) (by unfold maxLen; omega)
            have hlF := Lib.hid (show (bts X).length = M by rw [bts_len, HM.out])
            have hy1 := Lib.hid (show 0 + M ≤ maxLen by unfold maxLen; omega)
            have hy3 := Lib.hid (show (0 + M) * 1 ≤ 140737488355328 by omega)
            have HX9 := Lib.hid (HX.out.keep HC9.out)
            go_wp2_with (at_builtin
                         refine wpList_append_src rfl (.tmp 80) (.tmp 81) 22 rfl w9.heap.size 5 i0 _ 1 Try.underlying22 hi hz hs1 hb cells_u8 (.slice (some ⟨w9.heap.size, 0, none⟩) 0 0) 0 [] rfl ho0 A5 M c5 (bts X) rfl hlF.out (HX9.out.src.keep ((Chg.refl _ _).alloc _)) (bts_one X) hy1.out hy3.out (by simp) ?_
                         intro v10 w10 ho10 hg10 _
                         have hc10 : Chg [] w9 w10 := ((Chg.refl [] w9).alloc _).own ho0 (Nat.le_refl _) hg10
                         clear hg10
                         simp only [Nat.zero_add, List.nil_append] at ho10
                         obtain ⟨gy, r, rfl, hbg, hW10, hr10⟩ := own_whole ho10 (by omega)
                         have c0 : w10.cell? ⟨gy, k, none⟩ = some (B8 z0) := by
                           rw [hW10.cell, List.getElem?_append_left (by rw [hlF.out]; exact hlt2)]
                           exact HZ.out
                         have f0 := hW10.frozen k
                         have hW11 := hW10.set_ k (B8 D)
                         rw [List.set_append_left _ _ (by rw [hlF.out]; exact hlt2), bts_set] at hW11
                         have hc11 : Chg [] w9 (w10.setCell ⟨gy, k, none⟩ (B8 D)) := hc10.setCell (fun hlt => absurd hlt (by simp only; omega)) _
                         unfold B8 at c0 hW11 hc11
                         rw [← HD.out] at hW11 hc11
                         clear ho10 hW10 hc10)
            have hY : Bs (w10.setCell ⟨gy, k, none⟩ (.int .u8 (bits .xor .u8 (z0.toNat : Int) 3))) (some ⟨gy, 0, none⟩) M (M + r.length) (X.set k D) := Bs.of_whole hW11 (by rw [List.length_set]; exact HM.out.symm) (by rw [List.take_left' (by rw [bts_len, List.length_set]; exact HM.out.symm)]) (by omega) (by simpa [maxLen] using hr10)
            have HY := Lib.hid hY
            have HC11 := Lib.hid (HC9.out.new hc11)
            clear hY hW11 hc11 c0 f0 ho0
            refine (lreads_any HY.out 4).mono ?_
            rintro e w12 ⟨rfl, hc12⟩
            go_wp2_with fail
            refine (lreads_any (HY.out.keep hc12) 9).mono ?_
            rintro e w13 ⟨rfl, hc13⟩
            go_wp2_with fail
            go_roundw
            case rel => exact ⟨k + 1, by omega, by go_num, (HC11.out.new hc12).new hc13⟩
            case measure => simp [intOf]; omega
          · have hkL : (M : Int) ≤ (k : Int) := by omega
            go_wp2_with fail
            go_roundw
            case rel => exact ⟨k + 1, by omega, by go_num, HC9.out⟩
            case measure => simp [intOf]; omega
        · have hkI : (M : Int) < (k : Int) := by omega
          have HCR := Lib.hid hcr
          obtain ⟨wo2, rfl⟩ : ∃ wo : World, wo = wr := ⟨_, rfl⟩
          clear hcr
          go_wp2_with fail
          go_loopw [8] (fun t wr => ∃ z : Int, -2 ≤ z ∧ z ≤ 68 ∧ t = .int .i64 z ∧ Chg [] w5 wr) (fun t _ => (68 - intOf t).toNat)
          case atStart => exact ⟨-2, by omega, by omega, rfl, HCR.out⟩
          case round =>
            obtain ⟨z, hz0, hz1, rfl, hcr⟩ := hrel
            by_cases hlt : z < 68
            · have HCS := Lib.hid hcr
              clear hcr
              go_wp2_with fail
              refine (need_any z).mono ?_
              rintro e w' ⟨rfl, rfl⟩
              go_wp2_with fail
              refine (rneed_any z).mono ?_
              rintro e w' ⟨rfl, rfl⟩
              go_wp2_with fail
              go_roundw
              case rel => exact ⟨z + 1, by omega, by omega, rfl, HCS.out⟩
              case measure => simp [intOf]; omega
            · obtain rfl : z = 68 := by omega
              have hX1 := Lib.hid (HX.out.keep hcr)
              have HCS := Lib.hid (((HCW.out.new HC5.out)).new hcr)
              clear hcr
              go_wp2_with fail
              refine (lreads_any hX1.out 3).mono ?_
              rintro e w14 ⟨rfl, hc14⟩
              go_wp2_with fail
              refine (lreads_any (hX1.out.keep hc14) 65).mono ?_
              rintro e w15 ⟨rfl, hc15⟩
              go_wp2_with fail
              refine (lreads_any ((hX1.out.keep hc14).keep hc15) (-1)).mono ?_
              rintro e w16 ⟨rfl, hc16⟩
              go_wp2_with fail
              refine dknown_any.mono ?_
              rintro e w17 ⟨rfl, hc17⟩
              go_wp2_with fail
              go_ret
              exact ⟨rfl, (((HCS.out.new hc14).new hc15).new hc16).new hc17⟩
end
end Go.Proofs.Yteodadngnlekfaa
