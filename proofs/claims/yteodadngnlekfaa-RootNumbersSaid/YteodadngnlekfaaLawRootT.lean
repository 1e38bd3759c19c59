/-
  The walk of RootTells.
-/
import Derived.Test.YteodadngnlekfaaRootKnown
import Derived.Test.YteodadngnlekfaaRootLawB
import Derived.Test.YteodadngnlekfaaInto
import Derived.Outline
import Derived.BigRegion
import Derived.Deep.RegionWith
import Derived.Laws.BitsAllLaws
import Derived.Deep.DeepCutAuto
import Derived.Deep.RegionHeld3
import Derived.Deep.DrawnRows
namespace Go.Proofs.Yteodadngnlekfaa
open Go.RowKit
/-- A variable that holds a root. -/
def KeptRoot (a b c : Nat) (w2 : World) (s : Value) (wx : World) : Prop := ∃ g, s = .pointer (some ⟨g, 0, none⟩) ∧ Whole wx g 46 [.int .i64 (a : Int), .int .i64 (b : Int), .int .u32 (c : Int)] ∧ Chg [] w2 wx
/-- Two rows of bytes of the call's own, apart. -/
def TwoRoots (X Y : List UInt8) (w4 : World) (s17 s18 : Value) (wx : World) : Prop :=
  ∃ A17 c17 gy ry, s17 = .slice A17 64 c17 ∧ s18 = .slice (some ⟨gy, 0, none⟩) 64 (64 + ry.length) ∧ Bs wx A17 64 c17 X ∧ Whole wx gy 5 (bts Y ++ ry) ∧ (∀ ad, A17 = some ad → ad.block ≠ gy) ∧ w4.heap.size ≤ gy ∧ 64 + ry.length ≤ maxLen ∧ Chg [] w4 wx
theorem two_roots {X Y : List UInt8} {w4 w17 w18 : World} {v17 v18 : Value} (hX : X.length = 64) (hY : Y.length = 64) (hc17 : Chg [] w4 w17) (ho17 : w17.ownsRow w4.heap.size 5 1 v17 X.length (bts X)) (hc18 : Chg [] w17 w18) (ho18 : w18.ownsRow w17.heap.size 5 1 v18 Y.length (bts Y)) :
    TwoRoots X Y w4 v17 v18 w18 := by
  rw [hX] at ho17
  rw [hY] at ho18
  obtain ⟨A17, c17, rfl, hB, hA⟩ := Bs.of_own ho17
  obtain ⟨gy, ry, rfl, hgy, hWy, hry⟩ := own_whole ho18 (by omega)
  have := hc17.size
  exact ⟨A17, c17, gy, ry, rfl, rfl, hB.keep hc18, hWy, fun ad e => by have := (hA ad e).2.2.2; omega, by omega, hry, hc17.new hc18⟩
/-- Best of a row of the call's own. -/
theorem best_arg {a0 : Act} {F : Said} {ev : Operand → Value} {w6 W : World} {A17 : Option Addr} {c17 : Nat} {X Y : List UInt8} {t1 t2 t3 : Tmp} {i : Nat} (hX : Bs w6 A17 64 c17 X) (hW : Chg [] w6.drew W)
    (hfs : allFacts a0 F ev W [.tmp t1, .tmp t2, .tmp t3]) (N : Nat) (h1 : 1 ≤ N) (h2 : N ≤ 160) (e1 : look F t1 = some (isV (.int .i64 (N : Int)))) (e2 : look F t2 = some (ownF 0 5 (bts Y))) (hY : Y.length = 64) (e3 : look F t3 = some (isV (.slice A17 64 c17))) :
    Calls Try.prog 25 ([(.tmp t1 : Operand), .tmp t2, .tmp t3].map ev).toArray W (fun e w'' => ∃ v, e = .returned v ∧ plainT.by_ i W w'' ∧ isV (.bool true) v w'') := by
  have f1 : factOf a0 F (.tmp t1) (ev (.tmp t1)) W := hfs.1
  have f2 : factOf a0 F (.tmp t2) (ev (.tmp t2)) W := hfs.2.1
  have f3 : factOf a0 F (.tmp t3) (ev (.tmp t3)) W := hfs.2.2.1
  simp only [factOf, e1, isV] at f1
  simp only [factOf, e2] at f2
  simp only [factOf, e3, isV] at f3
  unfold ownF at f2
  rw [bts_len, hY] at f2
  obtain ⟨A, c, e4, hB, _⟩ := Bs.of_own f2
  show Calls Try.prog _ #[ev (.tmp t1), ev (.tmp t2), ev (.tmp t3)] W _
  rw [f1, e4, f3]
  refine (lbest_any hB (hX.drew.keep hW) N h1 h2).mono ?_
  rintro e w' ⟨rfl, hc⟩
  exact ⟨_, rfl, by rw [plain_by]; exact hc, rfl⟩
section
variable {w : World} {Ab : Option Addr} {nb cb : Nat} {b : List UInt8}
set_option maxHeartbeats 16000000 in
set_option maxRecDepth 100000 in
theorem rootTells_any (L P : Int) (q : Nat) (hq : q < 4294967296) (hL0 : -9223372036854775808 ≤ L) (hL1 : L ≤ 9223372036854775807) (hP0 : -9223372036854775808 ≤ P) (hP1 : P ≤ 9223372036854775807)
    (L2 P2 : Int) (q2 : Nat) (hq2 : q2 < 4294967296) (hL20 : -9223372036854775808 ≤ L2) (hL21 : L2 ≤ 9223372036854775807) (hP20 : -9223372036854775808 ≤ P2) (hP21 : P2 ≤ 9223372036854775807)
    (s page : Int) (hs0 : -9223372036854775808 ≤ s) (hs1 : s ≤ 9223372036854775807) (hp0 : -9223372036854775808 ≤ page) (hp1 : page ≤ 9223372036854775807) (hB : Bs w Ab nb cb b) (i : Int) (hi0 : -9223372036854775808 ≤ i) (hi1 : i ≤ 9223372036854775807) (x : UInt8) :
    Calls Try.prog 7 #[rootV L P q, rootV L2 P2 q2, .int .i64 s, .int .i64 page, .slice Ab nb cb, .int .i64 i, .int .u8 (x.toNat : Int)] w (LawPost w) := by
  have HB := Lib.hid hB
  clear hB
  have wit : ∀ z lo hi : Int, 1 ≤ lo → lo ≤ hi → ∃ k : Nat, withinI z lo hi = (k : Int) ∧ lo ≤ (k : Int) ∧ (k : Int) ≤ hi := fun z lo hi h0 h1 => by
    have hin := into_within z lo hi h1
    exact ⟨(withinI z lo hi).toNat, by have := hin.1; omega, by have := hin.1; omega, by have := hin.1; have := hin.2.1; omega⟩
  obtain ⟨ka, hka, ka0, ka1⟩ := wit L 1 8 (by omega) (by omega)
  obtain ⟨kb, hkb, kb0, kb1⟩ := wit P 1 8 (by omega) (by omega)
  obtain ⟨ja, hja, ja0, ja1⟩ := wit L2 1 8 (by omega) (by omega)
  obtain ⟨jb, hjb, jb0, jb1⟩ := wit P2 1 8 (by omega) (by omega)
  obtain ⟨N, hN, N0, N1⟩ := wit s 1 24 (by omega) (by omega)
  have W1 := fun (W : World) => (within_is (w := W) L 1 8 (by omega) (by omega) (by omega) hL0 hL1)
  have W2 := fun (W : World) => (within_is (w := W) P 1 8 (by omega) (by omega) (by omega) hP0 hP1)
  have W3 := fun (W : World) => (within_is (w := W) L2 1 8 (by omega) (by omega) (by omega) hL20 hL21)
  have W4 := fun (W : World) => (within_is (w := W) P2 1 8 (by omega) (by omega) (by omega) hP20 hP21)
  rw [hka] at W1
  rw [hkb] at W2
  rw [hja] at W3
  rw [hjb] at W4
  have HW1 := Lib.hid W1
  have HW2 := Lib.hid W2
  have HW3 := Lib.hid W3
  have HW4 := Lib.hid W4
  have HNs := Lib.hid hN
  clear W1 W2 W3 W4 hka hkb hja hjb wit hN
  have hr0 : rootV L P q = .agg #[.int .i64 L, .int .i64 P, .int .u32 (q : Int)] := rfl
  have hr1 : rootV L2 P2 q2 = .agg #[.int .i64 L2, .int .i64 P2, .int .u32 (q2 : Int)] := rfl
  rw [hr0, hr1]
  clear hr0 hr1
  go_enter Try.func7, Try.ntmps7
  go_upto_region 1 with fail
  have hR := Whole.new w 46 [.int .i64 L, .int .i64 P, .int .u32 (q : Int)]
  have hc1 : Chg [] w (w.alloc (.cells #[.int .i64 L, .int .i64 P, .int .u32 (q : Int)] 46)) := (Chg.refl [] w).alloc _
  have hz1 : (w.alloc (.cells #[.int .i64 L, .int .i64 P, .int .u32 (q : Int)] 46)).heap.size = w.heap.size + 1 := by simp
  generalize w.alloc (.cells #[.int .i64 L, .int .i64 P, .int .u32 (q : Int)] 46) = w1 at hc1 hR hz1 ⊢
  have hO := Whole.new w1 46 [.int .i64 L2, .int .i64 P2, .int .u32 (q2 : Int)]
  have hal : Chg [] w1 (w1.alloc (.cells #[.int .i64 L2, .int .i64 P2, .int .u32 (q2 : Int)] 46)) := (Chg.refl [] w1).alloc _
  have hR2 := hR.keep hal
  have hc2 := hc1.new hal
  rw [hz1] at hO
  generalize w1.alloc (.cells #[.int .i64 L2, .int .i64 P2, .int .u32 (q2 : Int)] 46) = w2 at hO hR2 hc2 ⊢
  obtain ⟨g7, hg7⟩ : ∃ g, g = w.heap.size := ⟨_, rfl⟩
  rw [← hg7] at hO hR2 ⊢
  have HO2 := Lib.hid hO
  have HR2 := Lib.hid hR2
  have HC2 := Lib.hid hc2
  obtain ⟨c0, c1, c2, _, _, _⟩ := root_cells hR2
  have hgl := hR2.lt
  clear hO hR hal hc1 hz1 hg7 hR2 hc2
  go_cut [15] (fun s15 wx => KeptRoot ka kb q w2 s15 wx)
  case first =>
    go_region_held3 (fun w' => w'.cell? ⟨g7, 0, none⟩ = some (.int .i64 L) ∧ w'.cell? ⟨g7, 1, none⟩ = some (.int .i64 P) ∧ w'.cell? ⟨g7, 2, none⟩ = some (.int .u32 (q : Int))) (go_keep) (first
      | (go_at_call 15; have _t := R1; refine (HW2.out _).mono ?_; rintro e w' ⟨rfl, rfl⟩)
      | (go_at_call 15; have R1 : True := trivial; refine (HW1.out _).mono ?_; rintro e w' ⟨rfl, rfl⟩))
    all_goals go_wp2_with fail
    all_goals go_meet
    all_goals exact ⟨_, rfl, (Whole.new w2 46 [.int .i64 (ka : Int), .int .i64 (kb : Int), .int .u32 (q : Int)]).drew, ((Chg.refl [] w2).alloc _).drew⟩
  case rest =>
    obtain ⟨g15, rfl, hK, hcK⟩ := hcut
    obtain ⟨w3, rfl⟩ : ∃ w3 : World, w3 = wc := ⟨_, rfl⟩
    have HK3 := Lib.hid hK
    have HC3 := Lib.hid (HC2.out.new hcK)
    have HR3 := Lib.hid (HR2.out.keep hcK)
    have HO3 := Lib.hid (HO2.out.keep hcK)
    clear hK hcK c0 c1 c2 hgl
    obtain ⟨c0, c1, c2, _, _, _⟩ := root_cells HO3.out
    have hgl := HO3.out.lt
    go_upto_region 2 with fail
    go_cut [16] (fun s16 wx => KeptRoot ja jb q2 w3 s16 wx)
    case first =>
      go_region_held3 (fun w' => w'.cell? ⟨g7 + 1, 0, none⟩ = some (.int .i64 L2) ∧ w'.cell? ⟨g7 + 1, 1, none⟩ = some (.int .i64 P2) ∧ w'.cell? ⟨g7 + 1, 2, none⟩ = some (.int .u32 (q2 : Int))) (go_keep) (first
        | (go_at_call 15; have _t := R1; refine (HW4.out _).mono ?_; rintro e w' ⟨rfl, rfl⟩)
        | (go_at_call 15; have R1 : True := trivial; refine (HW3.out _).mono ?_; rintro e w' ⟨rfl, rfl⟩))
      all_goals go_wp2_with fail
      all_goals go_meet
      all_goals exact ⟨_, rfl, (Whole.new w3 46 [.int .i64 (ja : Int), .int .i64 (jb : Int), .int .u32 (q2 : Int)]).drew, ((Chg.refl [] w3).alloc _).drew⟩
    case rest =>
      obtain ⟨g16, rfl, hJ, hcJ⟩ := hcut
      obtain ⟨w4, rfl⟩ : ∃ w4 : World, w4 = wc := ⟨_, rfl⟩
      have HJ4 := Lib.hid hJ
      have HK4 := Lib.hid (HK3.out.keep hcJ)
      have HC4 := Lib.hid (HC3.out.new hcJ)
      have HR4 := Lib.hid (HR3.out.keep hcJ)
      clear hJ hcJ c0 c1 c2 hgl
      obtain ⟨k0, k1, k2, _, _, _⟩ := root_cells HK4.out
      obtain ⟨j0, j1, j2, _, _, _⟩ := root_cells HJ4.out
      have hs4 := HC4.out.size
      go_upto_region 3 with fail
      go_cut [17, 18] (fun s17 s18 wx => TwoRoots (rootL ka kb q) (rootL ja jb q2) w4 s17 s18 wx)
      case first =>
        go_region_with (first
          | (go_at_call 23
             have _t := ho17
             refine (rroot_any ja jb q2 (by omega) (by omega) hq2).mono ?_
             rintro e w18 ⟨v18, rfl, ho18, hc18⟩)
          | (go_at_call 23
             refine (rroot_any ka kb q (by omega) (by omega) hq).mono ?_
             rintro e w17 ⟨v17, rfl, ho17, hc17⟩
             have hj := HJ4.out.drew.keep hc17
             obtain ⟨e0, e1, e2, _, _, _⟩ := root_cells hj))
        all_goals
          have hT := Lib.hid (two_roots (w4 := w4) (rootL_len ka kb q) (rootL_len ja jb q2) ((Chg.refl [] w4).drew.new hc17) ho17 hc18 ho18)
          go_wp2_with fail
          go_meet
          exact hT.out
      case rest =>
        obtain ⟨A17, c17, gy, ry, rfl, rfl, hBx, hWy, hne, hgy, hry, hcy⟩ := hcut
        obtain ⟨w5, rfl⟩ : ∃ w5 : World, w5 = wc := ⟨_, rfl⟩
        have HX5 := Lib.hid hBx
        have HC5 := Lib.hid (HC4.out.new hcy)
        have HK5 := Lib.hid (HK4.out.keep hcy)
        have HJ5 := Lib.hid (HJ4.out.keep hcy)
        have HR5 := Lib.hid (HR4.out.keep hcy)
        have HNE := Lib.hid hne
        have HWY := Lib.hid hWy
        clear hBx hcy hne hWy k0 k1 k2 j0 j1 j2
        obtain ⟨Y, hYq⟩ : ∃ Y, Y = rootL ja jb q2 := ⟨_, rfl⟩
        have hYl : Y.length = 64 := by rw [hYq, rootL_len]
        rw [← hYq] at HWY
        obtain ⟨j, hj, hjM⟩ : ∃ q : Nat, withinI i 0 63 = (q : Int) ∧ q < 64 := by
          have hin := into_within i 0 63 (by omega)
          exact ⟨(withinI i 0 63).toNat, by have := hin.1; omega, by have h1 := hin.1; have h2 := hin.2.1; omega⟩
        have HJq := Lib.hid hj
        have hjI : (j : Int) < 64 := by omega
        have hjJ : (0 : Int) ≤ (j : Int) := by omega
        obtain ⟨z0, hz0⟩ : ∃ z0, z0 = Y[j]'(by rw [hYl]; exact hjM) := ⟨_, rfl⟩
        have HZ := Lib.hid (show (bts Y)[j]? = some (B8 z0) by rw [hz0]; exact bts_get Y j _)
        clear hz0 hj
        obtain ⟨D, hD⟩ : ∃ D : UInt8, bits .xor .u8 (z0.toNat : Int) (x.toNat : Int) = (D.toNat : Int) := by
          have h1 := z0.toNat_lt
          have h2 := x.toNat_lt
          refine ⟨UInt8.ofNat (z0.toNat ^^^ x.toNat), ?_⟩
          rw [u8_xor_nat _ _ (by omega) (by omega), UInt8.toNat_ofNat']
          have h3 : z0.toNat ^^^ x.toNat < 256 := Nat.xor_lt_two_pow (n := 8) (by omega) (by omega)
          omega
        have HD := Lib.hid hD
        have HYL := Lib.hid hYl
        have HYQ := Lib.hid hYq
        clear hD hYq
        have c0 : w5.cell? ⟨gy, j, none⟩ = some (B8 z0) := by
          rw [HWY.out.cell, List.getElem?_append_left (by rw [bts_len, hYl]; exact hjM)]
          exact HZ.out
        have f0 := HWY.out.frozen j
        have hW6 := HWY.out.set_ j (B8 D)
        rw [List.set_append_left _ _ (by rw [bts_len, hYl]; exact hjM), bts_set] at hW6
        have hc6 : Chg [gy] w5 (w5.setCell ⟨gy, j, none⟩ (B8 D)) := (Chg.refl [gy] w5).setCell (by simp) _
        unfold B8 at c0 hW6 hc6
        rw [← HD.out] at hW6 hc6
        have HW6 := Lib.hid hW6
        have HC6 := Lib.hid hc6
        clear hW6 hc6 hYl
        go_wp2_with fail
        with_reducible refine (within_is i 0 63 (by omega) (by omega) (by omega) hi0 hi1).mono ?_
        rintro e w' ⟨rfl, rfl⟩
        rw [HJq.out]
        go_wp2_with fail
        have hY6 : Bs (w5.setCell ⟨gy, j, none⟩ (.int .u8 (bits .xor .u8 (z0.toNat : Int) (x.toNat : Int)))) (some ⟨gy, 0, none⟩) 64 (64 + ry.length) (Y.set j D) := Bs.of_whole HW6.out (by rw [List.length_set]; exact HYL.out) (by rw [List.take_left' (by rw [bts_len, List.length_set]; exact HYL.out)]) (by omega) (by simpa [maxLen] using hry)
        have hC6 := HC6.out
        have hne15 := HK5.out.ne_ HWY.out (by decide)
        have hne16 := HJ5.out.ne_ HWY.out (by decide)
        have hne7 := HR5.out.ne_ HWY.out (by decide)
        generalize w5.setCell ⟨gy, j, none⟩ (.int .u8 (bits .xor .u8 (z0.toNat : Int) (x.toNat : Int))) = w6 at hY6 hC6 ⊢
        have HX6 := Lib.hid (show Bs w6 A17 64 c17 (rootL ka kb q) from ⟨HX5.out.len, HX5.out.src.chg hC6 (fun _ ad e => by simpa using HNE.out ad e), HX5.out.cap, HX5.out.max, HX5.out.spot⟩)
        have HY6 := Lib.hid hY6
        have HK6 := Lib.hid (HK5.out.chg hC6 (by simpa using hne15))
        have HJ6 := Lib.hid (HJ5.out.chg hC6 (by simpa using hne16))
        have HR6 := Lib.hid (HR5.out.chg hC6 (by simpa using hne7))
        have HC7 := Lib.hid (HC5.out.then_ hC6 (fun i hi hlt => by simp only [List.mem_cons, List.not_mem_nil, or_false] at hi; omega))
        have HB6 := Lib.hid (HB.out.keep HC7.out)
        clear hY6 hC6 c0 f0 hne15 hne16 hne7 HW6 HC6
        with_reducible refine (within_is s 1 24 (by omega) (by omega) (by omega) hs0 hs1).mono ?_
        rintro e w' ⟨rfl, rfl⟩
        rw [HNs.out]
        go_wp2_with fail
        have hpw := fun (W : World) => within_is (w := W) page (-1) 9 (by omega) (by omega) (by omega) hp0 hp1
        generalize withinI page (-1) 9 = pw at hpw
        have HPW := Lib.hid hpw
        clear hpw
        have hldr := fun (W : World) (hW : Chg [] w6.drew W) => root_cells (HR6.out.drew.keep hW)
        have hldk := fun (W : World) (hW : Chg [] w6.drew W) => root_cells (HK6.out.drew.keep hW)
        have hldj := fun (W : World) (hW : Chg [] w6.drew W) => root_cells (HJ6.out.drew.keep hW)
        refine wp_flow (by kernel_rfl) plainT plainT_ok (by kernel_rfl) ?_
        refine flow1h (r := rootV L P q) plainT_ok rfl (.out rfl rfl) rfl (fun ev W he hW e1 => by obtain ⟨c0, c1, c2, _, _, _⟩ := hldr W hW; go_simp; try rfl) ?_
        refine flow_move_out plainT_ok rfl rfl rfl ?_
        refine flow_move_out plainT_ok rfl rfl rfl ?_
        refine flow_callv (.bool true) (by kernel_rfl) rfl (.cons (.inn rfl) (.cons (.inn rfl) (.cons (.inn rfl) .nil))) (fun W hW => (rsamelaw_any L P s page q hq).mono ?_) ?_
        · rintro e w' ⟨rfl, hc⟩; exact ⟨rfl, hc⟩
        refine flow_move plainT_ok rfl (keeps_isV _) (.inr (keeps_isV _)) rfl ?_
        refine flow1h (r := rootV ka kb q) plainT_ok rfl (.out rfl rfl) rfl (fun ev W he hW e1 => by obtain ⟨c0, c1, c2, _, _, _⟩ := hldk W hW; go_simp; try rfl) ?_
        refine flow_move_out plainT_ok rfl rfl rfl ?_
        refine flow_move_out plainT_ok rfl rfl rfl ?_
        refine flow_callv (.bool true) (by kernel_rfl) rfl (.cons (.inn rfl) (.cons (.inn rfl) (.cons (.inn rfl) .nil))) (fun W hW => (rsamelaw_any ka kb N page q hq).mono ?_) ?_
        · rintro e w' ⟨rfl, hc⟩; exact ⟨rfl, hc⟩
        refine flow_and plainT_ok rfl rfl rfl ?_
        refine flow_move plainT_ok rfl (keeps_isV _) (.inr (keeps_isV _)) rfl ?_
        refine flow1h (r := rootV ka kb q) plainT_ok rfl (.out rfl rfl) rfl (fun ev W he hW e1 => by obtain ⟨c0, c1, c2, _, _, _⟩ := hldk W hW; go_simp; try rfl) ?_
        refine flow_move_out plainT_ok rfl rfl rfl ?_
        refine flow_move_out plainT_ok rfl rfl rfl ?_
        refine flow_callv (.int .i64 pw) (by kernel_rfl) rfl (.cons (.inn rfl) (.cons (.const _) (.cons (.const _) .nil))) (fun W hW => (HPW.out W).mono ?_) ?_
        · rintro e w' ⟨rfl, rfl⟩; exact ⟨rfl, Chg.refl _ _⟩
        refine flow_callv (.bool true) (by kernel_rfl) rfl (.cons (.inn rfl) (.cons (.inn rfl) (.cons (.inn rfl) .nil))) (fun W hW => (rsamelaw_any ka kb N pw q hq).mono ?_) ?_
        · rintro e w' ⟨rfl, hc⟩; exact ⟨rfl, hc⟩
        refine flow_and plainT_ok rfl rfl rfl ?_
        refine flow_move plainT_ok rfl (keeps_isV _) (.inr (keeps_isV _)) rfl ?_
        refine flow_move_out plainT_ok rfl rfl rfl ?_
        refine flow_callv (.bool true) (by kernel_rfl) rfl (.cons (.inn rfl) .nil) (fun W hW => (rreadslaw_any (HX6.out.drew.keep hW)).mono ?_) ?_
        · rintro e w' ⟨rfl, hc⟩; exact ⟨rfl, hc⟩
        refine flow_and plainT_ok rfl rfl rfl ?_
        refine flow_move plainT_ok rfl (keeps_isV _) (.inr (keeps_isV _)) rfl ?_
        refine flow_move_out plainT_ok rfl rfl rfl ?_
        refine flow_callv (.bool true) (by kernel_rfl) rfl (.cons (.inn rfl) .nil) (fun W hW => (rreadslaw_any (HY6.out.drew.keep hW)).mono ?_) ?_
        · rintro e w' ⟨rfl, hc⟩; exact ⟨rfl, hc⟩
        refine flow_and plainT_ok rfl rfl rfl ?_
        refine flow_move plainT_ok rfl (keeps_isV _) (.inr (keeps_isV _)) rfl ?_
        refine flow_move_out plainT_ok rfl rfl rfl ?_
        refine flow_callv (.bool true) (by kernel_rfl) rfl (.cons (.inn rfl) .nil) (fun W hW => (rreadslaw_any (HB6.out.drew.keep hW)).mono ?_) ?_
        · rintro e w' ⟨rfl, hc⟩; exact ⟨rfl, hc⟩
        refine flow_and plainT_ok rfl rfl rfl ?_
        refine flow_move plainT_ok rfl (keeps_isV _) (.inr (keeps_isV _)) rfl ?_
        refine flow_move_out plainT_ok rfl rfl rfl ?_
        refine flow_move_out plainT_ok rfl rfl rfl ?_
        refine flow_move_out plainT_ok rfl rfl rfl ?_
        refine flow_callv (.bool true) (by kernel_rfl) rfl (.cons (.inn rfl) (.cons (.inn rfl) (.cons (.inn rfl) .nil))) (fun W hW => (lbest_any (HX6.out.drew.keep hW) (HY6.out.drew.keep hW) N (by omega) (by omega)).mono ?_) ?_
        · rintro e w' ⟨rfl, hc⟩; exact ⟨rfl, hc⟩
        refine flow_and plainT_ok rfl rfl rfl ?_
        refine flow_move plainT_ok rfl (keeps_isV _) (.inr (keeps_isV _)) rfl ?_
        refine flow_move_out plainT_ok rfl rfl rfl ?_
        refine flow_move_out plainT_ok rfl rfl rfl ?_
        refine flow_move_out plainT_ok rfl rfl rfl ?_
        refine flow_callv (.bool true) (by kernel_rfl) rfl (.cons (.inn rfl) (.cons (.inn rfl) (.cons (.inn rfl) .nil))) (fun W hW => (lbest_any (HY6.out.drew.keep hW) (HX6.out.drew.keep hW) N (by omega) (by omega)).mono ?_) ?_
        · rintro e w' ⟨rfl, hc⟩; exact ⟨rfl, hc⟩
        refine flow_and plainT_ok rfl rfl rfl ?_
        refine flow_move plainT_ok rfl (keeps_isV _) (.inr (keeps_isV _)) rfl ?_
        refine flow_move_out plainT_ok rfl rfl rfl ?_
        refine flow1h (r := rootV ja jb q2) plainT_ok rfl (.out rfl rfl) rfl (fun ev W he hW e1 => by obtain ⟨c0, c1, c2, _, _, _⟩ := hldj W hW; go_simp; try rfl) ?_
        refine flow_calld (ownF 0 5 (bts (rootL ja jb q2))) (keeps_own _ _ _) (.inr (keeps_own _ _ _)) (by kernel_rfl) rfl (.cons (.inn rfl) .nil) (fun W hW => (rroot_any ja jb q2 (by omega) (by omega) hq2).mono ?_) ?_
        · rintro e w' ⟨v, rfl, ho, hc'⟩
          exact ⟨v, rfl, hc', by rw [ownF, bts_len]; exact own_more ho (Nat.zero_le _)⟩
        refine flow_move_out plainT_ok rfl rfl rfl ?_
        refine flow_call (isV (.bool true)) (keeps_isV _) (.inr (keeps_isV _)) (by kernel_rfl) rfl (fun ev W he hW hfs => ?_) ?_
        · exact best_arg HX6.out hW hfs N (by omega) (by omega) rfl rfl (rootL_len ja jb q2) rfl
        refine flow_and plainT_ok rfl rfl rfl ?_
        refine flow_move plainT_ok rfl (keeps_isV _) (.inr (keeps_isV _)) rfl ?_
        refine flow_callv (.bool true) (by kernel_rfl) rfl .nil (fun W hW => (rknown_any).mono ?_) ?_
        · rintro e w' ⟨rfl, hc⟩; exact ⟨rfl, hc⟩
        refine flow_and plainT_ok rfl rfl rfl ?_
        refine flow_assign plainT_ok rfl (keeps_isV _) (.inr (keeps_isV _)) rfl ?_
        intro vs W hW hF
        have e14 : vs 14 = .bool true := hF 14 _ rfl rfl
        simp only [putAll, Act.put, List.setIfInBounds_toArray, List.set_cons_zero, List.set_cons_succ, e14]
        go_wp2_with fail
        go_ret
        exact ⟨rfl, HC7.out.drew.new hW⟩
end
end Go.Proofs.Yteodadngnlekfaa
