/-
  The walk of RootBack.
-/
import Derived.Test.YteodadngnlekfaaLawRootT
namespace Go.Proofs.Yteodadngnlekfaa
open Go.RowKit
theorem place_of (i : Int) (n : Nat) (hn : 0 < n) : -(n : Int) < i.tmod n ∧ i.tmod n < n ∧ ∃ j : Nat, (i.tmod n + n).tmod n = j ∧ j < n := by
  have h1 := Int.lt_tmod_of_pos i (show (0 : Int) < n by omega)
  have h2 := Int.tmod_lt_of_pos i (show (0 : Int) < n by omega)
  have h3 : 0 ≤ i.tmod n + n := by omega
  have h4 := Int.tmod_nonneg (n : Int) h3
  have h5 := Int.tmod_lt_of_pos (i.tmod n + n) (show (0 : Int) < n by omega)
  obtain ⟨j, hj⟩ := Int.eq_ofNat_of_zero_le h4
  exact ⟨h1, h2, j, hj, by omega⟩
theorem read_root {w : World} {A : Option Addr} {n c a b d : Nat} (h : Bs w A n c (rootL a b d)) (ha : a ≤ 2147483647) (hb : b ≤ 2147483647) (hd : d < 4294967296) :
    Calls Try.prog 28 #[.slice A n c] w fun e w' => e = .returned (.tuple #[.agg #[.int .i64 (a : Int), .int .i64 (b : Int), .int .u32 (d : Int)], .bool true]) ∧ Chg [] w w' := by
  refine (rootread_any h).mono ?_
  obtain ⟨hi, g4, g8, g12⟩ := root_is a b d ha hb hd
  rintro e w' (⟨_, rfl, hc⟩ | ⟨hno, _⟩)
  · rw [g4, g8, g12]
    exact ⟨rfl, hc⟩
  · exact absurd hi hno
theorem read_none {w : World} {A : Option Addr} {n c : Nat} {l : List UInt8} (h : Bs w A n c l) (hno : ¬ isRoot l) :
    Calls Try.prog 28 #[.slice A n c] w fun e w' => e = .returned (.tuple #[.agg #[.int .i64 0, .int .i64 0, .int .u32 0], .bool false]) ∧ Chg [] w w' := by
  refine (rootread_any h).mono ?_
  rintro e w' (⟨hi, _⟩ | ⟨_, rfl, hc⟩)
  · exact absurd hi hno
  · exact ⟨rfl, hc⟩
theorem new30 {w : World} : Calls Try.prog 29 #[.int .i64 30] w fun e w' => ∃ p bL bS bW, e = .returned (.pointer (some ⟨p, 0, none⟩)) ∧ Dsk w' p bL bS bW (zeros 1920) (zeros 1920) (falses 30) ∧
      w.heap.size ≤ p ∧ w.heap.size ≤ bL ∧ w.heap.size ≤ bS ∧ w.heap.size ≤ bW ∧ Chg [] w w' := new_yes 30 (by omega) (by omega)
theorem Bs.away {w w' : World} {A : Option Addr} {n c : Nat} {l : List UInt8} {T : List Nat} (h : Bs w A n c l) (hc : Chg T w w') (hn : ∀ ad, A = some ad → ad.block ∉ T) : Bs w' A n c l :=
  ⟨h.len, h.src.chg hc (fun _ ad e => hn ad e), h.cap, h.max, h.spot⟩
theorem Bs.block_lt {w : World} {ad : Addr} {n c : Nat} {l : List UInt8} (h : Bs w (some ad) n c l) (h0 : 0 < n) : ad.block < w.heap.size := by
  obtain ⟨ad2, e2, hb2, _⟩ := h.src (by rw [bts_len, h.len]; exact h0)
  injection e2 with e2
  subst e2
  exact hb2
/-- What two writes, and one more, leave for the best of a disk of thirty. -/
theorem back_best (a b E D k k' : Nat) (z : List UInt8) (ha : 1 ≤ a ∧ a ≤ 9) (hb : 1 ≤ b ∧ b ≤ 9) (hE : 1 ≤ E) (hED : E < D) (hD : D < 80000) (hk : k < 2) (hk' : k' = 1 - k) (hz : z.length = 64) (hno : ¬ isRoot z)
    {S1 S2 : List UInt8} (e1 : S1 = splice (zeros 1920) (k * 64) (rootL a b E)) (e2 : S2 = splice S1 (k' * 64) (rootL a b D)) (l1 : S1.length = 64 * 30) (l2 : S2.length = 64 * 30) :
    bestK 30 S2 2 = ⟨a, b, D⟩ ∧ bestK 30 (splice S2 (k' * 64) z) 2 = ⟨a, b, E⟩ := by
  have hr : rightR a b E (30 : Nat) = true := rightR_true.2 ⟨by omega, by omega, by omega, by omega, by omega, by omega⟩
  have hr2 : rightR a b D (30 : Nat) = true := rightR_true.2 ⟨by omega, by omega, by omega, by omega, by omega, by omega⟩
  have hne : k ≠ k' := by omega
  have s1 : sectL S1 30 k = rootL a b E := by rw [e1]; exact sect_same (by rw [zeros_len]) (by omega) (rootL_len a b E)
  have s2 : sectL S2 30 k = rootL a b E := by rw [e2, sect_other l1 (by omega) (rootL_len a b D) hne]; exact s1
  have s3 : sectL S2 30 (1 - k) = rootL a b D := by rw [e2, ← hk']; exact sect_same l1 (by omega) (rootL_len a b D)
  refine ⟨best_two (by omega) (by omega) (by omega) (by omega) hr hr2 hED hk s2 s3, best_one (by omega) (by omega) (by omega) hr hk ?_ ?_⟩
  · rw [sect_other l2 (by omega) hz hne]; exact s2
  · rw [← hk', sect_same l2 (by omega) hz]; exact hno
section
variable {w : World}
set_option maxHeartbeats 16000000 in
set_option maxRecDepth 100000 in
theorem rootBack_any (L P : Int) (hL0 : -9223372036854775808 ≤ L) (hL1 : L ≤ 9223372036854775807) (hP0 : -9223372036854775808 ≤ P) (hP1 : P ≤ 9223372036854775807) (a b : Nat) (ha : a < 4294967296) (hb : b < 4294967296) (i : Int) (x : UInt8) :
    Calls Try.prog 8 #[.int .i64 L, .int .i64 P, .int .u32 (a : Int), .int .u32 (b : Int), .int .i64 i, .int .u8 (x.toNat : Int)] w (LawPost w) := by
  have wit : ∀ z lo hi : Int, 1 ≤ lo → lo ≤ hi → ∃ k : Nat, withinI z lo hi = (k : Int) ∧ lo ≤ (k : Int) ∧ (k : Int) ≤ hi := fun z lo hi h0 h1 => by
    have hin := into_within z lo hi h1
    exact ⟨(withinI z lo hi).toNat, by have := hin.1; omega, by have := hin.1; omega, by have := hin.1; have := hin.2.1; omega⟩
  obtain ⟨ka, hka, ka0, ka1⟩ := wit L 1 9 (by omega) (by omega)
  obtain ⟨kb, hkb, kb0, kb1⟩ := wit P 1 9 (by omega) (by omega)
  have HKA := Lib.hid hka
  have HKB := Lib.hid hkb
  obtain ⟨m, hm, hm1⟩ : ∃ m : Nat, bits .and .u32 (a : Int) 65535 = (m : Int) ∧ m < 65536 := ⟨a &&& 65535, u32_and_nat a 65535 ha (by omega), by have := Nat.and_le_right (n := a) (m := 65535); omega⟩
  obtain ⟨mb, hmb, hmb1⟩ : ∃ m : Nat, bits .and .u32 (b : Int) 255 = (m : Int) ∧ m < 256 := ⟨b &&& 255, u32_and_nat b 255 hb (by omega), by have := Nat.and_le_right (n := b) (m := 255); omega⟩
  obtain ⟨k, hk, hk1⟩ : ∃ m : Nat, bits .and .u32 (b : Int) 1 = (m : Int) ∧ m < 2 := ⟨b &&& 1, u32_and_nat b 1 hb (by omega), by have := Nat.and_le_right (n := b) (m := 1); omega⟩
  obtain ⟨E, hE⟩ : ∃ E, E = 1 + m := ⟨_, rfl⟩
  obtain ⟨D, hD⟩ : ∃ D, D = E + 1 + mb := ⟨_, rfl⟩
  have HE1 := Lib.hid (show (1 + (m : Int)) = (E : Int) by omega)
  have HE2 := Lib.hid (show ((E : Int) + 1 + (mb : Int)) = (D : Int) by omega)
  have hE1 : 1 ≤ E := by omega
  have hE2 : E < 70000 := by omega
  have hED : E < D := by omega
  have hD2 : D < 80000 := by omega
  obtain ⟨i0, hi, hz, hs1, hbb⟩ := info_parts info_byte
  obtain ⟨p1, p2, j, hj, hjn⟩ := place_of i 20 (by omega)
  simp only [Int.cast_ofNat_Int] at p1 p2 hj
  have hjM : j < 64 := by omega
  have hjI : (j : Int) < 64 := by omega
  have hjJ : (0 : Int) ≤ (j : Int) := by omega
  obtain ⟨z0, hz0⟩ : ∃ z0, z0 = (rootL ka kb E)[j]'(by rw [rootL_len]; exact hjM) := ⟨_, rfl⟩
  obtain ⟨d, hd, hdne⟩ := turned z0 x
  have HNO := Lib.hid (root_turned ka kb E (by omega) (by omega) (by omega) j hjn d (by
    rw [List.getElem?_eq_getElem (by rw [rootL_len]; exact hjM), ← hz0]
    exact fun e => hdne (Option.some.inj e)))
  have HZ := Lib.hid (show (bts (rootL ka kb E))[j]? = some (B8 z0) by rw [hz0]; exact bts_get _ j _)
  have HDD := Lib.hid hd
  have hlb := Lib.hid (show (bts (rootL ka kb E)).length = 64 by rw [bts_len, rootL_len])
  have hm1 := Lib.hid (show 0 + 64 ≤ maxLen by unfold maxLen; omega)
  have hm3 := Lib.hid (show (0 + 64) * 1 ≤ 140737488355328 by omega)
  clear hka hkb wit hE hD hz0 hd hdne
  go_enter Try.func8, Try.ntmps8
  go_wp2_with fail
  with_reducible refine (within_is L 1 9 (by omega) (by omega) (by omega) hL0 hL1).mono ?_
  rintro e w' ⟨rfl, rfl⟩
  rw [HKA.out]
  go_wp2_with fail
  with_reducible refine (within_is P 1 9 (by omega) (by omega) (by omega) hP0 hP1).mono ?_
  rintro e w' ⟨rfl, rfl⟩
  rw [HKB.out]
  go_upto_region 4 with fail
  rw [HE1.out, HE2.out]
  have hR := Whole.new w 46 [.int .i64 (ka : Int), .int .i64 (kb : Int), .int .u32 (E : Int)]
  have hc1 : Chg [] w (w.alloc (.cells #[.int .i64 (ka : Int), .int .i64 (kb : Int), .int .u32 (E : Int)] 46)) := (Chg.refl [] w).alloc _
  have hz1 : (w.alloc (.cells #[.int .i64 (ka : Int), .int .i64 (kb : Int), .int .u32 (E : Int)] 46)).heap.size = w.heap.size + 1 := by simp
  generalize w.alloc (.cells #[.int .i64 (ka : Int), .int .i64 (kb : Int), .int .u32 (E : Int)] 46) = w1 at hc1 hR hz1 ⊢
  have hO := Whole.new w1 46 [.int .i64 (ka : Int), .int .i64 (kb : Int), .int .u32 (D : Int)]
  have hal : Chg [] w1 (w1.alloc (.cells #[.int .i64 (ka : Int), .int .i64 (kb : Int), .int .u32 (D : Int)] 46)) := (Chg.refl [] w1).alloc _
  have hR2 := hR.keep hal
  have hc2 := hc1.new hal
  rw [hz1] at hO
  generalize w1.alloc (.cells #[.int .i64 (ka : Int), .int .i64 (kb : Int), .int .u32 (D : Int)] 46) = w2 at hO hR2 hc2 ⊢
  obtain ⟨g7, hg7⟩ : ∃ g, g = w.heap.size := ⟨_, rfl⟩
  rw [← hg7] at hO hR2 ⊢
  have HO2 := Lib.hid hO
  have HR2 := Lib.hid hR2
  have HC2 := Lib.hid hc2
  obtain ⟨k0, k1, k2, _, _, _⟩ := root_cells hR2
  obtain ⟨j0, j1, j2, _, _, _⟩ := root_cells hO
  have hs2 := hc2.size
  have hg7s : w.heap.size ≤ g7 := by omega
  clear hO hR hal hc1 hz1 hR2 hc2 hg7
  go_cut [15, 16] (fun s15 s16 wx => TwoRoots (rootL ka kb E) (rootL ka kb D) w2 s15 s16 wx)
  case first =>
    go_region_with (first
      | (go_at_call 27
         have _t := ho17
         refine (rootbytes_any ka kb D (by omega) (by omega) (by omega)).mono ?_
         rintro e w18 ⟨v18, rfl, ho18, hc18⟩)
      | (go_at_call 27
         refine (rootbytes_any ka kb E (by omega) (by omega) (by omega)).mono ?_
         rintro e w17 ⟨v17, rfl, ho17, hc17⟩
         have hj := HO2.out.drew.keep hc17
         obtain ⟨e0, e1, e2, _, _, _⟩ := root_cells hj))
    all_goals
      have hT := Lib.hid (two_roots (w4 := w2) (rootL_len ka kb E) (rootL_len ka kb D) ((Chg.refl [] w2).drew.new hc17) ho17 hc18 ho18)
      go_wp2_with fail
      go_meet
      exact hT.out
  case rest =>
    obtain ⟨A17, c17, gy, ry, rfl, rfl, hBx, hWy, hne, hgy, hry, hcy⟩ := hcut
    obtain ⟨w3, rfl⟩ : ∃ w3 : World, w3 = wc := ⟨_, rfl⟩
    have HX3 := Lib.hid hBx
    have HY3 := Lib.hid (show Bs w3 (some ⟨gy, 0, none⟩) 64 (64 + ry.length) (rootL ka kb D) from Bs.of_whole hWy (rootL_len ka kb D) (by rw [List.take_left' (by rw [bts_len, rootL_len])]) (by omega) (by simpa [maxLen] using hry))
    have HC3 := Lib.hid (HC2.out.new hcy)
    have HR3 := Lib.hid (HR2.out.keep hcy)
    have HO3 := Lib.hid (HO2.out.keep hcy)
    clear hBx hcy hne hWy k0 k1 k2 j0 j1 j2 hs2
    go_wp2_with fail
    refine (read_root HX3.out (by omega) (by omega) (by omega)).mono ?_
    rintro e w4 ⟨rfl, hc4⟩
    have HX4 := Lib.hid (HX3.out.keep hc4)
    have HY4 := Lib.hid (HY3.out.keep hc4)
    have HC4 := Lib.hid (HC3.out.new hc4)
    have HR4 := Lib.hid (HR3.out.keep hc4)
    have HO4 := Lib.hid (HO3.out.keep hc4)
    obtain ⟨k0, k1, k2, _, _, _⟩ := root_cells HR4.out
    have hgl := HR4.out.lt
    have hgn : ¬ g7 = w4.heap.size := by omega
    clear hc4
    go_upto_region 8 with fail
    have hK := Whole.new w4 46 [.int .i64 (ka : Int), .int .i64 (kb : Int), .int .u32 (E : Int)]
    have hal : Chg [] w4 (w4.alloc (.cells #[.int .i64 (ka : Int), .int .i64 (kb : Int), .int .u32 (E : Int)] 46)) := (Chg.refl [] w4).alloc _
    have HX5 := Lib.hid (HX4.out.keep hal)
    have HY5 := Lib.hid (HY4.out.keep hal)
    have HC5 := Lib.hid (HC4.out.new hal)
    have HR5 := Lib.hid (HR4.out.keep hal)
    have HO5 := Lib.hid (HO4.out.keep hal)
    generalize w4.alloc (.cells #[.int .i64 (ka : Int), .int .i64 (kb : Int), .int .u32 (E : Int)] 46) = w5 at hK HX5 HY5 HC5 HR5 HO5 ⊢
    generalize w4.heap.size = g17 at hK ⊢
    clear hK hal k0 k1 k2 hgl hgn HX4 HY4 HC4 HR4 HO4 HX3 HY3 HC3 HR3 HO3 HR2 HO2 HC2
    have ho0 : (w5.alloc (.cells #[] 5)).ownsRow w5.heap.size 5 1 (.slice (some ⟨w5.heap.size, 0, none⟩) 0 0) 0 [] :=
      own_of_whole (B := w5.heap.size) (n := 0) (c := 0) (Whole.new w5 5 []) (Nat.le_refl _) rfl (by omega) (by unfold maxLen; omega)
    go_wp2_with (at_builtin
                 refine wpList_append_src rfl (.tmp 70) (.tmp 71) 22 rfl w5.heap.size 5 i0 _ 1 Try.underlying22 hi hz hs1 hbb cells_u8 (.slice (some ⟨w5.heap.size, 0, none⟩) 0 0) 0 [] rfl ho0 A17 64 c17 (bts (rootL ka kb E)) rfl hlb.out (HX5.out.src.keep ((Chg.refl _ _).alloc _)) (bts_one _) hm1.out hm3.out (by simp) ?_
                 intro v6 w6 ho6 hg6 _
                 have hc6 : Chg [] w5 w6 := ((Chg.refl [] w5).alloc _).own ho0 (Nat.le_refl _) hg6
                 clear hg6
                 simp only [Nat.zero_add, List.nil_append] at ho6
                 obtain ⟨g, r, rfl, hbg, hW6, hr⟩ := own_whole ho6 (by omega)
                 have c0 : w6.cell? ⟨g, j, none⟩ = some (B8 z0) := by
                   rw [hW6.cell, List.getElem?_append_left (by rw [hlb.out]; exact hjM)]
                   exact HZ.out
                 have f0 := hW6.frozen j
                 have hW7 := hW6.set_ j (B8 d)
                 rw [List.set_append_left _ _ (by rw [hlb.out]; exact hjM), bts_set] at hW7
                 have hc7 : Chg [] w5 (w6.setCell ⟨g, j, none⟩ (B8 d)) := hc6.setCell (fun hlt => absurd hlt (by simp only; omega)) _
                 unfold B8 at c0 hW7 hc7
                 rw [← HDD.out] at hW7 hc7
                 clear ho6 hW6)
    all_goals first | (exfalso; omega) | skip
    have hZ7 : Bs (w6.setCell ⟨g, j, none⟩ (.int .u8 (bits .xor .u8 (z0.toNat : Int) (bits .or .u8 (x.toNat : Int) 1)))) (some ⟨g, 0, none⟩) 64 (64 + r.length) ((rootL ka kb E).set j d) := Bs.of_whole hW7 (by rw [List.length_set, rootL_len]) (by rw [List.take_left' (by rw [bts_len, List.length_set, rootL_len])]) (by omega) (by simpa [maxLen] using hr)
    generalize w6.setCell ⟨g, j, none⟩ (.int .u8 (bits .xor .u8 (z0.toNat : Int) (bits .or .u8 (x.toNat : Int) 1))) = w7 at hZ7 hc7 ⊢
    have HX7 := Lib.hid (HX5.out.keep hc7)
    have HY7 := Lib.hid (HY5.out.keep hc7)
    have HC7 := Lib.hid (HC5.out.new hc7)
    have HR7 := Lib.hid (HR5.out.keep hc7)
    have HO7 := Lib.hid (HO5.out.keep hc7)
    have HZ7 := Lib.hid hZ7
    clear hZ7 hc7 hW7 c0 f0 ho0 HX5 HY5 HC5 HR5 HO5 p1 p2 hjn hjI hjJ
    refine (read_none HZ7.out HNO.out).mono ?_
    rintro e w8 ⟨rfl, hc8⟩
    have HX8 := Lib.hid (HX7.out.keep hc8)
    have HY8 := Lib.hid (HY7.out.keep hc8)
    have HC8 := Lib.hid (HC7.out.new hc8)
    have HR8 := Lib.hid (HR7.out.keep hc8)
    have HO8 := Lib.hid (HO7.out.keep hc8)
    have HZ8 := Lib.hid (HZ7.out.keep hc8)
    clear hc8 HX7 HY7 HC7 HR7 HO7 HZ7
    go_wp2_with fail
    have hal : Chg [] w8 (w8.alloc (.cells #[.int .i64 0, .int .i64 0, .int .u32 0] 46)) := (Chg.refl [] w8).alloc _
    have HX9 := Lib.hid (HX8.out.keep hal)
    have HY9 := Lib.hid (HY8.out.keep hal)
    have HC9 := Lib.hid (HC8.out.new hal)
    have HR9 := Lib.hid (HR8.out.keep hal)
    have HO9 := Lib.hid (HO8.out.keep hal)
    have HZ9 := Lib.hid (HZ8.out.keep hal)
    generalize w8.alloc (.cells #[.int .i64 0, .int .i64 0, .int .u32 0] 46) = w9 at HX9 HY9 HC9 HR9 HO9 HZ9 ⊢
    clear hal HX8 HY8 HC8 HR8 HO8 HZ8
    refine new30.mono ?_
    rintro e w10 ⟨p, bL, bS, bW, rfl, hD10, b0, b1, b2, b3, hc10⟩
    have g1 := HR9.out.lt
    have g2 := HO9.out.lt
    have g3 := HC9.out.size
    have HX10 := Lib.hid (HX9.out.keep hc10)
    have HY10 := Lib.hid (HY9.out.keep hc10)
    have HC10 := Lib.hid (HC9.out.new hc10)
    have HR10 := Lib.hid (HR9.out.keep hc10)
    have HO10 := Lib.hid (HO9.out.keep hc10)
    have HZ10 := Lib.hid (HZ9.out.keep hc10)
    have HD10 := Lib.hid hD10
    have nS1 : ¬ g7 = bS := by omega
    have nS2 : ¬ g7 + 1 = bS := by omega
    have nW1 : ¬ g7 = bW := by omega
    have nW2 : ¬ g7 + 1 = bW := by omega
    have wS : w.heap.size ≤ bS := by omega
    have wW : w.heap.size ≤ bW := by omega
    have g4 := HY9.out.block_lt (by omega)
    have g5 := HZ9.out.block_lt (by omega)
    simp only at g4 g5
    have yS : ¬ gy = bS := by omega
    have yW : ¬ gy = bW := by omega
    have zS : ¬ g = bS := by omega
    have zW : ¬ g = bW := by omega
    clear hD10 hc10 g1 g2 g3 g4 g5 b0 b1 b2 b3 HX9 HY9 HC9 HR9 HO9 HZ9
    have hkI : (k : Int) < 2 := by omega
    obtain ⟨k', hk'⟩ : ∃ k', k' = 1 - k := ⟨_, rfl⟩
    have HK1 := Lib.hid (show (1 - (k : Int)) = (k' : Int) by omega)
    have HK2 := Lib.hid hk'
    have hk2 : k' < 2 := by omega
    clear hk'
    go_wp2_with fail
    refine (write_yes HD10.out k (by rw [falses_len]; omega) (x := rootL ka kb E) HX10.out.len HX10.out.src).mono ?_
    rintro e w11 ⟨rfl, hD11, hc11⟩
    have HD11 := Lib.hid hD11
    have HY11 := Lib.hid (HY10.out.away hc11 (fun ad e => by injection e with e; subst e; simp only [List.mem_cons, List.not_mem_nil, or_false]; omega))
    have HZ11 := Lib.hid (HZ10.out.away hc11 (fun ad e => by injection e with e; subst e; simp only [List.mem_cons, List.not_mem_nil, or_false]; omega))
    have HC11 := Lib.hid (HC10.out.then_ hc11 (fun i hi hlt => by simp only [List.mem_cons, List.not_mem_nil, or_false] at hi; omega))
    have HR11 := Lib.hid (HR10.out.chg hc11 (by simp only [List.mem_cons, List.not_mem_nil, or_false]; omega))
    have HO11 := Lib.hid (HO10.out.chg hc11 (by simp only [List.mem_cons, List.not_mem_nil, or_false]; omega))
    have HV1 := Lib.hid (show ((falses 30).set k true).length = 30 by rw [List.length_set, falses_len])
    clear hD11 hc11 HX10 HY10 HZ10 HC10 HR10 HO10 HD10
    obtain ⟨S1, hS1⟩ : ∃ S1, S1 = splice (zeros 1920) (k * 64) (rootL ka kb E) := ⟨_, rfl⟩
    rw [← hS1] at HD11
    have HS1 := Lib.hid hS1
    generalize (falses 30).set k true = V1 at HD11 HV1
    clear hS1
    go_wp2_with fail
    rw [HK1.out]
    refine (write_yes HD11.out k' (by rw [HV1.out]; omega) (x := rootL ka kb D) HY11.out.len HY11.out.src).mono ?_
    rintro e w12 ⟨rfl, hD12, hc12⟩
    have HD12 := Lib.hid hD12
    have HZ12 := Lib.hid (HZ11.out.away hc12 (fun ad e => by injection e with e; subst e; simp only [List.mem_cons, List.not_mem_nil, or_false]; omega))
    have HC12 := Lib.hid (HC11.out.then_ hc12 (fun i hi hlt => by simp only [List.mem_cons, List.not_mem_nil, or_false] at hi; omega))
    have HR12 := Lib.hid (HR11.out.chg hc12 (by simp only [List.mem_cons, List.not_mem_nil, or_false]; omega))
    have HO12 := Lib.hid (HO11.out.chg hc12 (by simp only [List.mem_cons, List.not_mem_nil, or_false]; omega))
    have HV2 := Lib.hid (show (V1.set k' true).length = 30 by rw [List.length_set, HV1.out])
    obtain ⟨S2, hS2⟩ : ∃ S2, S2 = splice S1 (k' * 64) (rootL ka kb D) := ⟨_, rfl⟩
    rw [← hS2] at HD12
    generalize V1.set k' true = V2 at HD12 HV2
    have l1 := HD11.out.lenS
    have l2 := HD12.out.lenS
    rw [HV1.out] at l1
    rw [HV2.out] at l2
    obtain ⟨q1, q2⟩ := back_best ka kb E D k k' ((rootL ka kb E).set j d) (by omega) (by omega) (by omega) (by omega) (by omega) (by omega) HK2.out (by rw [List.length_set, rootL_len]) HNO.out HS1.out hS2 l1 l2
    have HQ1 := Lib.hid q1
    have HQ2 := Lib.hid q2
    clear q1 q2 l1 l2 hS2 hD12 hc12 HY11 HZ11 HC11 HR11 HO11 HD11
    go_wp2_with fail
    refine (best_any HD12.out).mono ?_
    rintro e w13 ⟨rfl, hc13⟩
    rw [HV2.out, HQ1.out, show rootV ((⟨ka, kb, D⟩ : RV).log : Nat) ((⟨ka, kb, D⟩ : RV).pages : Nat) ((⟨ka, kb, D⟩ : RV).epoch : Nat) = .agg #[.int .i64 (ka : Int), .int .i64 (kb : Int), .int .u32 (D : Int)] from rfl, show decide (0 < (⟨ka, kb, D⟩ : RV).epoch) = true from decide_eq_true (by show 0 < D; omega)]
    have HD13 := Lib.hid (HD12.out.keep hc13)
    have HZ13 := Lib.hid (HZ12.out.keep hc13)
    have HC13 := Lib.hid (HC12.out.new hc13)
    have HR13 := Lib.hid (HR12.out.keep hc13)
    have HO13 := Lib.hid (HO12.out.keep hc13)
    clear hc13 HD12 HZ12 HC12 HR12 HO12
    go_wp2_with fail
    rw [HK1.out]
    have hM := Whole.new w13 46 [.int .i64 (ka : Int), .int .i64 (kb : Int), .int .u32 (D : Int)]
    have hal : Chg [] w13 (w13.alloc (.cells #[.int .i64 (ka : Int), .int .i64 (kb : Int), .int .u32 (D : Int)] 46)) := (Chg.refl [] w13).alloc _
    have s1 := HD13.out.seen.lt
    have s2 := HD13.out.wait.lt
    have s3 := HO13.out.lt
    have HD14 := Lib.hid (HD13.out.keep hal)
    have HZ14 := Lib.hid (HZ13.out.keep hal)
    have HC14 := Lib.hid (HC13.out.new hal)
    have HR14 := Lib.hid (HR13.out.keep hal)
    have HO14 := Lib.hid (HO13.out.keep hal)
    generalize w13.alloc (.cells #[.int .i64 (ka : Int), .int .i64 (kb : Int), .int .u32 (D : Int)] 46) = w14 at hM HD14 HZ14 HC14 HR14 HO14 ⊢
    obtain ⟨g24, hg24⟩ : ∃ g, g = w13.heap.size := ⟨_, rfl⟩
    rw [← hg24] at hM ⊢
    have t1 : ¬ g24 = bS := by omega
    have t2 : ¬ g24 = bW := by omega
    have t3 : ¬ g24 = g7 := by omega
    have t4 : ¬ g24 = g7 + 1 := by omega
    have HM14 := Lib.hid hM
    clear hM hal s1 s2 s3 hg24 HD13 HZ13 HC13 HR13 HO13
    refine (write_yes HD14.out k' (by rw [HV2.out]; omega) (x := (rootL ka kb E).set j d) HZ14.out.len HZ14.out.src).mono ?_
    rintro e w15 ⟨rfl, hD15, hc15⟩
    have HD15 := Lib.hid hD15
    have HC15 := Lib.hid (HC14.out.then_ hc15 (fun i hi hlt => by simp only [List.mem_cons, List.not_mem_nil, or_false] at hi; omega))
    have HR15 := Lib.hid (HR14.out.chg hc15 (by simp only [List.mem_cons, List.not_mem_nil, or_false]; omega))
    have HO15 := Lib.hid (HO14.out.chg hc15 (by simp only [List.mem_cons, List.not_mem_nil, or_false]; omega))
    have HM15 := Lib.hid (HM14.out.chg hc15 (by simp only [List.mem_cons, List.not_mem_nil, or_false]; omega))
    have HV3 := Lib.hid (show (V2.set k' true).length = 30 by rw [List.length_set, HV2.out])
    generalize V2.set k' true = V3 at HD15 HV3
    clear hD15 hc15 HD14 HC14 HR14 HO14 HM14 HZ14
    go_wp2_with fail
    refine (best_any HD15.out).mono ?_
    rintro e w16 ⟨rfl, hc16⟩
    rw [HV3.out, HQ2.out, show rootV ((⟨ka, kb, E⟩ : RV).log : Nat) ((⟨ka, kb, E⟩ : RV).pages : Nat) ((⟨ka, kb, E⟩ : RV).epoch : Nat) = .agg #[.int .i64 (ka : Int), .int .i64 (kb : Int), .int .u32 (E : Int)] from rfl, show decide (0 < (⟨ka, kb, E⟩ : RV).epoch) = true from decide_eq_true (by show 0 < E; omega)]
    have HC16 := Lib.hid (HC15.out.new hc16)
    have hR16 := HR15.out.keep hc16
    have hO16 := HO15.out.keep hc16
    have hM16 := HM15.out.keep hc16
    have n1 := hR16.lt
    have n2 := hO16.lt
    have n3 := hM16.lt
    have m1 : ¬ g7 = w16.heap.size := by omega
    have m2 : ¬ g7 + 1 = w16.heap.size := by omega
    have m3 : ¬ g24 = w16.heap.size := by omega
    obtain ⟨c0, c1, c2, _, _, _⟩ := root_cells hR16
    obtain ⟨d0, d1, d2, _, _, _⟩ := root_cells hO16
    obtain ⟨e0, e1, e2, _, _, _⟩ := root_cells hM16
    clear hc16 hR16 hO16 hM16
    go_wp2_with fail
    have hal : Chg [] w16 (w16.alloc (.cells #[.int .i64 (ka : Int), .int .i64 (kb : Int), .int .u32 (E : Int)] 46)) := (Chg.refl [] w16).alloc _
    have HC17 := Lib.hid (HC16.out.new hal)
    clear hal c0 c1 c2 d0 d1 d2 e0 e1 e2 m1 m2 m3 n1 n2 n3
    refine rknown_any.mono ?_
    rintro e w18 ⟨rfl, hc18⟩
    go_wp2_with fail
    go_ret
    exact ⟨rfl, HC17.out.new hc18⟩
end
end Go.Proofs.Yteodadngnlekfaa
