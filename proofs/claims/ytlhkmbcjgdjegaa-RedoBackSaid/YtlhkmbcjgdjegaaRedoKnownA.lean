/-
  Layer 16: known.
-/
import Derived.Test.YtlhkmbcjgdjegaaRedoKnown
import Derived.Test.YtlhkmbcjgdjegaaKcAt
namespace Go.Proofs.Ytlhkmbcjgdjegaa
open Go.RowKit
section
variable {w : World}
set_option maxHeartbeats 2000000 in
set_option maxRecDepth 100000 in
theorem rdknown_any : Calls Try.prog 35 #[] w (LawPost w) := by
  go_enter Try.func35, Try.ntmps35
  go_wp2_with fail
  refine (new_yes 8 (by omega) (by omega)).mono ?_
  rintro e w1 ⟨p, bL, bS, bW, rfl, hD, b1, b2, b3, b4, hc1⟩
  have hD0 : DskS w1 p bL bS bW rk0 := hD
  have HB := Lib.hid (show bS < w1.heap.size ∧ bW < w1.heap.size from ⟨hD.seen.lt, hD.wait.lt⟩)
  have HB0 := Lib.hid (show w.heap.size ≤ bS ∧ w.heap.size ≤ bW from ⟨b3, b4⟩)
  have HD1 := Lib.hid hD0
  have HC1 := Lib.hid hc1
  clear hD hD0 b1 b2 b3 b4 hc1
  go_upto_region 5 with fail
  have hR := Whole.new w1 26 [.int .i64 2, .int .i64 3, .int .u32 4]
  have hc2 : Chg [] w1 (w1.alloc (.cells #[.int .i64 2, .int .i64 3, .int .u32 4] 26)) := (Chg.refl [] w1).alloc _
  obtain ⟨g, hg⟩ : ∃ g, g = w1.heap.size := ⟨_, rfl⟩
  rw [← hg] at hR ⊢
  generalize w1.alloc (.cells #[.int .i64 2, .int .i64 3, .int .u32 4] 26) = w2 at hc2 hR ⊢
  have HG := Lib.hid (show g ≠ bS ∧ g ≠ bW by have := HB.out; omega)
  have HB2 := Lib.hid (show bS < w2.heap.size ∧ bW < w2.heap.size by have := HB.out; have := hc2.size; omega)
  have HR2 := Lib.hid hR
  have HD2 := Lib.hid (Dsk.keep HD1.out hc2)
  have HC2 := Lib.hid (HC1.out.new hc2)
  clear hg hc2 HB
  obtain ⟨c0, c1, c2, _, _, _⟩ := root_cells hR
  clear hR
  go_wp2_with fail
  refine (rec_k HD2.out).mono ?_
  rintro e w3 ⟨A3, q3, rfl, hc3⟩
  have HD3 := Lib.hid (Dsk.keep HD2.out hc3)
  have HR3 := Lib.hid (HR2.out.keep hc3)
  have HC3 := Lib.hid (HC2.out.new hc3)
  have HB3 := Lib.hid (show bS < w3.heap.size ∧ bW < w3.heap.size by have := HB2.out; have := hc3.size; omega)
  clear hc3 c0 c1 c2
  obtain ⟨c0, c1, c2, _, _, _⟩ := root_cells HR3.out
  have hcv3 := fun C n c => kc_at w3 rfl C n c
  go_wp2_with fail
  have hX3 : Bs (w3.alloc (.cells #[.int .u8 97, .int .u8 99, .int .u8 114, .int .u8 111, .int .u8 115, .int .u8 115] 5 (6, 7))) (some ⟨w3.heap.size, 0, none⟩) 6 6 acr := by
    rw [← acr_cells]; exact bs_const w3 5 acr (6, 7) (by decide)
  have hal3 : Chg [] w3 (w3.alloc (.cells #[.int .u8 97, .int .u8 99, .int .u8 114, .int .u8 111, .int .u8 115, .int .u8 115] 5 (6, 7))) := (Chg.refl [] w3).alloc _
  refine (app_k1 (Dsk.keep HD3.out hal3) hX3 (by have := HB3.out; omega)).mono ?_
  rintro e w4 ⟨rfl, hD4, hc4⟩
  have HD4 := Lib.hid hD4
  have HR4 := Lib.hid ((HR3.out.keep hal3).chg hc4 (not2' HG.out.1 HG.out.2))
  have HC4 := Lib.hid ((HC3.out.new hal3).then_ hc4 fun i hi hlt => by
    rcases (by simpa using hi : i = bS ∨ i = bW) with e | e
    · have := HB0.out.1; omega
    · have := HB0.out.2; omega)
  have HB4 := Lib.hid (show bS < w4.heap.size ∧ bW < w4.heap.size by have := HB3.out; have := hal3.size; have := hc4.size; omega)
  clear hX3 hal3 hD4 hc4 c0 c1 c2
  obtain ⟨c0, c1, c2, _, _, _⟩ := root_cells HR4.out
  go_wp2_with fail
  refine (rbytes_any HD4.out 2 3 4).mono ?_
  rintro e w5 ⟨v5, rfl, ho5, hc5⟩
  rw [rk1_log] at ho5
  obtain ⟨gb, rb, rfl, -, hWb, hcap⟩ := own_whole ho5 (by decide)
  have hl128 : (zeros 60 ++ acr ++ zeros 62).length = 128 := by decide
  rw [hl128] at hcap ⊢
  unfold maxLen at hcap
  obtain ⟨cb, hcb⟩ : ∃ c, c = 128 + rb.length := ⟨_, rfl⟩
  rw [← hcb] at hcap ⊢
  have hcb1 : 128 ≤ cb := by omega
  have HP := Lib.hid (Bs.of_whole (n := 128) (cap := cb) hWb hl128 (by rw [List.take_left' (by rw [bts_len, hl128])]) hcb1 hcap)
  have hcb2 : ¬ cb = 60 := by omega
  have hcut := HP.out.cut (lo := 60) (hi := 66) (by omega) (by omega)
  rw [if_neg hcb2, Option.map_some, add_plain, show ((zeros 60 ++ acr ++ zeros 62).drop 60).take (66 - 60) = acr by decide +kernel] at hcut
  have hs := hcut.str (P := Try.prog) 22 5 9 Try.underlying22 Try.underlying5 Try.underlying9
  have HD5 := Lib.hid (Dsk.keep HD4.out hc5)
  have HR5 := Lib.hid (HR4.out.keep hc5)
  have HC5 := Lib.hid (HC4.out.new hc5)
  have HB5 := Lib.hid (show bS < w5.heap.size ∧ bW < w5.heap.size by have := HB4.out; have := hc5.size; omega)
  clear hWb hcb ho5 hcut hc5 c0 c1 c2 hl128
  obtain ⟨c0, c1, c2, _, _, _⟩ := root_cells HR5.out
  have hcb3 : ¬ cb < 66 := by omega
  have hse : (strOf acr).toList = [97, 99, 114, 111, 115, 115] := by decide +kernel
  clear hcv3
  go_wp2_with fail
  refine (waits_any HD5.out).mono ?_
  rintro e w6 ⟨v6, rfl, ho6, hc6⟩
  rw [rk1_wl] at ho6
  obtain ⟨A6, c6, rfl, _, _, hs6, hp6⟩ := own_slice ho6
  have HS6 := Lib.hid hs6
  have HP6 := Lib.hid hp6
  have HD6 := Lib.hid (Dsk.keep HD5.out hc6)
  have HR6 := Lib.hid (HR5.out.keep hc6)
  have HC6 := Lib.hid (HC5.out.new hc6)
  have HB6 := Lib.hid (show bS < w6.heap.size ∧ bW < w6.heap.size by have := HB5.out; have := hc6.size; omega)
  clear hs6 hp6 ho6 hc6 c0 c1 c2 hse hs
  go_wp2_with fail
  have hX6 := Whole.new w6 3 (nmsN [2, 3])
  rw [two_cells] at hX6
  have hal6 : Chg [] w6 (w6.alloc (.cells #[.int .i64 2, .int .i64 3] 3)) := (Chg.refl [] w6).alloc _
  refine (same_yes (l := [2, 3]) rfl (by decide) (HS6.out.keep hal6) (Src.of_all hX6) (fun ad e => (HP6.out ad e).1) (fun ad e => by injection e with e; subst e; rfl)).mono ?_
  rintro e w7 ⟨rfl, hc7⟩
  have HD7 := Lib.hid (Dsk.keep (Dsk.keep HD6.out hal6) hc7)
  have HR7 := Lib.hid ((HR6.out.keep hal6).keep hc7)
  have HC7 := Lib.hid ((HC6.out.new hal6).new hc7)
  have HB7 := Lib.hid (show bS < w7.heap.size ∧ bW < w7.heap.size by have := HB6.out; have := hal6.size; have := hc7.size; omega)
  clear hX6 hal6 hc7
  obtain ⟨c0, c1, c2, _, _, _⟩ := root_cells HR7.out
  have hcv7 := fun C n c => kc_at w7 rfl C n c
  go_wp2_with fail
  have hX7 : Bs (w7.alloc (.cells #[.int .u8 120] 5 (1, 2))) (some ⟨w7.heap.size, 0, none⟩) 1 1 [120] := by
    rw [← x_cells]; exact bs_const w7 5 [120] (1, 2) (by decide)
  have hal7 : Chg [] w7 (w7.alloc (.cells #[.int .u8 120] 5 (1, 2))) := (Chg.refl [] w7).alloc _
  refine (app_k2 (Dsk.keep HD7.out hal7) hX7 (by have := HB7.out; omega)).mono ?_
  rintro e w8 ⟨rfl, hc8⟩
  have HD8 := Lib.hid (Dsk.keep (Dsk.keep HD7.out hal7) hc8)
  have HR8 := Lib.hid ((HR7.out.keep hal7).keep hc8)
  have HC8 := Lib.hid ((HC7.out.new hal7).new hc8)
  clear hX7 hal7 hc8 c0 c1 c2 hcv7
  obtain ⟨c0, c1, c2, _, _, _⟩ := root_cells HR8.out
  go_wp2_with fail
  refine (app_k3 HD8.out).mono ?_
  rintro e w9 ⟨rfl, hD9, hc9⟩
  have HD9 := Lib.hid hD9
  have HR9 := Lib.hid (HR8.out.chg hc9 (not2' HG.out.1 HG.out.2))
  have HC9 := Lib.hid (HC8.out.then_ hc9 fun i hi hlt => by
    rcases (by simpa using hi : i = bS ∨ i = bW) with e | e
    · have := HB0.out.1; omega
    · have := HB0.out.2; omega)
  clear hD9 hc9 c0 c1 c2
  go_wp2_with fail
  refine (rbytes_any HD9.out 0 0 0).mono ?_
  rintro e wa ⟨va, rfl, hoa, hca⟩
  rw [rk1_zero] at hoa
  obtain ⟨Aa, ca, rfl, _⟩ := own_slice hoa
  have HRa := Lib.hid (HR9.out.keep hca)
  have HCa := Lib.hid (HC9.out.new hca)
  clear hoa hca
  obtain ⟨c0, c1, c2, _, _, _⟩ := root_cells HRa.out
  go_wp2_with fail
  refine (app_nil 2 3 4 0 none 0 0).mono ?_
  rintro e wb ⟨rfl, hcb⟩
  have HCb := Lib.hid (HCa.out.new hcb)
  clear hcb c0 c1 c2
  go_wp2_with fail
  go_ret
  exact ⟨rfl, HCb.out⟩
end
end Go.Proofs.Ytlhkmbcjgdjegaa
