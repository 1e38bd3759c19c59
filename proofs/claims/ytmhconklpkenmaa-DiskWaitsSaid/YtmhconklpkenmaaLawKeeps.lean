/-
  The walk of DiskKeeps.
-/
import Derived.Test.YtmhconklpkenmaaKeepsPure
import Derived.Test.YtmhconklpkenmaaLawOf
import Derived.Deep.DeepCutAuto
namespace Go.Proofs.Ytmhconklpkenmaa
open Go.RowKit

/-- 'string(b[o:o+n])' of a block that is known whole. -/
theorem str_part {w : World} {g : Nat} {X : List UInt8} (h : Whole w g 5 (bts X)) (o n c : Nat) (ho : o + n ≤ X.length) :
    (convert 28 9 (.slice (some ⟨g, o, none⟩) n c)).run Try.prog w = .ok (.string (strOf ((X.drop o).take n))) w := by
  have hs : Src w (some ⟨g, o, none⟩) (bts ((X.drop o).take n)) := by rw [← bts_cut]; exact Src.of_whole h o n
  have hl : ((X.drop o).take n).length = n := by rw [List.length_take, List.length_drop]; omega
  have := run_str 28 5 9 Try.underlying28 Try.underlying5 Try.underlying9 _ ((X.drop o).take n) c w hs (fun ad e => by injection e with e; subst e; rfl)
  rwa [hl] at this

theorem str_head {w : World} {g : Nat} {X : List UInt8} (h : Whole w g 5 (bts X)) (n c : Nat) (hn : n ≤ X.length) :
    (convert 28 9 (.slice (some ⟨g, 0, none⟩) n c)).run Try.prog w = .ok (.string (strOf (X.take n))) w := str_part h 0 n c (by omega)
theorem str_tail {w : World} {g : Nat} {X : List UInt8} (h : Whole w g 5 (bts X)) (n : Nat) (hm : X.length = 64) (_ : ¬ 64 = n) (hn : n ≤ 64) :
    (convert 28 9 (.slice (some ⟨g, n, none⟩) (64 - n) (64 - n))).run Try.prog w = .ok (.string (strOf (X.drop n))) w := by
  have := str_part h n (64 - n) (64 - n) (by omega)
  rwa [List.take_of_length_le (by rw [List.length_drop]; omega)] at this
theorem str_void {w : World} {g : Nat} {X : List UInt8} (h : Whole w g 5 (bts X)) (hm : X.length = 64) :
    (convert 28 9 (.slice (some ⟨g, 0, none⟩) 0 0)).run Try.prog w = .ok (.string (strOf (X.drop 64))) w := by
  have := str_part h 0 0 0 (by omega)
  rw [List.drop_of_length_le (by omega)]
  exact this
theorem whole_at {w : World} {g g' t : Nat} {cs : List Value} (h : Whole w g t cs) (e : g = g') : Whole w g' t cs := e ▸ h
theorem strOf_size (l : List UInt8) : (strOf l).size = l.length := by simp [strOf, ByteArray.size]
theorem strOf_app (l m : List UInt8) : strOf (l ++ m) = strOf l ++ strOf m := by
  apply ByteArray.ext
  simp [strOf]

section
variable {w : World}
set_option maxHeartbeats 3000000 in
set_option maxRecDepth 100000 in
theorem diskKeeps_any {A B C : Option Addr} {na nb nc ca cb cc : Nat} {a b : List UInt8} {cuts : List Int} (hla : a.length = na) (hsa : Src w A (bts a)) (hlb : b.length = nb) (hsb : Src w B (bts b))
    (hlc : cuts.length = nc) (hsc : Src w C (nms cuts)) (hC : 0 < nc → ∀ ad, C = some ad → ad.spot = none ∧ ad.block < w.heap.size) (hcr : ∀ n ∈ cuts, -9223372036854775808 ≤ n ∧ n ≤ 9223372036854775807) (hnc : nc ≤ 9223372036854775807)
    (m : Int) (hm0 : -9223372036854775808 ≤ m) (hm1 : m ≤ 9223372036854775807) :
    Calls Try.prog 5 #[.slice A na ca, .slice B nb cb, .slice C nc cc, .int .i64 m] w (LawPost w) := by
  have HLA := Lib.hid hla
  have HLB := Lib.hid hlb
  have HLC := Lib.hid hlc
  have HC := Lib.hid hC
  have HR := Lib.hid hcr
  clear hla hlb hlc hC hcr
  have hz : ∀ W : World, (Instr.makeSlice 28 (.int .i64 64) (.int .i64 64)).run Try.prog W = .ok (.slice (some ⟨W.heap.size, 0, none⟩) 64 64) (W.alloc (.cells (bts (zeros 64)).toArray 5)) := fun W => make_u8 64 (by omega) W
  go_enter Try.func5, Try.ntmps5
  go_wp2_with fail
  refine (new_int 4 (by omega) (by omega)).mono ?_
  rintro e w1 ⟨p, bL, bS, bW, rfl, hd, b0, b1, b2, b3, hc1⟩
  go_wp2_with fail
  refine (within_any m 0 3 (by omega) (by omega) (by omega) hm0 hm1).mono ?_
  rintro e w' ⟨r, ⟨r0, r1, _⟩, rfl, rfl⟩
  obtain ⟨k, rfl⟩ := Int.eq_ofNat_of_zero_le r0
  have hk4 : k < 4 := by omega
  go_wp2_with fail
  refine (lsector_any HLA.out (hsa.keep hc1)).mono ?_
  rintro e w2 ⟨rfl, hx2, hc2⟩
  go_wp2_with fail
  refine (lsector_any HLB.out (hsb.keep (hc1.new hc2))).mono ?_
  rintro e w3 ⟨rfl, hy3, hc3⟩
  have hX := Lib.hid (pad_len a)
  have hY := Lib.hid (pad_len b)
  generalize pad a = x at hx2 hX
  generalize pad b = y at hy3 hY
  have l1 := hd.rec_.lt
  have l2 := hd.last.lt
  have l3 := hd.seen.lt
  have l4 := hd.wait.lt
  have z2 := hc2.size
  have hx3 := hx2.keep hc3
  have hd3 : DskS w3 p bL bS bW (St.new 4) := Dsk.keep hd (hc2.new hc3)
  obtain ⟨gx, hgx⟩ : ∃ gx, gx = w1.heap.size := ⟨_, rfl⟩
  obtain ⟨gy, hgy⟩ : ∃ gy, gy = w2.heap.size := ⟨_, rfl⟩
  rw [← hgx] at hx3
  rw [← hgy] at hy3
  rw [← hgx, ← hgy]
  have x1 : bL < gx ∧ bS < gx ∧ bW < gx ∧ p < gx := by omega
  have y1 : gx ≤ gy := by omega
  have y2 : w.heap.size ≤ gx := by have := hc1.size; omega
  have ok3 : Chg [] w w3 := (hc1.new hc2).new hc3
  clear hgx hgy hx2 z2 l1 l2 l3 l4
  go_wp2_with fail
  refine (write_int hd3 0 (by omega) (by decide) hX.out (Src.of_all hx3)).mono ?_
  rintro e w4 ⟨rfl, hd4, hc4⟩
  have hx4 := hx3.chg hc4 (by simp; omega)
  have hy4 := hy3.chg hc4 (by simp; omega)
  have ok4 : Chg [] w w4 := ok3.then_ hc4 (by simp; omega)
  go_wp2_with fail
  refine (write_int hd4 1 (by omega) (by show (1 : Int) < (((falses 4).set 0 true).length : Int); decide) hX.out (Src.of_all hx4)).mono ?_
  rintro e w5 ⟨rfl, hd5, hc5⟩
  have hx5 := hx4.chg hc5 (by simp; omega)
  have hy5 := hy4.chg hc5 (by simp; omega)
  have ok5 : Chg [] w w5 := ok4.then_ hc5 (by simp; omega)
  have hd5 : DskS w5 p bL bS bW (kp2 x) := hd5
  clear hd3 hd4 hd
  go_wp2_with fail
  refine (flush_any hd5).mono ?_
  rintro e w6 ⟨rfl, hd6, hc6⟩
  have hx6 := hx5.chg hc6 (by simp; omega)
  have hy6 := hy5.chg hc6 (by simp; omega)
  have ok6 : Chg [] w w6 := ok5.then_ hc6 (by simp; omega)
  have hd6 : DskS w6 p bL bS bW (kp3 x) := by rw [← kp2_flush hX.out]; exact hd6
  clear hd5
  go_wp2_with fail
  refine (write_int hd6 k (by omega) (by show (k : Int) < ((falses 4).length : Int); rw [falses_len]; omega) hY.out (Src.of_all hy6)).mono ?_
  rintro e w7 ⟨rfl, hd7, hc7⟩
  have hx7 := hx6.chg hc7 (by simp; omega)
  have hy7 := hy6.chg hc7 (by simp; omega)
  have ok7 : Chg [] w w7 := ok6.then_ hc7 (by simp; omega)
  have hd7 : DskS w7 p bL bS bW (kp4 x y k) := hd7
  clear hd6
  go_wp2_with fail
  refine (crash_any hd7 (cuts := cuts) HLC.out (hsc.keep ok7) (fun h ad e => (HC.out (by rw [← HLC.out]; exact h) ad e).1) (fun h ad e => by have := (HC.out (by rw [← HLC.out]; exact h) ad e).2; simp; omega) hnc).mono ?_
  rintro e w8 ⟨rfl, hd8, hc8⟩
  have hx8 := hx7.chg hc8 (by simp; omega)
  have hy8 := hy7.chg hc8 (by simp; omega)
  have ok8 : Chg [] w w8 := ok7.then_ hc8 (by simp; omega)
  have hd9 : DskS w8 p bL bS bW (kp5 x y k (cutAt cuts 0)) := by
    have := hd8
    rw [show wl (kp4 x y k).V (kp4 x y k).V.length = [k] from kp4_wl hk4] at this
    exact this
  clear hd7 hd8
  have hsec := Lib.hid (fun j (hj : j < 4) => kp5_sec (n := cutAt cuts 0) hX.out hY.out hk4 (cutAt_le _ _) hj)
  have hsame := Lib.hid (kp5_same (n := cutAt cuts 0) hX.out hY.out hk4 (cutAt_le _ _))
  have hVV := Lib.hid (kp5_V (x := x) (y := y) (n := cutAt cuts 0) hk4)
  have hsc8 : Src w8 C (nms cuts) := hsc.keep ok8
  have hn64 := cutAt_le cuts 0
  generalize hS : kp5 x y k (cutAt cuts 0) = s5 at hd9 hsec hsame hVV
  clear hS
  have HN : Hid (∃ n, n = cutAt cuts 0) := Lib.hid ⟨_, rfl⟩
  obtain ⟨n, hn⟩ := HN.out
  have Hn := Lib.hid hn
  rw [← hn] at hsec hn64
  clear hn HN hd6 hx7 hx6 hx5 hx4 hx3 hy7 hy6 hy5 hy4 hy3 ok7 ok6 ok5 ok4 ok3 hc1 hc2 hc3 hc4 hc5 hc6 hc7 hc8
  go_upto_if 50 with fail
  go_cut [13] (fun s13 wx => s13 = .int .i64 (n : Int) ∧ wx = w8)
  case first =>
    by_cases h0 : 0 < nc
    · obtain ⟨ad, rfl, _, hy⟩ := hsc8 (by simp [nms]; have := HLC.out; omega)
      obtain ⟨z, hz0⟩ : ∃ z, cuts[0]? = some z := ⟨_, List.getElem?_eq_getElem (by have := HLC.out; omega)⟩
      have hy1 := hy 0 (.int .i64 z) (by simp [nms, hz0])
      clear hy
      obtain ⟨b2, o2, s2'⟩ := ad
      obtain rfl : s2' = none := (HC.out h0 _ rfl).1
      rw [add_plain, Nat.add_zero] at hy1
      have hzr := HR.out z (List.mem_of_getElem? hz0)
      have Hz := Lib.hid (show (n : Int) = min (max z 0) 64 by
        rw [Hn.out]
        unfold cutAt
        rw [dif_pos (by have := HLC.out; omega)]
        rw [List.getElem?_eq_getElem (by have := HLC.out; omega)] at hz0
        injection hz0 with hz0
        rw [hz0]
        omega)
      clear hz0
      obtain ⟨z0, z1⟩ := hzr
      go_wp2_with fail
      refine (within_any _ 0 64 (by omega) (by omega) (by omega) (by omega) (by omega)).mono ?_
      rintro e w' ⟨r, ⟨q0, q1, q2⟩, rfl, rfl⟩
      have hr := Lib.hid (q2 (by omega) (by omega))
      clear q2
      go_wp2_with fail
      go_meet
      exact ⟨by rw [hr.out, Hz.out]; congr 1; omega, rfl⟩
    · have h00 : nc ≤ 0 := by omega
      have Hz := Lib.hid (show (n : Int) = 0 by
        rw [Hn.out]
        unfold cutAt
        rw [dif_neg (by have := HLC.out; omega)]
        rfl)
      go_wp2_with fail
      go_meet
      exact ⟨by rw [Hz.out], rfl⟩
  case rest =>
    obtain ⟨rfl, rfl⟩ := hcut
    have hv4 := Lib.hid (show s5.V.length = 4 by rw [hVV.out]; exact falses_len 4)
    have hni : (n : Int) ≤ 64 := by omega
    go_wp2_with fail
    go_loopw [14] (fun i wr => ∃ j : Nat, j ≤ 4 ∧ i = .int .i64 (j : Int) ∧ DskS wr p bL bS bW s5 ∧ Whole wr gx 5 (bts x) ∧ Whole wr gy 5 (bts y) ∧ Chg [] w wr) (fun i _ => 4 - (intOf i).toNat)
    case atStart => exact ⟨0, by omega, rfl, hd9, hx8, hy8, ok8⟩
    case round =>
      obtain ⟨j, hj, rfl, hdj, hxj, hyj, okj⟩ := hrel
      by_cases hj4 : j < 4
      · have hall : ∀ o, Chg [] wr (wr.alloc o) := fun o => (Chg.refl [] wr).alloc o
        have hxr := hxj.keep (hall (.cells (bts (zeros 64)).toArray 5))
        have hyr := hyj.keep (hall (.cells (bts (zeros 64)).toArray 5))
        have hdr := Dsk.keep hdj (hall (.cells (bts (zeros 64)).toArray 5))
        have okr := okj.new (hall (.cells (bts (zeros 64)).toArray 5))
        have hzr := Whole.new wr 5 (bts (zeros 64))
        have hvx := str_whole hxr hX.out 64
        have hvz := str_whole hzr (zeros_len 64) 64
        clear hall
        have hsz := Lib.hid (show (wr.alloc (.cells (bts (zeros 64)).toArray 5)).heap.size = wr.heap.size + 1 by simp)
        by_cases hj2 : j < 2
        · by_cases hjk : j = k
          · subst hjk
            by_cases hn6 : n < 64
            · have hne : ¬ 64 = n := by omega
              have hya := fun q => str_head (hyr.drewN q) n 64 (by rw [hY.out]; omega)
              have hwa := fun q => str_tail (hxr.drewN q) n hX.out hne hn64
              have hy6 : (strOf (y.take n)).size ≤ 64 := by rw [strOf_size, List.length_take, hY.out]; omega
              have hw6 : (strOf (x.drop n)).size ≤ 64 := by rw [strOf_size, List.length_drop, hX.out]; omega
              have HK := Lib.hid (show kwant x y j n j = y.take n ++ x.drop n by unfold kwant kwas; rw [if_pos rfl, if_pos hj2])
              have HKL := Lib.hid (show (y.take n ++ x.drop n).length = 64 by rw [List.length_append, List.length_take, List.length_drop, hY.out, hX.out]; omega)
              go_wp2_with fail
              go_quiet (fail)
              go_wp2_with fail
              refine (read_int (s := s5) (Dsk.keep hdr ((Chg.refl _ _).drewN _)) j (by omega) (by rw [hv4.out]; omega)).mono ?_
              rintro e wq ⟨rfl, hR, hcq⟩
              rw [Int.toNat_natCast, hsec.out j hj4, HK.out] at hR
              have hR2 := whole_at hR hsz.out
              have hvq := str_whole hR2 HKL.out 64
              rw [strOf_app] at hvq
              have hdq := Dsk.keep (Dsk.keep hdr ((Chg.refl _ _).drewN _)) hcq
              have hxq := (hxr.drewN _).keep hcq
              have hyq := (hyr.drewN _).keep hcq
              have okq := (okr.drewN _).new hcq
              clear hR hR2
              go_wp2_with fail
              go_roundw
              case rel => exact ⟨j + 1, by omega, by go_num, hdq, hxq, hyq, okq⟩
              case measure => simp [intOf]; omega
            · obtain rfl : n = 64 := by omega
              have hya := fun q => str_head (hyr.drewN q) 64 64 (by rw [hY.out]; omega)
              have hwa := fun q => str_void (hxr.drewN q) hX.out
              have hy6 : (strOf (y.take 64)).size ≤ 64 := by rw [strOf_size, List.length_take, hY.out]; omega
              have hw6 : (strOf (x.drop 64)).size ≤ 64 := by rw [strOf_size, List.length_drop, hX.out]; omega
              have HK := Lib.hid (show kwant x y j 64 j = y.take 64 ++ x.drop 64 by unfold kwant kwas; rw [if_pos rfl, if_pos hj2])
              have HKL := Lib.hid (show (y.take 64 ++ x.drop 64).length = 64 by rw [List.length_append, List.length_take, List.length_drop, hY.out, hX.out]; omega)
              go_wp2_with fail
              go_quiet (fail)
              go_wp2_with fail
              refine (read_int (s := s5) (Dsk.keep hdr ((Chg.refl _ _).drewN _)) j (by omega) (by rw [hv4.out]; omega)).mono ?_
              rintro e wq ⟨rfl, hR, hcq⟩
              rw [Int.toNat_natCast, hsec.out j hj4, HK.out] at hR
              have hR2 := whole_at hR hsz.out
              have hvq := str_whole hR2 HKL.out 64
              rw [strOf_app] at hvq
              have hdq := Dsk.keep (Dsk.keep hdr ((Chg.refl _ _).drewN _)) hcq
              have hxq := (hxr.drewN _).keep hcq
              have hyq := (hyr.drewN _).keep hcq
              have okq := (okr.drewN _).new hcq
              clear hR hR2
              go_wp2_with fail
              go_roundw
              case rel => (repeat apply Exists.intro); exact ⟨⟨j + 1, by omega, by go_num, hdq, hxq, hyq, okq⟩, rfl⟩
              case measure => simp [intOf]; omega
          · have HK := Lib.hid (show kwant x y k n j = x by unfold kwant kwas; rw [if_neg hjk, if_pos hj2])
            have HKL := hX
            have hjb : ((j : Int) == (k : Int)) = false := by simp; omega
            go_wp2_with fail
            refine (read_int hdr j (by omega) (by rw [hv4.out]; omega)).mono ?_
            rintro e wq ⟨rfl, hR, hcq⟩
            rw [Int.toNat_natCast, hsec.out j hj4, HK.out, hsz.out] at hR
            have hvq := str_whole hR HKL.out 64
            have hdq := Dsk.keep hdr hcq
            have hxq := hxr.keep hcq
            have hyq := hyr.keep hcq
            have okq := okr.new hcq
            clear hR
            go_wp2_with fail
            go_roundw
            case rel => exact ⟨j + 1, by omega, by go_num, hdq, hxq, hyq, okq⟩
            case measure => simp [intOf]; omega

        · by_cases hjk : j = k
          · subst hjk
            by_cases hn6 : n < 64
            · have hne : ¬ 64 = n := by omega
              have hya := fun q => str_head (hyr.drewN q) n 64 (by rw [hY.out]; omega)
              have hwa := fun q => str_tail (hzr.drewN q) n (zeros_len 64) hne hn64
              have hy6 : (strOf (y.take n)).size ≤ 64 := by rw [strOf_size, List.length_take, hY.out]; omega
              have hw6 : (strOf ((zeros 64).drop n)).size ≤ 64 := by rw [strOf_size, List.length_drop, zeros_len 64]; omega
              have HK := Lib.hid (show kwant x y j n j = y.take n ++ (zeros 64).drop n by unfold kwant kwas; rw [if_pos rfl, if_neg hj2])
              have HKL := Lib.hid (show (y.take n ++ (zeros 64).drop n).length = 64 by rw [List.length_append, List.length_take, List.length_drop, hY.out, zeros_len 64]; omega)
              go_wp2_with fail
              go_quiet (fail)
              go_wp2_with fail
              refine (read_int (s := s5) (Dsk.keep hdr ((Chg.refl _ _).drewN _)) j (by omega) (by rw [hv4.out]; omega)).mono ?_
              rintro e wq ⟨rfl, hR, hcq⟩
              rw [Int.toNat_natCast, hsec.out j hj4, HK.out] at hR
              have hR2 := whole_at hR hsz.out
              have hvq := str_whole hR2 HKL.out 64
              rw [strOf_app] at hvq
              have hdq := Dsk.keep (Dsk.keep hdr ((Chg.refl _ _).drewN _)) hcq
              have hxq := (hxr.drewN _).keep hcq
              have hyq := (hyr.drewN _).keep hcq
              have okq := (okr.drewN _).new hcq
              clear hR hR2
              go_wp2_with fail
              go_roundw
              case rel => exact ⟨j + 1, by omega, by go_num, hdq, hxq, hyq, okq⟩
              case measure => simp [intOf]; omega
            · obtain rfl : n = 64 := by omega
              have hya := fun q => str_head (hyr.drewN q) 64 64 (by rw [hY.out]; omega)
              have hwa := fun q => str_void (hzr.drewN q) (zeros_len 64)
              have hy6 : (strOf (y.take 64)).size ≤ 64 := by rw [strOf_size, List.length_take, hY.out]; omega
              have hw6 : (strOf ((zeros 64).drop 64)).size ≤ 64 := by rw [strOf_size, List.length_drop, zeros_len 64]; omega
              have HK := Lib.hid (show kwant x y j 64 j = y.take 64 ++ (zeros 64).drop 64 by unfold kwant kwas; rw [if_pos rfl, if_neg hj2])
              have HKL := Lib.hid (show (y.take 64 ++ (zeros 64).drop 64).length = 64 by rw [List.length_append, List.length_take, List.length_drop, hY.out, zeros_len 64]; omega)
              go_wp2_with fail
              go_quiet (fail)
              go_wp2_with fail
              refine (read_int (s := s5) (Dsk.keep hdr ((Chg.refl _ _).drewN _)) j (by omega) (by rw [hv4.out]; omega)).mono ?_
              rintro e wq ⟨rfl, hR, hcq⟩
              rw [Int.toNat_natCast, hsec.out j hj4, HK.out] at hR
              have hR2 := whole_at hR hsz.out
              have hvq := str_whole hR2 HKL.out 64
              rw [strOf_app] at hvq
              have hdq := Dsk.keep (Dsk.keep hdr ((Chg.refl _ _).drewN _)) hcq
              have hxq := (hxr.drewN _).keep hcq
              have hyq := (hyr.drewN _).keep hcq
              have okq := (okr.drewN _).new hcq
              clear hR hR2
              go_wp2_with fail
              go_roundw
              case rel => (repeat apply Exists.intro); exact ⟨⟨j + 1, by omega, by go_num, hdq, hxq, hyq, okq⟩, rfl⟩
              case measure => simp [intOf]; omega
          · have HK := Lib.hid (show kwant x y k n j = zeros 64 by unfold kwant kwas; rw [if_neg hjk, if_neg hj2])
            have HKL := Lib.hid (zeros_len 64)
            have hjb : ((j : Int) == (k : Int)) = false := by simp; omega
            go_wp2_with fail
            refine (read_int hdr j (by omega) (by rw [hv4.out]; omega)).mono ?_
            rintro e wq ⟨rfl, hR, hcq⟩
            rw [Int.toNat_natCast, hsec.out j hj4, HK.out, hsz.out] at hR
            have hvq := str_whole hR HKL.out 64
            have hdq := Dsk.keep hdr hcq
            have hxq := hxr.keep hcq
            have hyq := hyr.keep hcq
            have okq := okr.new hcq
            clear hR
            go_wp2_with fail
            go_roundw
            case rel => exact ⟨j + 1, by omega, by go_num, hdq, hxq, hyq, okq⟩
            case measure => simp [intOf]; omega

      · have hdE : Dsk wr p bL bS bW s5.L s5.L (falses 4) := by
          have h := hdj
          unfold DskS at h
          rw [← hsame.out, hVV.out] at h
          exact h
        generalize s5.L = X at hdE
        go_wp2_with fail
        go_region_with (first
          | (go_at_call 10; refine (waits_none (hdE.keep ?_)).mono ?_; · (repeat (first | exact Chg.refl _ _ | apply Chg.drew))
             rintro e wA ⟨A4, c4, rfl, hcA⟩)
          | (go_at_call 19; refine (image_any (hdE.keep ?_)).mono ?_; · (repeat (first | exact Chg.refl _ _ | apply Chg.drew | refine Chg.new ?_ hcA))
             rintro e wI ⟨rfl, hI, hcI⟩
             have hvI := str_whole hI rfl X.length)
          | (go_at_call 20; refine (seen_any (hdE.keep ?_)).mono ?_; · (repeat (first | exact Chg.refl _ _ | apply Chg.drew | refine Chg.new ?_ hcI | refine Chg.new ?_ hcA))
             rintro e wS ⟨rfl, hS, hcS⟩
             have hvI2 := str_whole (hI.keep hcS) rfl X.length
             have hvS := str_whole hS rfl X.length)
          | (go_at_call 12; refine (known_any).mono ?_; rintro e wK ⟨rfl, hcK⟩))
        all_goals (go_wp2_with fail; go_ret; exact ⟨rfl, (((okj.drew.new hcA).new hcI).new hcS).new hcK⟩)
end
end Go.Proofs.Ytmhconklpkenmaa
