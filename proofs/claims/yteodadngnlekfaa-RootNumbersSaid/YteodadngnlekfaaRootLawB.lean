/-
  Layer 5: the law's best.
-/
import Derived.Test.YteodadngnlekfaaRootLaw
import Derived.Test.YteodadngnlekfaaRootBestR
namespace Go.Proofs.Yteodadngnlekfaa
open Go.RowKit
section
variable {w : World}
set_option maxHeartbeats 1000000 in
theorem rnew_yes (k : Nat) (h1 : 1 ≤ k) (h2 : k ≤ 160) :
    Calls Try.prog 45 #[.int .i64 (k : Int)] w fun e w' => ∃ p gL gN gW rL rN m, e = .returned (.pointer (some ⟨p, 0, none⟩)) ∧ Rfd w' p gL gN gW rL rN m ⟨zeros (k * 64), zeros (k * 64), falses k⟩ ∧
      w.heap.size ≤ p ∧ w.heap.size ≤ gL ∧ w.heap.size ≤ gN ∧ w.heap.size ≤ gW ∧ Chg [] w w' := by
  have hd1 : decide ((k : Int) < 1) = false := by simp; omega
  have hd2 : decide (160 < (k : Int)) = false := by simp; omega
  have hmk : ∀ W : World, (Instr.makeSlice 22 (.int .i64 ((k : Int) * 64)) (.int .i64 ((k : Int) * 64))).run Try.prog W = .ok (.slice (some ⟨W.heap.size, 0, none⟩) (k * 64) (k * 64)) (W.alloc (.cells (bts (zeros (k * 64))).toArray 5)) :=
    fun W => by
      have := make_u8 (k * 64) (by omega) W
      simpa using this
  go_enter Try.func45, Try.ntmps45
  go_wp2_with (go_at_call 58; refine (rof_yes (l := zeros (k * 64)) (by simp [zeros]) (Src.of_all (Whole.new w _ _)) (by omega) (by omega) (by omega)).mono ?_; rintro e w1 ⟨p, gL, gN, gW, rL, rN, m, rfl, HD, b0, b1, b2, b3, HC⟩)
  go_ret
  rw [show k * 64 / 64 = k by omega] at HD
  have hs : (w.alloc (.cells (bts (zeros (k * 64))).toArray 5)).heap.size = w.heap.size + 1 := by simp
  exact ⟨p, gL, gN, gW, rL, rN, m, rfl, HD, by omega, by omega, by omega, by omega, ((Chg.refl [] w).alloc _).new HC⟩
variable {A B : Option Addr} {ca cb : Nat} {a b : List UInt8}
set_option maxHeartbeats 8000000 in
set_option maxRecDepth 100000 in
theorem lbest_any (hA : Bs w A 64 ca a) (hB : Bs w B 64 cb b) (k : Nat) (h1 : 1 ≤ k) (h2 : k ≤ 160) :
    Calls Try.prog 25 #[.int .i64 (k : Int), .slice A 64 ca, .slice B 64 cb] w (LawPost w) := by
  have HA := Lib.hid hA
  have HB := Lib.hid hB
  clear hA hB
  go_enter Try.func25, Try.ntmps25
  go_wp2_with fail
  refine (new_yes k h1 h2).mono ?_
  rintro e w1 ⟨p, bL, bS, bW, rfl, HD, b0, b1, b2, b3, hc1⟩
  go_wp2_with fail
  refine (rnew_yes k h1 h2).mono ?_
  rintro e w2 ⟨p2, gL, gN, gW, rL, rN, m, rfl, HR, d0, d1, d2, d3, hc2⟩
  have hD2 := HD.keep hc2
  have l0 := HD.rec_.lt
  have l1 := HD.last.lt
  have l2 := HD.seen.lt
  have l3 := HD.wait.lt
  have hsz1 := hc1.size
  have hc12 := hc1.new hc2
  have HD2 := Lib.hid hD2
  have HR2 := Lib.hid HR
  have HC2 := Lib.hid hc12
  have HZL := Lib.hid (zeros_len (k * 64))
  generalize zeros (k * 64) = Z at HD2 HR2 HZL
  have hpp : ¬ p = p2 := by omega
  clear HD HR hc1 hc2 hD2 hc12
  go_wp2_with fail
  refine (write_yes HD2.out 0 (by rw [falses_len]; omega) (x := a) HA.out.len (HA.out.keep HC2.out).src).mono ?_
  rintro e w3 ⟨rfl, HD3, hc3⟩
  have hn3 : Chg [] w w3 := HC2.out.then_ hc3 (fun i hi hlt => by simp only [List.mem_cons, List.not_mem_nil, or_false] at hi; omega)
  have HR3 := HR2.out.away hc3 (by simp; omega) (by simp; omega) (by simp; omega) (by simp; omega)
  have HN3 := Lib.hid hn3
  have HD3h := Lib.hid HD3
  have HR3h := Lib.hid HR3
  clear HD3 HR3 hc3 hn3
  go_wp2_with fail
  refine (rwrite_yes HR3h.out 0 (by show 0 < (falses k).length; rw [falses_len]; omega) (x := a) HA.out.len (HA.out.keep HN3.out).src (fun ad e => by
    obtain ⟨ad2, e2, hb2, _⟩ := HA.out.src (by rw [bts_len, HA.out.len]; omega)
    rw [e] at e2
    injection e2 with e2
    subst e2
    omega)).mono ?_
  rintro e w4 ⟨m4, rfl, HR4, hc4⟩
  have hn4 : Chg [] w w4 := HN3.out.then_ hc4 (fun i hi hlt => by simp only [List.mem_cons, List.not_mem_nil, or_false] at hi; omega)
  have HD4 := HD3h.out.away hc4 (by simp; omega) (by simp; omega) (by simp; omega) (by simp; omega)
  have HN4 := Lib.hid hn4
  have HD4h := Lib.hid HD4
  have HR4h := Lib.hid HR4
  clear HD4 HR4 hc4 hn4 HD3h HR3h
  rw [show (St.write ⟨Z, Z, falses k⟩ 0 a) = ⟨Z, splice Z (0 * 64) a, (falses k).set 0 true⟩ from rfl] at HR4h
  have HVL := Lib.hid (show ((falses k).set 0 true).length = k by rw [List.length_set, falses_len])
  generalize splice Z (0 * 64) a = S1 at HD4h HR4h
  generalize (falses k).set 0 true = V1 at HD4h HR4h HVL
  by_cases hk : 1 < k
  · go_wp2_with fail
    refine (write_yes HD4h.out 1 (by rw [HVL.out]; omega) (x := b) HB.out.len (HB.out.keep HN4.out).src).mono ?_
    rintro e w5 ⟨rfl, HD5, hc5⟩
    have hn5 : Chg [] w w5 := HN4.out.then_ hc5 (fun i hi hlt => by simp only [List.mem_cons, List.not_mem_nil, or_false] at hi; omega)
    have HR5 := HR4h.out.away hc5 (by simp; omega) (by simp; omega) (by simp; omega) (by simp; omega)
    have HN5 := Lib.hid hn5
    have HD5h := Lib.hid HD5
    have HR5h := Lib.hid HR5
    clear HD5 HR5 hc5 hn5
    go_wp2_with fail
    refine (rwrite_yes HR5h.out 1 (by show 1 < V1.length; rw [HVL.out]; omega) (x := b) HB.out.len (HB.out.keep HN5.out).src (fun ad e => by
      obtain ⟨ad2, e2, hb2, _⟩ := HB.out.src (by rw [bts_len, HB.out.len]; omega)
      rw [e] at e2
      injection e2 with e2
      subst e2
      omega)).mono ?_
    rintro e w6 ⟨m6, rfl, HR6, hc6⟩
    have hn6 : Chg [] w w6 := HN5.out.then_ hc6 (fun i hi hlt => by simp only [List.mem_cons, List.not_mem_nil, or_false] at hi; omega)
    have HD6 := HD5h.out.away hc6 (by simp; omega) (by simp; omega) (by simp; omega) (by simp; omega)
    have HN6 := Lib.hid hn6
    have HD6h := Lib.hid HD6
    have HR6h := Lib.hid HR6
    clear HD6 HR6 hc6 hn6 HD5h HR5h
    rw [show (St.write ⟨Z, S1, V1⟩ 1 b) = ⟨Z, splice S1 (1 * 64) b, V1.set 1 true⟩ from rfl] at HR6h
    have HV2 := Lib.hid (show (V1.set 1 true).length = k by rw [List.length_set, HVL.out])
    generalize splice S1 (1 * 64) b = S2 at HD6h HR6h
    generalize V1.set 1 true = V2 at HD6h HR6h HV2
    go_wp2_with fail
    refine (best_any HD6h.out).mono ?_
    rintro e w7 ⟨rfl, hc7⟩
    rw [HV2.out]
    have HR7 := Lib.hid (HR6h.out.keep hc7)
    have HN7 := Lib.hid (HN6.out.new hc7)
    obtain ⟨o, ho⟩ : ∃ o, o = bestK k S2 2 := ⟨_, rfl⟩
    rw [← ho]
    have HO := Lib.hid ho
    clear hc7 ho
    unfold rootV
    go_wp2_with fail
    have hN := Whole.new w7 46 [.int .i64 (o.log : Int), .int .i64 (o.pages : Int), .int .u32 (o.epoch : Int)]
    have hal : Chg [] w7 (w7.alloc (.cells #[.int .i64 (o.log : Int), .int .i64 (o.pages : Int), .int .u32 (o.epoch : Int)] 46)) := (Chg.refl [] w7).alloc _
    have HR8 := Lib.hid (HR7.out.keep hal)
    have HN8 := Lib.hid (HN7.out.new hal)
    generalize w7.alloc (.cells #[.int .i64 (o.log : Int), .int .i64 (o.pages : Int), .int .u32 (o.epoch : Int)] 46) = w8 at hN HR8 HN8 ⊢
    generalize w7.heap.size = g1 at hN ⊢
    clear hal
    refine (rbest_any HR8.out).mono ?_
    rintro e w9 ⟨rfl, hc9⟩
    simp only
    rw [HV2.out, ← HO.out]
    unfold rootV
    have hN2 := hN.keep hc9
    have hlt := hN2.lt
    have hne : ¬ w9.heap.size = g1 := by omega
    have hne2 : ¬ g1 = w9.heap.size := by omega
    obtain ⟨c0, c1, c2, _, _, _⟩ := root_cells hN2
    have HN9 := Lib.hid (HN8.out.new hc9)
    clear hN hN2 hc9
    go_wp2_with fail
    go_ret
    exact ⟨rfl, HN9.out.alloc _⟩
  · have hk1 : k = 1 := by omega
    go_wp2_with fail
    refine (write_no HD4h.out 1 B 64 cb (by rw [HVL.out]; omega)).mono ?_
    rintro e w' ⟨rfl, rfl⟩
    go_wp2_with fail
    refine (rwrite_no HR4h.out 1 B 64 cb (by show _ ∨ (V1.length : Int) ≤ 1 ∨ _; rw [HVL.out]; omega)).mono ?_
    rintro e w' ⟨rfl, rfl⟩
    have HD6h := HD4h
    have HR6h := HR4h
    have HN6 := HN4
    have HV2 := HVL
    clear HD4h HR4h HN4 HVL hk1
    generalize S1 = S2 at HD6h HR6h
    go_wp2_with fail
    refine (best_any HD6h.out).mono ?_
    rintro e w7 ⟨rfl, hc7⟩
    rw [HV2.out]
    have HR7 := Lib.hid (HR6h.out.keep hc7)
    have HN7 := Lib.hid (HN6.out.new hc7)
    obtain ⟨o, ho⟩ : ∃ o, o = bestK k S2 2 := ⟨_, rfl⟩
    rw [← ho]
    have HO := Lib.hid ho
    clear hc7 ho
    unfold rootV
    go_wp2_with fail
    have hN := Whole.new w7 46 [.int .i64 (o.log : Int), .int .i64 (o.pages : Int), .int .u32 (o.epoch : Int)]
    have hal : Chg [] w7 (w7.alloc (.cells #[.int .i64 (o.log : Int), .int .i64 (o.pages : Int), .int .u32 (o.epoch : Int)] 46)) := (Chg.refl [] w7).alloc _
    have HR8 := Lib.hid (HR7.out.keep hal)
    have HN8 := Lib.hid (HN7.out.new hal)
    generalize w7.alloc (.cells #[.int .i64 (o.log : Int), .int .i64 (o.pages : Int), .int .u32 (o.epoch : Int)] 46) = w8 at hN HR8 HN8 ⊢
    generalize w7.heap.size = g1 at hN ⊢
    clear hal
    refine (rbest_any HR8.out).mono ?_
    rintro e w9 ⟨rfl, hc9⟩
    simp only
    rw [HV2.out, ← HO.out]
    unfold rootV
    have hN2 := hN.keep hc9
    have hlt := hN2.lt
    have hne : ¬ w9.heap.size = g1 := by omega
    have hne2 : ¬ g1 = w9.heap.size := by omega
    obtain ⟨c0, c1, c2, _, _, _⟩ := root_cells hN2
    have HN9 := Lib.hid (HN8.out.new hc9)
    clear hN hN2 hc9
    go_wp2_with fail
    go_ret
    exact ⟨rfl, HN9.out.alloc _⟩
end
end Go.Proofs.Yteodadngnlekfaa
