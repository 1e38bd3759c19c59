/-
  The law's words of layer 11: known; Same of numbers.
-/
import Derived.Test.YtigbnmckdjlihaaMmGrow
import Derived.Test.YtigbnmckdjlihaaMmStore
namespace Go.Proofs.Ytigbnmckdjlihaa
open Go.RowKit
theorem nms_get (l : List Int) (i : Nat) (h : i < l.length) : (nms l)[i]? = some (.int .i64 l[i]) := by simp [nms, h]
section
variable {w : World}
set_option maxHeartbeats 1000000 in
theorem isame_yes {A B : Option Addr} {n c d : Nat} {l : List Int} (hl : l.length = n) (hn : n ≤ 1000000) (ha : Src w A (nms l)) (hb : Src w B (nms l)) (hA : ∀ ad, A = some ad → ad.spot = none) (hB : ∀ ad, B = some ad → ad.spot = none) :
    Calls Try.prog 50 #[.slice A n c, .slice B n d] w (LawPost w) := by
  have HL := Lib.hid hl
  have HA := Lib.hid hA
  have HB := Lib.hid hB
  clear hl hA hB
  go_enter Try.func50, Try.ntmps50
  go_wp2_with fail
  go_loopw [5] (fun i wr => ∃ k : Nat, k ≤ n ∧ i = .int .i64 (k : Int) ∧ Chg [] w wr) (fun i _ => n - (intOf i).toNat)
  case atStart => exact ⟨0, Nat.zero_le _, rfl, Chg.refl _ _⟩
  case round =>
    obtain ⟨k, hk, rfl, hc⟩ := hrel
    by_cases hlt : k < n
    · have ha2 := ha.keep hc
      have hb2 := hb.keep hc
      obtain ⟨a1, rfl, _, hx⟩ := ha2 (by rw [nms_len, HL.out]; omega)
      obtain ⟨a2, rfl, _, hy⟩ := hb2 (by rw [nms_len, HL.out]; omega)
      have hx1 := hx k _ (nms_get l k (by rw [HL.out]; exact hlt))
      have hy1 := hy k _ (nms_get l k (by rw [HL.out]; exact hlt))
      clear hx hy
      obtain ⟨b1, o1, s1⟩ := a1
      obtain rfl : s1 = none := HA.out _ rfl
      obtain ⟨b2, o2, s2⟩ := a2
      obtain rfl : s2 = none := HB.out _ rfl
      rw [add_plain] at hx1 hy1
      generalize l[k]'(by rw [HL.out]; exact hlt) = q at hx1 hy1
      have hki : (k : Int) < (n : Int) := by omega
      go_wp2_with fail
      go_quiet (fail)
      go_wp2_with fail
      go_roundw
      case rel => exact ⟨k + 1, by omega, by go_num, hc.drewN _⟩
      case measure => simp [intOf]; omega
    · go_wp2_with fail
      go_ret
      exact ⟨rfl, hc⟩

theorem new12 : Calls Try.prog 20 #[.int .i64 1, .int .i64 2] w (NewPost w (zeros 64) 1 2) := cnew_yes 1 2 (by omega) (by omega)
theorem new21 : Calls Try.prog 20 #[.int .i64 2, .int .i64 1] w fun e w' => e = .returned (.pointer none) ∧ w = w' := cnew_no 2 1 (.inr (.inl (by omega)))
theorem st1 : ∃ L1 : List UInt8, L1 = stL (zeros 64) 56 (-2) 8 ∧ L1.length = 64 ∧ ldI L1 63 1 = 255 := ⟨_, rfl, by rw [stL_len, zeros_len], by rw [ldI_one _ _ _ (stL_get (zeros 64) 56 (-2) 8 7 (by omega) (by rw [zeros_len]; omega)), byteN_int]; decide⟩
section
variable {p gC gD : Nat} {L : List UInt8} {X : List Value} {V : List Bool} {Y : List Value} {most : Nat}
theorem load57 (h : Mm w p gC gD (zeros 64) X V Y most) : Calls Try.prog 30 #[.pointer (some ⟨p, 0, none⟩), .int .i64 57, .bool true] w fun e w' => e = .returned (.tuple #[.int .i64 0, .bool false]) ∧ w = w' :=
  load_no h 57 true 8 rfl (.inr (by rw [zeros_len]; decide))
theorem store56 (h : Mm w p gC gD (zeros 64) X (falses 1) Y most) : Calls Try.prog 21 #[.pointer (some ⟨p, 0, none⟩), .int .i64 56, .int .i64 (-2), .bool true] w fun e w' => e = .returned (.bool true) ∧ Mm w' p gC gD (stL (zeros 64) 56 (-2) 8) X [true] Y most ∧ Chg [gC, gD] w w' :=
  (store_yes h 56 (-2) true 8 rfl (by rw [zeros_len]; omega)).mono fun e w' ⟨h1, h2, h3⟩ => ⟨h1, h2, h3⟩
theorem load63 (h : Mm w p gC gD L X V Y most) (hl : L.length = 64) (h1 : ldI L 63 1 = 255) : Calls Try.prog 30 #[.pointer (some ⟨p, 0, none⟩), .int .i64 63, .bool false] w fun e w' => e = .returned (.tuple #[.int .i64 255, .bool true]) ∧ w = w' :=
  (load_yes h 63 false 1 rfl (by omega)).mono fun e w' h => by rw [h1] at h; exact h
theorem grow1 (h : Mm w p gC gD L X [true] Y 2) : Calls Try.prog 26 #[.pointer (some ⟨p, 0, none⟩), .int .i64 1] w fun e w' => ∃ gC' gD' X' Y', e = .returned (.int .i64 1) ∧ Mm w' p gC' gD' (L ++ zeros 64) X' [true, true] Y' 2 ∧ Chg [p, gC, gD] w w' ∧ (gC' = gC ∨ w.heap.size ≤ gC') ∧ (gD' = gD ∨ w.heap.size ≤ gD') :=
  grow_yes h 1 (by simp)
theorem grow1no (h : Mm w p gC gD L X [true, true] Y 2) : Calls Try.prog 26 #[.pointer (some ⟨p, 0, none⟩), .int .i64 1] w fun e w' => e = .returned (.int .i64 (-1)) ∧ w = w' :=
  grow_no h 1 (.inr (by decide))
theorem grow0 (h : Mm w p gC gD L X [true, true] Y 2) : Calls Try.prog 26 #[.pointer (some ⟨p, 0, none⟩), .int .i64 0] w fun e w' => ∃ gC' gD' X' Y', e = .returned (.int .i64 2) ∧ Mm w' p gC' gD' (L ++ []) X' [true, true] Y' 2 ∧ Chg [p, gC, gD] w w' ∧ (gC' = gC ∨ w.heap.size ≤ gC') ∧ (gD' = gD ∨ w.heap.size ≤ gD') :=
  grow_yes h 0 (by simp)
theorem dirty2 (h : Mm w p gC gD L X [true, true] Y 2) : Calls Try.prog 24 #[.pointer (some ⟨p, 0, none⟩)] w (OwnI w [0, 1]) := mdirty_any h
end
theorem make5 (W : World) : (Instr.makeSlice 40 (.int .i64 5) (.int .i64 5)).run Try.prog W = .ok (.slice (some ⟨W.heap.size, 0, none⟩) 5 5) (W.alloc (.cells (bts (zeros 5)).toArray 5)) := make_u8 5 (by omega) W
set_option maxHeartbeats 2000000 in
set_option maxRecDepth 100000 in
theorem cknown_any : Calls Try.prog 28 #[] w (LawPost w) := by
  have hmk := make5
  go_enter Try.func28, Try.ntmps28
  go_wp2_with fail
  refine new12.mono ?_
  rintro e w1 ⟨p, gC, gD, rfl, hM, b0, b1, b2, hc1⟩
  go_wp2_with fail
  refine new21.mono ?_
  rintro e w' ⟨rfl, rfl⟩
  go_wp2_with fail
  refine (cof_no (n := 5) (by omega) 9 (.inl (by decide))).mono ?_
  rintro e w' ⟨rfl, rfl⟩
  have hM2 := hM.keep ((Chg.refl [] w1).alloc (.cells (bts (zeros 5)).toArray 5))
  have hc2 := hc1.alloc (.cells (bts (zeros 5)).toArray 5)
  clear hM hc1 hmk
  generalize w1.alloc (.cells (bts (zeros 5)).toArray 5) = w2 at hM2 hc2 ⊢
  go_wp2_with fail
  refine (load57 hM2).mono ?_
  rintro e w' ⟨rfl, rfl⟩
  go_wp2_with fail
  refine (store56 hM2).mono ?_
  rintro e w3 ⟨rfl, hM3, hc3⟩
  obtain ⟨L1, hL1, l1, v1⟩ := st1
  rw [← hL1] at hM3
  have HL := Lib.hid l1
  have HV := Lib.hid v1
  have hc3' : Chg [] w w3 := hc2.then_ hc3 fun i hi hlt => by simp only [List.mem_cons, List.not_mem_nil, or_false] at hi; omega
  clear hL1 l1 v1 hM2 hc2 hc3
  go_wp2_with fail
  refine (load63 hM3 HL.out HV.out).mono ?_
  rintro e w' ⟨rfl, rfl⟩
  go_wp2_with fail
  refine (grow1 hM3).mono ?_
  rintro e w4 ⟨gC4, gD4, X4, Y4, rfl, hM4, hc4, q1, q2⟩
  have s3 := hc3'.size
  have hc4' : Chg [] w w4 := hc3'.then_ hc4 fun i hi hlt => by simp only [List.mem_cons, List.not_mem_nil, or_false] at hi; omega
  clear hM3 hc3' hc4
  go_wp2_with fail
  refine (grow1no hM4).mono ?_
  rintro e w' ⟨rfl, rfl⟩
  go_wp2_with fail
  refine (grow0 hM4).mono ?_
  rintro e w5 ⟨gC5, gD5, X5, Y5, rfl, hM5, hc5, q3, q4⟩
  have hc5' : Chg [] w w5 := hc4'.then_ hc5 fun i hi hlt => by simp only [List.mem_cons, List.not_mem_nil, or_false] at hi; omega
  clear hM4 hc4' hc5
  go_wp2_with fail
  refine (dirty2 hM5).mono ?_
  rintro e w6 ⟨v, rfl, ho, hc6⟩
  obtain ⟨A, c, rfl, hxl, hnc, hsr, hsp⟩ := own_slice ho
  have hM6 := hM5.keep hc6
  have hc6' := hc5'.new hc6
  have hsr2 := hsr.keep ((Chg.refl [] w6).alloc (.cells #[.int .i64 0, .int .i64 1] 3))
  have hs7 : Src (w6.alloc (.cells #[.int .i64 0, .int .i64 1] 3)) (some ⟨w6.heap.size, 0, none⟩) (nms [0, 1]) := Src.of_all (Whole.new w6 3 [.int .i64 0, .int .i64 1])
  have HSP := Lib.hid (fun ad h => (hsp ad h).1 : ∀ ad, A = some ad → ad.spot = none)
  have hM7 := hM6.keep ((Chg.refl [] w6).alloc (.cells #[.int .i64 0, .int .i64 1] 3))
  have hc7 := hc6'.alloc (.cells #[.int .i64 0, .int .i64 1] 3)
  clear hM5 hc5' ho hc6 hxl hsr hsp hM6 hc6'
  go_wp2_with fail
  refine (isame_yes (l := [0, 1]) rfl (by decide) hsr2 hs7 HSP.out (fun ad h => by cases h; rfl)).mono ?_
  rintro e w8 ⟨rfl, hc8⟩
  have hM8 := hM7.keep hc8
  have hc8' := hc7.new hc8
  clear hM7 hc7 hc8 hsr2 hs7
  go_wp2_with fail
  refine (most_any hM8).mono ?_
  rintro e w' ⟨rfl, rfl⟩
  go_wp2_with fail
  go_ret
  exact ⟨rfl, hc8'⟩
end
end Go.Proofs.Ytigbnmckdjlihaa
