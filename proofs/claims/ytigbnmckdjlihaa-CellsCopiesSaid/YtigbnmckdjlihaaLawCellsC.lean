/-
  The walk of CellsCopies.
-/
import Derived.Test.YtigbnmckdjlihaaLawCellsB
import Derived.Test.YtigbnmckdjlihaaAsks
import Derived.StillTailTactics
namespace Go.Proofs.Ytigbnmckdjlihaa
open Go.RowKit
section
variable {w : World} {p gC gD : Nat} {L : List UInt8} {X : List Value} {V : List Bool} {Y : List Value} {most : Nat}
/-- A Store, whatever it answers. -/
def StAny (w : World) (p gC gD : Nat) (L : List UInt8) (X : List Value) (V : List Bool) (Y : List Value) (most : Nat) (e : Ending) (w' : World) : Prop :=
  ∃ b L' V', e = .returned (.bool b) ∧ Mm w' p gC gD L' X V' Y most ∧ L'.length = L.length ∧ V'.length = V.length ∧ Chg [gC, gD] w w'
theorem store_any (h : Mm w p gC gD L X V Y most) (r n : Int) (wide : Bool) :
    Calls Try.prog 21 #[.pointer (some ⟨p, 0, none⟩), .int .i64 r, .int .i64 n, .bool wide] w (StAny w p gC gD L X V Y most) := by
  obtain ⟨s, hs⟩ : ∃ s : Nat, s = if wide then 8 else 1 := ⟨_, rfl⟩
  by_cases hin : 0 ≤ r ∧ r + s ≤ L.length
  · obtain ⟨k, rfl⟩ := Int.eq_ofNat_of_zero_le hin.1
    refine (store_yes h k n wide s hs (by omega)).mono ?_
    rintro e w' ⟨rfl, hM, hc⟩
    exact ⟨true, _, _, rfl, hM, stL_len _ _ _ _, stV_len _ _ _, hc⟩
  · refine (store_no h r n wide s hs (by omega)).mono ?_
    rintro e w' ⟨rfl, rfl⟩
    exact ⟨false, L, V, rfl, h, rfl, rfl, Chg.refl _ _⟩
theorem new24 : Calls Try.prog 20 #[.int .i64 2, .int .i64 4] w (NewPost w (zeros 128) 2 4) := cnew_yes 2 4 (by omega) (by omega)
end
section
variable {w : World} {A : Option Addr} {n c : Nat}
set_option maxHeartbeats 4000000 in
set_option maxRecDepth 100000 in
theorem cellsCopies_any (h : Asks w A n) (hn : n ≤ 9223372036854775807) : Calls Try.prog 7 #[.slice A n c] w (LawPost w) := by
  have HA := Lib.hid h
  clear h
  go_enter Try.func7, Try.ntmps7
  go_wp2_with fail
  refine new24.mono ?_
  rintro e w1 ⟨p, gC, gD, rfl, hM, b0, b1, b2, hc1⟩
  have HM := Lib.hid hM
  have HC := Lib.hid hc1
  clear hM hc1
  go_wp2_with fail
  go_loopw [4] (fun i wr => ∃ k : Nat, k ≤ n ∧ k ≤ 20 ∧ i = .int .i64 (k : Int) ∧ (∃ L V, Mm wr p gC gD L [] V [] 4 ∧ L.length = 128 ∧ V.length = 2) ∧ Chg [] w wr) (fun i _ => 20 - (intOf i).toNat)
  case atStart => exact ⟨0, by omega, by omega, rfl, ⟨_, _, HM.out, zeros_len 128, falses_len 2⟩, HC.out⟩
  case round =>
    obtain ⟨k, hk, hk20, rfl, ⟨L, V, hM, hL, hV⟩, hc⟩ := hrel
    by_cases hgo : k < n ∧ k < 20
    · obtain ⟨hlt, h20⟩ := hgo
      obtain ⟨b, o, a, q, wd, rfl, hb, c1, c2, c3, _, _⟩ := (HA.out.below hc.below0) k hlt
      have HM1 := Lib.hid (hM.keep (Chg.refl [] wr).drew)
      have HL := Lib.hid hL
      have HV := Lib.hid hV
      have HC1 := Lib.hid hc
      have hki : (k : Int) < (n : Int) := by omega
      clear hM hL hV hc HM HC
      go_wp2_with fail
      go_still_tail 17, (by kernel_rfl)
      change wpList _ _ _ _ _ wr.drew
      go_wp2_with (go_at_call 21; refine (store_any HM1.out _ _ _).mono ?_; rintro e w3 ⟨b3, L3, V3, rfl, hM3, hL3, hV3, hc3⟩)
      go_roundw
      case rel =>
        have hL := HL.out
        have hV := HV.out
        have hz : wr.drew.heap.size = wr.heap.size := rfl
        refine ⟨k + 1, by omega, by omega, by go_num, ⟨L3, V3, hM3, by omega, by omega⟩, HC1.out.drew.then_ hc3 fun i hi hlt => ?_⟩
        simp only [List.mem_cons, List.not_mem_nil, or_false] at hi
        omega
      case measure => simp [intOf] <;> omega
    · have hend : n ≤ k ∨ (k < n ∧ 20 ≤ k) := by omega
      have HM := Lib.hid hM
      have HL := Lib.hid hL
      have HV := Lib.hid hV
      have HC := Lib.hid hc
      have HE := Lib.hid hend
      clear hM hL hV hc hgo hend
      have T := plainT_ok
      rcases HE.out with h0 | ⟨h0, h1⟩
      all_goals
        go_wp2_with fail
        refine (mbytes_any HM.out).mono ?_
        rintro e w2 ⟨v2, rfl, ho2, hc2⟩
        obtain ⟨A2, c2, rfl, hB2, _⟩ := Bs.of_own ho2
        have hS2 := hB2.str (P := Try.prog) 40 5 9 Try.underlying40 Try.underlying5 Try.underlying9
        have HM2 := Lib.hid (HM.out.keep hc2)
        have HC2 := Lib.hid (HC.out.new hc2)
        clear ho2 hB2 hc2
        go_wp2_with fail
        refine (mcopy_any HM2.out).mono ?_
        rintro e w3 ⟨q, qC, qD, rfl, hN3, d0, d1, d2, hc3⟩
        have HM3 := Lib.hid (HM2.out.keep hc3)
        have HN3 := Lib.hid hN3
        have HC3 := Lib.hid (HC2.out.new hc3)
        have HD := Lib.hid (show p < w2.heap.size ∧ gC < w2.heap.size ∧ gD < w2.heap.size from ⟨HM2.out.rec_.lt, HM2.out.cel.lt, HM2.out.dir.lt⟩)
        clear hS2 hN3 hc3
        go_wp2_with fail
        refine (mdirty_any HN3.out).mono ?_
        rintro e w4 ⟨v4, rfl, ho4, hc4⟩
        rw [HV.out, show trues (falses 2) (falses 2).length = [] from trues2] at ho4
        obtain ⟨A4, c4, rfl, _, _⟩ := own_slice ho4
        have HM4 := Lib.hid (HM3.out.keep hc4)
        have HN4 := Lib.hid (HN3.out.keep hc4)
        have HC4 := Lib.hid (HC3.out.new hc4)
        clear ho4 hc4
        go_wp2_with fail
        refine (mbytes_any HN4.out).mono ?_
        rintro e w5 ⟨v5, rfl, ho5, hc5⟩
        obtain ⟨A5, c5, rfl, hB5, _⟩ := Bs.of_own ho5
        have hS5 := hB5.str (P := Try.prog) 40 5 9 Try.underlying40 Try.underlying5 Try.underlying9
        have HM5 := Lib.hid (HM4.out.keep hc5)
        have HN5 := Lib.hid (HN4.out.keep hc5)
        have HC5 := Lib.hid (HC4.out.new hc5)
        clear ho5 hB5 hc5
        go_wp2_with fail
        refine (most_any HN5.out).mono ?_
        rintro e w' ⟨rfl, rfl⟩
        clear hS5
        go_wp2_with fail
        refine (grow_yes HN5.out 1 (by rw [falses_len, HV.out]; omega)).mono ?_
        rintro e w6 ⟨qC6, qD6, X6, Y6, rfl, hN6, hc6, o1, o2⟩
        have hz5 := HC5.out.size
        have hz3 := HC3.out.size
        have hs25 : w2.heap.size ≤ w5.heap.size := by have := HN5.out.rec_.lt; have := HD.out; omega
        have HQ := Lib.hid (show w2.heap.size ≤ q ∧ w2.heap.size ≤ qC6 ∧ w2.heap.size ≤ qD6 by omega)
        have HM6 := Lib.hid (HM5.out.away hc6 (by have := HD.out; simp only [List.mem_cons, List.not_mem_nil, or_false]; omega) (by have := HD.out; simp only [List.mem_cons, List.not_mem_nil, or_false]; omega) (by have := HD.out; simp only [List.mem_cons, List.not_mem_nil, or_false]; omega))
        have HC6 := Lib.hid (HC5.out.then_ hc6 fun i hi hlt => by have := HC2.out.size; simp only [List.mem_cons, List.not_mem_nil, or_false] at hi; omega)
        have HN6 := Lib.hid hN6
        have HL6 := Lib.hid (show (L ++ zeros (64 * 1)).length = 192 by rw [List.length_append, zeros_len, HL.out])
        have HV6 := Lib.hid (show (falses V.length ++ trs 1).length = 3 by rw [List.length_append, falses_len, trs_len, HV.out])
        clear hN6 hc6 o1 o2 hz5 hz3 d0 d1 d2
        go_wp2_with fail
        go_loopw [7] (fun i wr => ∃ k : Nat, k ≤ n ∧ k ≤ 20 ∧ i = .int .i64 (k : Int) ∧ (∃ L V, Mm wr q qC6 qD6 L X6 V Y6 4 ∧ L.length = 192 ∧ V.length = 3) ∧ Chg [qC6, qD6] w6 wr) (fun i _ => 20 - (intOf i).toNat)
        case atStart => exact ⟨0, by omega, by omega, rfl, ⟨_, _, HN6.out, HL6.out, HV6.out⟩, Chg.refl _ _⟩
        case round =>
          obtain ⟨k2, hk2, hk20', rfl, ⟨L7, V7, hN7, hL7, hV7⟩, hc7⟩ := hrel
          have HN7 := Lib.hid hN7
          have HL7 := Lib.hid hL7
          have HV7 := Lib.hid hV7
          have HC7 := Lib.hid hc7
          clear hN7 hL7 hV7 hc7
          by_cases hgo2 : k2 < n ∧ k2 < 20
          · obtain ⟨hlt, h20⟩ := hgo2
            obtain ⟨b, o, a, q7, wd, rfl, hb, e1, e2, e3, _, _⟩ := (HA.out.below (HC6.out.then_ HC7.out fun i hi hlt => by have := HQ.out; have := HC2.out.size; simp only [List.mem_cons, List.not_mem_nil, or_false] at hi; omega).below0) k2 hlt
            have HN8 := Lib.hid (HN7.out.keep (Chg.refl [] _).drew)
            go_wp2_with fail
            go_still_tail 18, (by kernel_rfl)
            change wpList _ _ _ _ _ (World.drew _)
            go_wp2_with (go_at_call 21; refine (store_any HN8.out _ _ _).mono ?_; rintro e w9 ⟨b9, L9, V9, rfl, hN9, hL9, hV9, hc9⟩)
            go_roundw
            case rel =>
              have hL := HL7.out
              have hV := HV7.out
              exact ⟨k2 + 1, by omega, by omega, by go_num, ⟨L9, V9, hN9, by omega, by omega⟩, HC7.out.drew.trans hc9⟩
            case measure => simp [intOf] <;> omega
          · have hend2 : n ≤ k2 ∨ (k2 < n ∧ 20 ≤ k2) := by omega
            have HM8 := Lib.hid (HM6.out.away HC7.out (by have := HD.out; have := HQ.out; simp only [List.mem_cons, List.not_mem_nil, or_false]; omega) (by have := HD.out; have := HQ.out; simp only [List.mem_cons, List.not_mem_nil, or_false]; omega) (by have := HD.out; have := HQ.out; simp only [List.mem_cons, List.not_mem_nil, or_false]; omega))
            have HC8 := Lib.hid (HC6.out.then_ HC7.out fun i hi hlt => by have := HQ.out; have := HC2.out.size; simp only [List.mem_cons, List.not_mem_nil, or_false] at hi; omega)
            have HE2 := Lib.hid hend2
            clear hgo2 hend2
            rcases HE2.out with g0 | ⟨g0, g1⟩
            all_goals first
              | (exfalso; omega)
              | (go_wp2_with fail
                 refine (mbytes_any HM8.out).mono ?_
                 rintro e w9 ⟨v9, rfl, ho9, hc9⟩
                 obtain ⟨A9, c9, rfl, hB9, _⟩ := Bs.of_own ho9
                 have hS9 := hB9.str (P := Try.prog) 40 5 9 Try.underlying40 Try.underlying5 Try.underlying9
                 have HM9 := Lib.hid (HM8.out.keep hc9)
                 have HN9 := Lib.hid (HN7.out.keep hc9)
                 have HC9 := Lib.hid (HC8.out.new hc9)
                 clear ho9 hB9 hc9
                 go_wp2_with fail
                 refine (pages_any HM9.out).mono ?_
                 rintro e w' ⟨rfl, rfl⟩
                 rw [HV.out]
                 clear hS9
                 go_wp2_with fail
                 refine (pages_any HN9.out).mono ?_
                 rintro e w' ⟨rfl, rfl⟩
                 rw [HV7.out]
                 go_wp2_with fail
                 refine cknown_any.mono ?_
                 rintro e w10 ⟨rfl, hc10⟩
                 go_wp2_with fail
                 go_ret
                 exact ⟨rfl, HC9.out.new hc10⟩)
end
end Go.Proofs.Ytigbnmckdjlihaa
