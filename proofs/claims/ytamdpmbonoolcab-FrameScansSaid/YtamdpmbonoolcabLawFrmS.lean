/-
  The walk of FrameScans.
-/
import Derived.Test.YtamdpmbonoolcabKnownFrm
import Derived.Test.YtamdpmbonoolcabInto
namespace Go.Proofs.Ytamdpmbonoolcab
open Go.RowKit

/-- FrameScans' own row: the frames 0 .. i - 1, number g of another epoch. -/
def fAt (ep ep1 g j : Nat) : List UInt8 := frameL (if j = g then ep1 else ep) j [UInt8.ofNat j]
def fRow (ep ep1 g : Nat) : Nat → List UInt8
  | 0 => []
  | i + 1 => fRow ep ep1 g i ++ fAt ep ep1 g i
theorem fAt_len (ep ep1 g j : Nat) : (fAt ep ep1 g j).length = 17 := by rw [fAt, frameL_len]; rfl
theorem fRow_len (ep ep1 g i : Nat) : (fRow ep ep1 g i).length = 17 * i := by
  induction i with
  | zero => rfl
  | succ i ih => rw [fRow, List.length_append, ih, fAt_len]; omega
theorem fRow_drop (ep ep1 g i : Nat) : ∀ k, i < k → ∃ m, (fRow ep ep1 g k).drop (17 * i) = fAt ep ep1 g i ++ m
  | 0, h => by omega
  | k + 1, h => by
    rw [fRow]
    rcases Nat.lt_or_ge i k with hlt | hge
    · obtain ⟨m, hm⟩ := fRow_drop ep ep1 g i k hlt
      refine ⟨m ++ fAt ep ep1 g k, ?_⟩
      rw [List.drop_append_of_le_length (by rw [fRow_len]; omega), hm, List.append_assoc]
    · obtain rfl : i = k := by omega
      exact ⟨[], by rw [List.drop_left' (fRow_len _ _ _ _), List.append_nil]⟩
def recs (k : Nat) : List (List UInt8) := (List.range k).map fun j => [UInt8.ofNat j]
theorem recs_next (k : Nat) : recs (k + 1) = recs k ++ [[UInt8.ofNat k]] := by simp [recs, List.range_succ]
theorem recs_len (k : Nat) : (recs k).length = k := by simp [recs]
theorem recs_get (k i : Nat) (h : i < k) : (recs k)[i]? = some [UInt8.ofNat i] := by simp [recs, h]
theorem fRow_at (ep ep1 g k : Nat) (he : ep < 4294967296) (hk : k ≤ 9) : ∀ i, i ≤ k → i ≤ g → At (fRow ep ep1 g k) ep i (recs i) (17 * i)
  | 0, _, _ => At.zero _ _
  | i + 1, h1, h2 => by
    obtain ⟨m, hm⟩ := fRow_drop ep ep1 g i k (by omega)
    rw [fAt, if_neg (by omega)] at hm
    have := at_next (fRow_at ep ep1 g k he hk i (by omega) (by omega)) [UInt8.ofNat i] m he (by omega) (by simp) hm
    rw [recs_next]
    exact this
theorem fRow_scan (ep ep1 g k : Nat) (he : ep < 4294967296) (h1 : ep1 < 4294967296) (hne : ep1 ≠ ep) (hk : k ≤ 9) : scanS (fRow ep ep1 g k) ep = (recs (min k g), 17 * min k g) := by
  refine (fRow_at ep ep1 g k he hk (min k g) (by omega) (by omega)).last ?_
  rcases Nat.lt_or_ge g k with hg | hg
  · rw [Nat.min_eq_right (by omega)]
    obtain ⟨m, hm⟩ := fRow_drop ep ep1 g g k hg
    rw [hm, fAt, if_pos rfl]
    exact frame_other ep1 g [UInt8.ofNat g] m h1 (by omega) (by simp) ep g (.inl hne)
  · rw [Nat.min_eq_left (by omega)]
    intro h
    have := h.1
    rw [List.length_drop, fRow_len] at this
    omega
section
variable {w : World}
set_option maxHeartbeats 2000000 in
set_option maxRecDepth 100000 in
theorem frameScans_any (n gp : Int) (hn0 : -9223372036854775808 ≤ n) (hn1 : n ≤ 9223372036854775807) (hg0 : -9223372036854775808 ≤ gp) (hg1 : gp ≤ 9223372036854775807) (ep : Nat) (hep : ep < 4294967296) :
    Calls Try.prog 3 #[.int .i64 n, .int .i64 gp, .int .u32 (ep : Int)] w (LawPost w) := by
  obtain ⟨i0, hi, hz, hs1, hb⟩ := info_parts info_byte
  obtain ⟨ep1, hep1, hepl, hepn⟩ : ∃ ep1 : Nat, ((ep : Int) + 1) % 4294967296 = (ep1 : Int) ∧ ep1 < 4294967296 ∧ ep1 ≠ ep := ⟨(ep + 1) % 4294967296, by omega, by omega, by omega⟩
  obtain ⟨k, hkk, hk9⟩ : ∃ q : Nat, withinI n 0 9 = (q : Int) ∧ q ≤ 9 := by
    have hin := into_within n 0 9 (by omega)
    exact ⟨(withinI n 0 9).toNat, by have := hin.1; omega, by have h1 := hin.1; have h2 := hin.2.1; omega⟩
  obtain ⟨g, hgg, hg9⟩ : ∃ q : Nat, withinI gp 0 9 = (q : Int) ∧ q ≤ 9 := by
    have hin := into_within gp 0 9 (by omega)
    exact ⟨(withinI gp 0 9).toNat, by have := hin.1; omega, by have h1 := hin.1; have h2 := hin.2.1; omega⟩
  go_enter Try.func3, Try.ntmps3
  go_wp2_with fail
  refine (within_is n 0 9 (by omega) (by omega) (by omega) hn0 hn1).mono ?_
  rintro e w' ⟨rfl, rfl⟩
  rw [hkk]
  go_wp2_with fail
  refine (within_is gp 0 9 (by omega) (by omega) (by omega) hg0 hg1).mono ?_
  rintro e w' ⟨rfl, rfl⟩
  rw [hgg]
  go_wp2_with fail
  go_loopw [9, 10, 11] (fun v t i wr => ∃ q : Nat, q ≤ k ∧ i = .int .i64 (q : Int) ∧ (∃ y : Nat, Hid (y = min q g) ∧ t = .int .i64 (y : Int)) ∧ (∃ m, m = 17 * q ∧ wr.ownsRow w.heap.size 5 1 v m (bts (fRow ep ep1 g q))) ∧ Chg [] w wr) (fun _ _ i _ => k - (intOf i).toNat)
  case atStart => exact ⟨0, by omega, rfl, ⟨0, Lib.hid (Nat.zero_min g).symm, rfl⟩, ⟨0, rfl, own_nil _ _ _⟩, Chg.refl _ _⟩
  case round =>
    obtain ⟨q, hq, rfl, ⟨y, HY, rfl⟩, ⟨m, hm0, hown⟩, hcr⟩ := hrel
    have hm1 : 17 * q ≤ m := by omega
    have hm2 : m ≤ 17 * q := by omega
    clear hm0
    obtain ⟨Av, cv, rfl, hBv, _⟩ := Bs.of_own hown
    by_cases hlt : q < k
    · have e32 : (q : Int) % 4294967296 = (q : Int) := by omega
      have e256 : (q : Int) % 256 = (q : Int) := by omega
      have hbq : (bts [UInt8.ofNat q]).toArray = #[.int .u8 (q : Int)] := by
        have : (UInt8.ofNat q).toNat = q := by rw [UInt8.toNat_ofNat']; omega
        simp [bts, B8, this]
      have HC := Whole.new wr 5 (bts [UInt8.ofNat q])
      rw [hbq] at HC
      have HBq := Lib.hid hbq
      clear hbq
      have hca : Chg [] wr (wr.alloc (.cells #[.int .u8 (q : Int)] 5)) := (Chg.refl _ _).alloc _
      have hsz : w.heap.size ≤ wr.heap.size := hcr.size
      have hx1 := Lib.hid (show m + 17 ≤ maxLen by unfold maxLen; omega)
      have hx2 := Lib.hid (show (m + 17) * 1 ≤ 140737488355328 by omega)
      by_cases hqg : q = g
      · have hfa : frameL ep1 q [UInt8.ofNat q] = fAt ep ep1 g q := by rw [fAt, if_pos hqg]
        have hy1 := HY.out
        have HY2 : Hid (y = min (q + 1) g) := Lib.hid (by omega)
        clear hy1
        have HQG := Lib.hid hqg
        clear hqg
        have hqe : ((q : Int) == (g : Int)) = true := by simp; have := HQG.out; omega
        go_wp2_with fail
        refine (frame_any (Bs.of_all (l := [UInt8.ofNat q]) HC (by simp)) ep1 q hepl (by omega) (by simp)).mono ?_
        rintro e w2 ⟨v2, rfl, ho2, hc2⟩
        rw [hfa] at ho2
        obtain ⟨A2, c2, rfl, hB2, _⟩ := Bs.of_own ho2
        have hlf : (fAt ep ep1 g q).length = 17 := fAt_len _ _ _ _
        rw [hlf] at hB2 ⊢
        have hc12 := hca.new hc2
        have how := own_keep hown hc12
        have hx3 := Lib.hid (show w.heap.size ≤ w2.heap.size from Nat.le_trans hsz hc12.size)
        have hx4 := Lib.hid (show (bts (fAt ep ep1 g q)).length = 17 by rw [bts_len, hlf])
        clear hlf
        go_wp2_with (at_builtin
                     refine wpList_append_src rfl (.tmp 27) (.tmp 35) 24 rfl w.heap.size 5 i0 _ 1 Try.underlying24 hi hz hs1 hb cells_u8 (.slice Av m cv) m (bts (fRow ep ep1 g q)) rfl how A2 17 c2 (bts (fAt ep ep1 g q)) rfl hx4.out hB2.src (bts_one _) hx1.out hx2.out hx3.out ?_
                     intro v4 w4 ho4 hg4 _
                     have hc4 : Chg [] w w4 := (hcr.new hc12).own how (Nat.le_refl _) hg4
                     clear hg4
                     rw [← bts_app] at ho4)
        go_roundw
        case rel => exact ⟨q + 1, by omega, by go_num, ⟨y, HY2, rfl⟩, ⟨m + 17, by omega, ho4⟩, hc4⟩
        case measure => simp [intOf]; omega
      · have hfa : frameL ep q [UInt8.ofNat q] = fAt ep ep1 g q := by rw [fAt, if_neg hqg]
        have hqe : ((q : Int) == (g : Int)) = false := by simp; omega
        have HQG := Lib.hid hqg
        have hy1 := HY.out
        have hy9 : y ≤ 9 := by omega
        by_cases hlg : q < g
        · have HY3 : Hid (y + 1 = min (q + 1) g) := Lib.hid (by omega)
          clear hy1
          go_wp2_with fail
          refine (frame_any (Bs.of_all (l := [UInt8.ofNat q]) HC (by simp)) ep q hep (by omega) (by simp)).mono ?_
          rintro e w2 ⟨v2, rfl, ho2, hc2⟩
          rw [hfa] at ho2
          obtain ⟨A2, c2, rfl, hB2, _⟩ := Bs.of_own ho2
          have hlf : (fAt ep ep1 g q).length = 17 := fAt_len _ _ _ _
          rw [hlf] at hB2 ⊢
          have hc12 := hca.new hc2
          have how := own_keep hown hc12
          have hx3 := Lib.hid (show w.heap.size ≤ w2.heap.size from Nat.le_trans hsz hc12.size)
          have hx4 := Lib.hid (show (bts (fAt ep ep1 g q)).length = 17 by rw [bts_len, hlf])
          clear hlf
          go_wp2_with (at_builtin
                       refine wpList_append_src rfl (.tmp 37) (.tmp 44) 24 rfl w.heap.size 5 i0 _ 1 Try.underlying24 hi hz hs1 hb cells_u8 (.slice Av m cv) m (bts (fRow ep ep1 g q)) rfl how A2 17 c2 (bts (fAt ep ep1 g q)) rfl hx4.out hB2.src (bts_one _) hx1.out hx2.out hx3.out ?_
                       intro v4 w4 ho4 hg4 _
                       have hc4 : Chg [] w w4 := (hcr.new hc12).own how (Nat.le_refl _) hg4
                       clear hg4
                       rw [← bts_app] at ho4)
          go_roundw
          case rel => exact ⟨q + 1, by omega, by go_num, ⟨y + 1, HY3, by go_num⟩, ⟨m + 17, by omega, ho4⟩, hc4⟩
          case measure => simp [intOf]; omega
        · have HY2 : Hid (y = min (q + 1) g) := Lib.hid (by omega)
          clear hy1
          go_wp2_with fail
          refine (frame_any (Bs.of_all (l := [UInt8.ofNat q]) HC (by simp)) ep q hep (by omega) (by simp)).mono ?_
          rintro e w2 ⟨v2, rfl, ho2, hc2⟩
          rw [hfa] at ho2
          obtain ⟨A2, c2, rfl, hB2, _⟩ := Bs.of_own ho2
          have hlf : (fAt ep ep1 g q).length = 17 := fAt_len _ _ _ _
          rw [hlf] at hB2 ⊢
          have hc12 := hca.new hc2
          have how := own_keep hown hc12
          have hx3 := Lib.hid (show w.heap.size ≤ w2.heap.size from Nat.le_trans hsz hc12.size)
          have hx4 := Lib.hid (show (bts (fAt ep ep1 g q)).length = 17 by rw [bts_len, hlf])
          clear hlf
          go_wp2_with (at_builtin
                       refine wpList_append_src rfl (.tmp 37) (.tmp 44) 24 rfl w.heap.size 5 i0 _ 1 Try.underlying24 hi hz hs1 hb cells_u8 (.slice Av m cv) m (bts (fRow ep ep1 g q)) rfl how A2 17 c2 (bts (fAt ep ep1 g q)) rfl hx4.out hB2.src (bts_one _) hx1.out hx2.out hx3.out ?_
                       intro v4 w4 ho4 hg4 _
                       have hc4 : Chg [] w w4 := (hcr.new hc12).own how (Nat.le_refl _) hg4
                       clear hg4
                       rw [← bts_app] at ho4)
          go_roundw
          case rel => exact ⟨q + 1, by omega, by go_num, ⟨y, HY2, rfl⟩, ⟨m + 17, by omega, ho4⟩, hc4⟩
          case measure => simp [intOf]; omega
    · obtain rfl : q = k := by omega
      have hmm : m = 17 * q := by omega
      have HM := Lib.hid hmm
      clear hmm hm1 hm2
      have hy9 : y ≤ 9 := by have := HY.out; omega
      have hsc : scanS (fRow ep ep1 g q) ep = (recs y, 17 * y) := by rw [fRow_scan ep ep1 g q hep hepl hepn hk9, HY.out]
      go_wp2_with fail
      refine (scan_any hBv ep (by have := HM.out; omega)).mono ?_
      rintro e w4 ⟨v4, vs, rfl, ho4, hr4, hc4⟩
      rw [hsc] at ho4 hr4 ⊢
      obtain ⟨A4, c4, rfl, hvl, hvc, hs4, hA4⟩ := own_slice ho4
      simp only [recs_len] at hvl hvc ⊢
      obtain ⟨u, hu⟩ : ∃ u, u = 17 * y := ⟨_, rfl⟩
      rw [← hu]
      have hu2 : (y : Int) * 17 = (u : Int) := by omega
      clear hu hsc
      have HVL := Lib.hid hvl
      clear hvl
      go_wp2_with fail
      go_loop [69] (fun i => ∃ j : Nat, j ≤ y ∧ i = .int .i64 (j : Int)) (fun i => y - (intOf i).toNat)
      case atStart => exact ⟨0, Nat.zero_le _, rfl⟩
      case round =>
        obtain ⟨j, hj, rfl⟩ := hrel
        by_cases hl2 : j < y
        · obtain ⟨⟨b4, o4, s4⟩, rfl, _, hx⟩ := hs4 (by have := HVL.out; omega)
          obtain rfl : s4 = none := (hA4 _ rfl).1
          obtain ⟨x5, hx5⟩ : ∃ x, vs[j]? = some x := ⟨_, List.getElem?_eq_getElem (by have := HVL.out; omega)⟩
          obtain ⟨A5, c5, rfl, hB5, hA5⟩ := Bs.of_own (n := 1) (hr4.2 j x5 _ hx5 (recs_get y j hl2))
          have cj := hx j _ hx5
          rw [add_plain] at cj
          obtain ⟨⟨b5, o5, s5⟩, rfl, _, hy5⟩ := hB5.src (by simp [bts])
          obtain rfl : s5 = none := (hA5 _ rfl).1
          have c50 := hy5 0 _ rfl
          have etn : ((UInt8.ofNat j).toNat : Int) = (j : Int) := by rw [UInt8.toNat_ofNat']; omega
          have e256 : (j : Int) % 256 = (j : Int) := by omega
          rw [add_plain, B8, etn, Nat.add_zero] at c50
          clear hx hy5 etn
          go_wp2_with fail
          go_round
          case rel => exact ⟨j + 1, by omega, by go_num⟩
          case measure => simp [intOf]; omega
        · obtain rfl : j = y := by omega
          go_wp2_with fail
          refine fknown_any.mono ?_
          rintro e w5 ⟨rfl, hc5⟩
          go_wp2_with fail
          go_ret
          exact ⟨rfl, (hcr.new hc4).new hc5⟩
end
end Go.Proofs.Ytamdpmbonoolcab
