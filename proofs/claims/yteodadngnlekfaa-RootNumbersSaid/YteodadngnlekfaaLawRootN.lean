/-
  The walk of RootNumbers.
-/
import Derived.Test.YteodadngnlekfaaLawRootT
import Derived.Test.YteodadngnlekfaaRootWide
namespace Go.Proofs.Yteodadngnlekfaa
open Go.RowKit
theorem rA_get (j : Nat) (h : j < 8) : ∃ s : Int, ([.int .i64 (-1), .int .i64 0, .int .i64 1, .int .i64 2, .int .i64 64, .int .i64 65, .int .i64 2147483648, .int .i64 1099511627776] : List Value)[j]? = some (.int .i64 s) := by
  match j, h with
  | 0, _ | 1, _ | 2, _ | 3, _ | 4, _ | 5, _ | 6, _ | 7, _ => exact ⟨_, rfl⟩
  | n + 8, h => exact absurd h (by omega)
theorem rB_get (j : Nat) (h : j < 6) : ∃ s : Int, ([.int .i64 (-1), .int .i64 0, .int .i64 1, .int .i64 64, .int .i64 65, .int .i64 2147483647] : List Value)[j]? = some (.int .i64 s) := by
  match j, h with
  | 0, _ | 1, _ | 2, _ | 3, _ | 4, _ | 5, _ => exact ⟨_, rfl⟩
  | n + 6, h => exact absurd h (by omega)
theorem rE_get (j : Nat) (h : j < 3) : ∃ q : Nat, ([.int .u32 0, .int .u32 1, .int .u32 4294967295] : List Value)[j]? = some (.int .u32 (q : Int)) ∧ q < 4294967296 := by
  match j, h with
  | 0, _ => exact ⟨0, rfl, by omega⟩
  | 1, _ => exact ⟨1, rfl, by omega⟩
  | 2, _ => exact ⟨4294967295, rfl, by omega⟩
  | n + 3, h => exact absurd h (by omega)
theorem rS_get (j : Nat) (h : j < 6) : ∃ s : Int, ([.int .i64 0, .int .i64 4, .int .i64 5, .int .i64 67, .int .i64 160, .int .i64 1099511627776] : List Value)[j]? = some (.int .i64 s) := by
  match j, h with
  | 0, _ | 1, _ | 2, _ | 3, _ | 4, _ | 5, _ => exact ⟨_, rfl⟩
  | n + 6, h => exact absurd h (by omega)
theorem same_agg (L P s page : Int) (q : Nat) (hq : q < 4294967296) (w : World) : Calls Try.prog 22 #[.agg #[.int .i64 L, .int .i64 P, .int .u32 (q : Int)], .int .i64 s, .int .i64 page] w (LawPost w) := rsamelaw_any L P s page q hq
theorem rroot239 (w : World) : Calls Try.prog 23 #[.agg #[.int .i64 2, .int .i64 3, .int .u32 9]] w (BytesPost w (rootL 2 3 9)) := rroot_any 2 3 9 (by omega) (by omega) (by omega)
theorem rroot_big (w : World) : Calls Try.prog 23 #[.agg #[.int .i64 2147483648, .int .i64 1, .int .u32 1]] w (BytesPost w (rootL 2147483648 1 1)) := rroot_wide 2147483648 1 1 (by omega) (by omega) (by omega)
theorem best9 {w : World} {A B : Option Addr} {ca cb : Nat} {a b : List UInt8} (hA : Bs w A 64 ca a) (hB : Bs w B 64 cb b) : Calls Try.prog 25 #[.int .i64 9, .slice A 64 ca, .slice B 64 cb] w (LawPost w) := lbest_any hA hB 9 (by omega) (by omega)
theorem make_page (W : World) : (Instr.makeSlice 22 (.int .i64 64) (.int .i64 64)).run Try.prog W = .ok (.slice (some ⟨W.heap.size, 0, none⟩) 64 64) (W.alloc (.cells (bts (zeros 64)).toArray 5)) := by
  obtain ⟨i, hi, hz, hs1, hb⟩ := info_parts info_byte
  rw [bts_zeros]
  exact run_make1 22 5 i (.int .u8 0) rfl Try.underlying22 hi hz hs1 64 (by rw [hb]; omega) (by omega) W
/-- A row of 64 bytes. -/
def RowF : Fact := fun v W => ∃ A c X, v = .slice A 64 c ∧ Bs W A 64 c X
theorem keeps_row : Keeps (Chg []) RowF := fun _ _ _ ⟨A, c, X, e, h⟩ hc => ⟨A, c, X, e, h.keep hc⟩
/-- Seven of them. -/
def ListF : Fact := fun v W => ∃ g vs, v = .slice (some ⟨g, 0, none⟩) 7 7 ∧ Whole W g 22 vs ∧ vs.length = 7 ∧ ∀ s ∈ vs, RowF s W
theorem keeps_list : Keeps (Chg []) ListF := fun _ _ _ ⟨g, vs, e, h, hl, ha⟩ hc => ⟨g, vs, e, h.keep hc, hl, fun s hs => keeps_row _ _ _ (ha s hs) hc⟩
theorem rroot_row (a b c : Nat) (ha : a ≤ 2147483647) (hb : b ≤ 2147483647) (hc : c < 4294967296) (W : World) (k : Nat) : Calls Try.prog 23 #[rootV a b c] W (fun e w'' => ∃ v, e = .returned v ∧ plainT.by_ k W w'' ∧ RowF v w'') := by
  refine (rroot_any a b c ha hb hc).mono ?_
  rintro e w' ⟨v, rfl, ho, hc'⟩
  rw [rootL_len] at ho
  obtain ⟨A, cc, rfl, hB, _⟩ := Bs.of_own ho
  exact ⟨_, rfl, by rw [plain_by]; exact hc', A, cc, _, rfl, hB⟩
theorem rN_get (j : Nat) (h : j < 7) : ∃ n : Nat, ([.int .i64 1, .int .i64 2, .int .i64 4, .int .i64 6, .int .i64 7, .int .i64 8, .int .i64 90] : List Value)[j]? = some (.int .i64 (n : Int)) ∧ 1 ≤ n ∧ n ≤ 160 := by
  match j, h with
  | 0, _ => exact ⟨1, rfl, by omega, by omega⟩
  | 1, _ => exact ⟨2, rfl, by omega, by omega⟩
  | 2, _ => exact ⟨4, rfl, by omega, by omega⟩
  | 3, _ => exact ⟨6, rfl, by omega, by omega⟩
  | 4, _ => exact ⟨7, rfl, by omega, by omega⟩
  | 5, _ => exact ⟨8, rfl, by omega, by omega⟩
  | 6, _ => exact ⟨90, rfl, by omega, by omega⟩
  | n + 7, h => exact absurd h (by omega)
section
variable {w : World}
set_option maxHeartbeats 16000000 in
set_option maxRecDepth 100000 in
theorem rootNumbers_any : Calls Try.prog 6 #[] w (LawPost w) := by
  obtain ⟨i0, hi, hz, hs1, hbb⟩ := info_parts info_byte
  go_enter Try.func6, Try.ntmps6
  go_wp2_with fail
  have hA := Whole.new w 3 [.int .i64 (-1), .int .i64 0, .int .i64 1, .int .i64 2, .int .i64 64, .int .i64 65, .int .i64 2147483648, .int .i64 1099511627776]
  have hC : Chg [] w (w.alloc (.cells #[.int .i64 (-1), .int .i64 0, .int .i64 1, .int .i64 2, .int .i64 64, .int .i64 65, .int .i64 2147483648, .int .i64 1099511627776] 3)) := (Chg.refl [] w).alloc _
  generalize w.alloc (.cells #[.int .i64 (-1), .int .i64 0, .int .i64 1, .int .i64 2, .int .i64 64, .int .i64 65, .int .i64 2147483648, .int .i64 1099511627776] 3) = w1 at hA hC ⊢
  obtain ⟨g1, hg1⟩ : ∃ g, g = w.heap.size := ⟨_, rfl⟩
  rw [← hg1] at hA ⊢
  have HA := Lib.hid hA
  have HC := Lib.hid hC
  clear hA hC hg1
  go_loopw [21] (fun i W => Chg [] w1 W ∧ ∃ k : Nat, k ≤ 8 ∧ i = .int .i64 (k : Int)) (fun i _ => 8 - (intOf i).toNat)
  case atStart => exact ⟨Chg.refl _ _, 0, by omega, rfl⟩
  case round =>
    obtain ⟨hc1, k, hk, rfl⟩ := hrel
    obtain ⟨wo1, rfl⟩ : ∃ wo : World, wo = wr := ⟨_, rfl⟩
    by_cases hlt : k < 8
    · obtain ⟨a, ha⟩ := rA_get k hlt
      have hl : wo1.cell? ⟨g1, k, none⟩ = some (.int .i64 a) := by rw [(HA.out.keep hc1).cell]; exact ha
      have HC1 := Lib.hid hc1
      clear ha hc1
      go_wp2_with fail
      have HLT := Lib.hid hlt
      clear hl hlt
      have hB := Whole.new wo1 3 [.int .i64 (-1), .int .i64 0, .int .i64 1, .int .i64 64, .int .i64 65, .int .i64 2147483647]
      have hC2 : Chg [] w1 (wo1.alloc (.cells #[.int .i64 (-1), .int .i64 0, .int .i64 1, .int .i64 64, .int .i64 65, .int .i64 2147483647] 3)) := HC1.out.alloc _
      generalize wo1.alloc (.cells #[.int .i64 (-1), .int .i64 0, .int .i64 1, .int .i64 64, .int .i64 65, .int .i64 2147483647] 3) = w2 at hB hC2 ⊢
      generalize wo1.heap.size = g2 at hB ⊢
      have HB := Lib.hid hB
      have HC2 := Lib.hid hC2
      clear hB hC2 HC1
      go_loopw [27] (fun i W => Chg [] w2 W ∧ ∃ k : Nat, k ≤ 6 ∧ i = .int .i64 (k : Int)) (fun i _ => 6 - (intOf i).toNat)
      case atStart => exact ⟨Chg.refl _ _, 0, by omega, rfl⟩
      case round =>
        obtain ⟨hc2, k2, hk2, rfl⟩ := hrel
        obtain ⟨wo2, rfl⟩ : ∃ wo : World, wo = wr := ⟨_, rfl⟩
        by_cases hlt2 : k2 < 6
        · obtain ⟨b, hb⟩ := rB_get k2 hlt2
          have hl : wo2.cell? ⟨g2, k2, none⟩ = some (.int .i64 b) := by rw [(HB.out.keep hc2).cell]; exact hb
          have HC3 := Lib.hid hc2
          clear hb hc2
          go_wp2_with fail
          have HLT2 := Lib.hid hlt2
          clear hl hlt2
          have hE := Whole.new wo2 42 [.int .u32 0, .int .u32 1, .int .u32 4294967295]
          have hC4 : Chg [] w2 (wo2.alloc (.cells #[.int .u32 0, .int .u32 1, .int .u32 4294967295] 42)) := HC3.out.alloc _
          generalize wo2.alloc (.cells #[.int .u32 0, .int .u32 1, .int .u32 4294967295] 42) = w3 at hE hC4 ⊢
          generalize wo2.heap.size = g3 at hE ⊢
          have HE := Lib.hid hE
          have HC4 := Lib.hid hC4
          clear hE hC4 HC3
          go_loopw [33] (fun i W => Chg [] w3 W ∧ ∃ k : Nat, k ≤ 3 ∧ i = .int .i64 (k : Int)) (fun i _ => 3 - (intOf i).toNat)
          case atStart => exact ⟨Chg.refl _ _, 0, by omega, rfl⟩
          case round =>
            obtain ⟨hc3, k3, hk3, rfl⟩ := hrel
            obtain ⟨wo3, rfl⟩ : ∃ wo : World, wo = wr := ⟨_, rfl⟩
            by_cases hlt3 : k3 < 3
            · obtain ⟨q, hq, hq4⟩ := rE_get k3 hlt3
              have hl : wo3.cell? ⟨g3, k3, none⟩ = some (.int .u32 (q : Int)) := by rw [(HE.out.keep hc3).cell]; exact hq
              have HC5 := Lib.hid hc3
              clear hq hc3
              go_wp2_with fail
              have HLT3 := Lib.hid hlt3
              clear hl hlt3
              have hS := Whole.new wo3 3 [.int .i64 0, .int .i64 4, .int .i64 5, .int .i64 67, .int .i64 160, .int .i64 1099511627776]
              have hC6 : Chg [] w3 (wo3.alloc (.cells #[.int .i64 0, .int .i64 4, .int .i64 5, .int .i64 67, .int .i64 160, .int .i64 1099511627776] 3)) := HC5.out.alloc _
              generalize wo3.alloc (.cells #[.int .i64 0, .int .i64 4, .int .i64 5, .int .i64 67, .int .i64 160, .int .i64 1099511627776] 3) = w4 at hS hC6 ⊢
              generalize wo3.heap.size = g4 at hS ⊢
              have HS := Lib.hid hS
              have HC6 := Lib.hid hC6
              clear hS hC6 HC5
              go_loopw [39] (fun i W => Chg [] w4 W ∧ ∃ k : Nat, k ≤ 6 ∧ i = .int .i64 (k : Int)) (fun i _ => 6 - (intOf i).toNat)
              case atStart => exact ⟨Chg.refl _ _, 0, by omega, rfl⟩
              case round =>
                obtain ⟨hc4, k4, hk4, rfl⟩ := hrel
                obtain ⟨wo4, rfl⟩ : ∃ wo : World, wo = wr := ⟨_, rfl⟩
                by_cases hlt4 : k4 < 6
                · obtain ⟨s, hs⟩ := rS_get k4 hlt4
                  have hl : wo4.cell? ⟨g4, k4, none⟩ = some (.int .i64 s) := by rw [(HS.out.keep hc4).cell]; exact hs
                  have HC7 := Lib.hid hc4
                  clear hs hc4
                  go_wp2_with fail
                  refine (same_agg a b s a q hq4 wo4).mono ?_
                  rintro e w5 ⟨rfl, hc5⟩
                  have HC8 := Lib.hid (HC7.out.new hc5)
                  clear hc5 hl
                  go_wp2_with fail
                  go_roundw
                  case rel =>
                    simp only [decide_eq_true (show (k : Int) < 8 by have := HLT.out; omega), decide_eq_true (show (k2 : Int) < 6 by have := HLT2.out; omega), decide_eq_true (show (k3 : Int) < 3 by have := HLT3.out; omega)]
                    exact ⟨_, _, _, _, _, _, _, _, _, _, _, _, _, _, _, ⟨HC8.out, k4 + 1, by omega, (by go_num : Value.int .i64 ((k4 : Int) + 1) = Value.int .i64 ((k4 + 1 : Nat) : Int))⟩, rfl⟩
                  case measure => simp [intOf]; omega
                · go_wp2_with fail
                  go_roundw
                  case rel => exact ⟨HC6.out.new hc4, k3 + 1, by have := HLT3.out; omega, by go_num⟩
                  case measure => have := HLT3.out; simp [intOf]; omega
            · go_wp2_with fail
              go_roundw
              case rel => exact ⟨HC4.out.new hc3, k2 + 1, by have := HLT2.out; omega, by go_num⟩
              case measure => have := HLT2.out; simp [intOf]; omega
        · go_wp2_with fail
          go_roundw
          case rel => exact ⟨HC2.out.new hc2, k + 1, by have := HLT.out; omega, by go_num⟩
          case measure => have := HLT.out; simp [intOf]; omega
    · have HC1 := Lib.hid (HC.out.new hc1)
      clear hc1 HC HA
      go_wp2_with fail
      refine (rroot239 wo1).mono ?_
      rintro e w2 ⟨v2, rfl, ho2, hc2⟩
      rw [rootL_len] at ho2
      obtain ⟨A9, c9, rfl, hB2, _⟩ := Bs.of_own ho2
      have hcap := hB2.cap
      have HX2 := Lib.hid hB2
      have HC2 := Lib.hid (HC1.out.new hc2)
      clear ho2 hc2 hB2 HC1
      have hlb := Lib.hid (show (bts (rootL 2 3 9)).length = 64 by rw [bts_len, rootL_len])
      have hm1 := Lib.hid (show 0 + 64 ≤ maxLen by unfold maxLen; omega)
      have hm3 := Lib.hid (show (0 + 64) * 1 ≤ 140737488355328 by omega)
      have HRL := Lib.hid (rootL_len 2 3 9)
      generalize rootL 2 3 9 = X at HX2 hlb HRL
      go_wp2_with fail
      go_loopw [59] (fun i W => Chg [] w2 W ∧ ∃ k : Nat, k ≤ 64 ∧ i = .int .i64 (k : Int)) (fun i _ => 64 - (intOf i).toNat)
      case atStart => exact ⟨Chg.refl _ _, 0, by omega, rfl⟩
      case round =>
        obtain ⟨hcr, j, hj, rfl⟩ := hrel
        obtain ⟨w5, rfl⟩ : ∃ wo : World, wo = wr := ⟨_, rfl⟩
        by_cases hjM : j < 64
        · have hjI : (j : Int) < 64 := by omega
          have hjJ : (0 : Int) ≤ (j : Int) := by omega
          have hjK : (j : Int) ≤ (c9 : Int) := by omega
          have hA0 := add0 A9
          obtain ⟨z0, hz0⟩ : ∃ z0, z0 = X[j]'(by rw [HRL.out]; exact hjM) := ⟨_, rfl⟩
          have HZ := Lib.hid (show (bts X)[j]? = some (B8 z0) by rw [hz0]; exact bts_get X j _)
          clear hz0
          obtain ⟨D, hD⟩ : ∃ D : UInt8, bits .xor .u8 (z0.toNat : Int) 5 = (D.toNat : Int) := by
            have h1 := z0.toNat_lt
            refine ⟨UInt8.ofNat (z0.toNat ^^^ 5), ?_⟩
            have h4 := u8_xor_nat z0.toNat 5 (by omega) (by omega)
            rw [show ((5 : Nat) : Int) = 5 from rfl] at h4
            rw [h4, UInt8.toNat_ofNat']
            have h3 : z0.toNat ^^^ 5 < 256 := Nat.xor_lt_two_pow (n := 8) (by omega) (by omega)
            omega
          have HDD := Lib.hid hD
          clear hD
          have HX5 := Lib.hid (HX2.out.keep hcr)
          have HCR := Lib.hid hcr
          clear hcr
          have ho0 : (w5.alloc (.cells #[] 5)).ownsRow w5.heap.size 5 1 (.slice (some ⟨w5.heap.size, 0, none⟩) 0 0) 0 [] :=
            own_of_whole (B := w5.heap.size) (n := 0) (c := 0) (Whole.new w5 5 []) (Nat.le_refl _) rfl (by omega) (by unfold maxLen; omega)
          go_wp2_with (at_builtin
                       refine wpList_append_src rfl (.tmp 62) (.tmp 63) 22 rfl w5.heap.size 5 i0 _ 1 Try.underlying22 hi hz hs1 hbb cells_u8 (.slice (some ⟨w5.heap.size, 0, none⟩) 0 0) 0 [] rfl ho0 A9 64 c9 (bts X) rfl hlb.out (HX5.out.src.keep ((Chg.refl _ _).alloc _)) (bts_one _) hm1.out hm3.out (by simp) ?_
                       intro v6 w6 ho6 hg6 _
                       have hc6 : Chg [] w5 w6 := ((Chg.refl [] w5).alloc _).own ho0 (Nat.le_refl _) hg6
                       clear hg6
                       simp only [Nat.zero_add, List.nil_append] at ho6
                       obtain ⟨g, r, rfl, hbg, hW6, hr⟩ := own_whole ho6 (by omega)
                       have c0 : w6.cell? ⟨g, j, none⟩ = some (B8 z0) := by
                         rw [hW6.cell, List.getElem?_append_left (by rw [hlb.out]; exact hjM)]
                         exact HZ.out
                       have f0 := hW6.frozen j
                       have hW7 := hW6.set_ j (B8 D)
                       rw [List.set_append_left _ _ (by rw [hlb.out]; exact hjM), bts_set] at hW7
                       have hc7 : Chg [] w5 (w6.setCell ⟨g, j, none⟩ (B8 D)) := hc6.setCell (fun hlt => absurd hlt (by simp only; omega)) _
                       unfold B8 at c0 hW7 hc7
                       rw [← HDD.out] at hW7 hc7
                       clear ho6 hW6)
          all_goals first | (exfalso; omega) | skip
          have hZ7 : Bs (w6.setCell ⟨g, j, none⟩ (.int .u8 (bits .xor .u8 (z0.toNat : Int) 5))) (some ⟨g, 0, none⟩) 64 (64 + r.length) (X.set j D) := Bs.of_whole hW7 (by rw [List.length_set, HRL.out]) (by rw [List.take_left' (by rw [bts_len, List.length_set, HRL.out])]) (by omega) (by simpa [maxLen] using hr)
          generalize w6.setCell ⟨g, j, none⟩ (.int .u8 (bits .xor .u8 (z0.toNat : Int) 5)) = w7 at hZ7 hc7 ⊢
          have HX7 := Lib.hid (HX5.out.keep hc7)
          have HC7 := Lib.hid (HCR.out.new hc7)
          have HZ7 := Lib.hid hZ7
          clear hZ7 hc7 hW7 c0 f0 ho0 HX5
          refine (rreadslaw_any HZ7.out).mono ?_
          rintro e w8 ⟨rfl, hc8⟩
          have HX8 := Lib.hid (HX7.out.keep hc8)
          have HC8 := Lib.hid (HC7.out.new hc8)
          have HZ8 := Lib.hid (HZ7.out.keep hc8)
          have HT8 := Lib.hid (HX8.out.take (m := j) (by omega))
          clear hc8 HX7 HZ7 HC7
          go_wp2_with fail
          refine (rreadslaw_any HT8.out).mono ?_
          rintro e w9 ⟨rfl, hc9⟩
          have HX9 := Lib.hid (HX8.out.keep hc9)
          have HC9 := Lib.hid (HC8.out.new hc9)
          have HZ9 := Lib.hid (HZ8.out.keep hc9)
          clear hc9 HX8 HZ8 HC8 HT8
          go_wp2_with fail
          refine (best9 HZ9.out HX9.out).mono ?_
          rintro e w10 ⟨rfl, hc10⟩
          have HX10 := Lib.hid (HX9.out.keep hc10)
          have HC10 := Lib.hid (HC9.out.new hc10)
          have HZ10 := Lib.hid (HZ9.out.keep hc10)
          clear hc10 HX9 HZ9 HC9
          go_wp2_with fail
          refine (best9 HX10.out HZ10.out).mono ?_
          rintro e w11 ⟨rfl, hc11⟩
          have HC11 := Lib.hid (HC10.out.new hc11)
          clear hc11
          go_wp2_with fail
          go_roundw
          case rel => exact ⟨HC11.out, j + 1, by omega, by go_num⟩
          case measure => simp [intOf]; omega
        · have HX5 := Lib.hid (HX2.out.keep hcr)
          have HC5 := Lib.hid (HC2.out.new hcr)
          clear hcr HX2 HC2
          go_upto_region 28 with fail
          refine wp_flow (by kernel_rfl) plainT plainT_ok (by kernel_rfl) ?_
          refine flow_move_out plainT_ok rfl rfl rfl ?_
          refine flow3 (r := rootV 2 3 8) plainT_ok rfl (.const _) (.const _) (.const _) rfl (fun ev W he e1 e2 e3 => by have hcst := he.const; go_simp; try rfl) ?_
          refine flow_calld RowF keeps_row (.inr keeps_row) (by kernel_rfl) rfl (.cons (.inn rfl) .nil) (fun W hW => rroot_row 2 3 8 (by omega) (by omega) (by omega) W _) ?_
          refine flow3 (r := rootV 3 3 9) plainT_ok rfl (.const _) (.const _) (.const _) rfl (fun ev W he e1 e2 e3 => by have hcst := he.const; go_simp; try rfl) ?_
          refine flow_calld RowF keeps_row (.inr keeps_row) (by kernel_rfl) rfl (.cons (.inn rfl) .nil) (fun W hW => rroot_row 3 3 9 (by omega) (by omega) (by omega) W _) ?_
          refine flow3 (r := rootV 1 1 20) plainT_ok rfl (.const _) (.const _) (.const _) rfl (fun ev W he e1 e2 e3 => by have hcst := he.const; go_simp; try rfl) ?_
          refine flow_calld RowF keeps_row (.inr keeps_row) (by kernel_rfl) rfl (.cons (.inn rfl) .nil) (fun W hW => rroot_row 1 1 20 (by omega) (by omega) (by omega) W _) ?_
          refine flow3 (r := rootV 9 50 30) plainT_ok rfl (.const _) (.const _) (.const _) rfl (fun ev W he e1 e2 e3 => by have hcst := he.const; go_simp; try rfl) ?_
          refine flow_calld RowF keeps_row (.inr keeps_row) (by kernel_rfl) rfl (.cons (.inn rfl) .nil) (fun W hW => rroot_row 9 50 30 (by omega) (by omega) (by omega) W _) ?_
          refine flow_op RowF keeps_row (.inr keeps_row) rfl (fun ev W he hW hf => ?_) ?_
          · have hcst := he.const
            have hmk := make_page W
            have hnew : RowF (.slice (some ⟨W.heap.size, 0, none⟩) 64 64) (W.alloc (.cells (bts (zeros 64)).toArray 5)) := by
              have := Bs.of_all (Whole.new W 5 (bts (zeros 64))) (by rw [zeros_len]; omega)
              rw [zeros_len] at this
              exact ⟨_, _, _, rfl, this⟩
            have hch : plainT.by_ 9 W (W.alloc (.cells (bts (zeros 64)).toArray 5)) := by rw [plain_by]; exact (Chg.refl [] W).alloc _
            go_simp
            exact ⟨hch, hnew⟩
          refine flow2 (r := rootV 2 3 0) plainT_ok rfl (.const _) (.const _) rfl (fun ev W he e1 e2 => by have hcst := he.const; go_simp; try rfl) ?_
          refine flow_calld RowF keeps_row (.inr keeps_row) (by kernel_rfl) rfl (.cons (.inn rfl) .nil) (fun W hW => rroot_row 2 3 0 (by omega) (by omega) (by omega) W _) ?_
          refine flow_op ListF keeps_list (.inr keeps_list) rfl (fun ev W he hW hf => ?_) ?_
          · have f0 : ev (.tmp 94) = .slice A9 64 c9 := hf.1
            have f1 : RowF (ev (.tmp 96)) W := hf.2.1
            have f2 : RowF (ev (.tmp 98)) W := hf.2.2.1
            have f3 : RowF (ev (.tmp 100)) W := hf.2.2.2.1
            have f4 : RowF (ev (.tmp 102)) W := hf.2.2.2.2.1
            have f5 : RowF (ev (.tmp 103)) W := hf.2.2.2.2.2.1
            have f6 : RowF (ev (.tmp 105)) W := hf.2.2.2.2.2.2.1
            have h0 : Bs W A9 64 c9 X := HX5.out.drew.keep hW
            obtain ⟨A1, d1, X1, q1, h1⟩ := f1
            obtain ⟨A2, d2, X2, q2, h2⟩ := f2
            obtain ⟨A3, d3, X3, q3, h3⟩ := f3
            obtain ⟨A4, d4, X4, q4, h4⟩ := f4
            obtain ⟨A5, d5, X5, q5, h5⟩ := f5
            obtain ⟨A6, d6, X6, q6, h6⟩ := f6
            have hal : Chg [] W (W.alloc (.cells #[.slice A9 64 c9, .slice A1 64 d1, .slice A2 64 d2, .slice A3 64 d3, .slice A4 64 d4, .slice A5 64 d5, .slice A6 64 d6] 22)) := (Chg.refl [] W).alloc _
            have hnew : ListF (.slice (some ⟨W.heap.size, 0, none⟩) 7 7) (W.alloc (.cells #[.slice A9 64 c9, .slice A1 64 d1, .slice A2 64 d2, .slice A3 64 d3, .slice A4 64 d4, .slice A5 64 d5, .slice A6 64 d6] 22)) := by
              refine ⟨_, _, rfl, Whole.new W 22 [.slice A9 64 c9, .slice A1 64 d1, .slice A2 64 d2, .slice A3 64 d3, .slice A4 64 d4, .slice A5 64 d5, .slice A6 64 d6], rfl, ?_⟩
              intro s hs
              simp only [List.mem_cons, List.not_mem_nil, or_false] at hs
              rcases hs with rfl | rfl | rfl | rfl | rfl | rfl | rfl
              · exact ⟨_, _, _, rfl, h0.keep hal⟩
              · exact ⟨_, _, _, rfl, h1.keep hal⟩
              · exact ⟨_, _, _, rfl, h2.keep hal⟩
              · exact ⟨_, _, _, rfl, h3.keep hal⟩
              · exact ⟨_, _, _, rfl, h4.keep hal⟩
              · exact ⟨_, _, _, rfl, h5.keep hal⟩
              · exact ⟨_, _, _, rfl, h6.keep hal⟩
            have hch : ∀ k, plainT.by_ k W (W.alloc (.cells #[.slice A9 64 c9, .slice A1 64 d1, .slice A2 64 d2, .slice A3 64 d3, .slice A4 64 d4, .slice A5 64 d5, .slice A6 64 d6] 22)) := fun k => by rw [plain_by]; exact hal
            clear hal h0 h1 h2 h3 h4 h5 h6 hf hW
            go_simp
            exact ⟨hch _, hnew⟩
          refine flow_assign plainT_ok rfl keeps_list (.inr keeps_list) rfl ?_
          intro vs W hW hF
          have e12 : ListF (vs 12) W := hF 12 _ rfl rfl
          obtain ⟨gl, vl, e12, hWl, hl7, hall⟩ := e12
          have HC6 := Lib.hid (HC5.out.drew.new hW)
          have HWL := Lib.hid hWl
          have HL7 := Lib.hid hl7
          have HALL := Lib.hid hall
          simp only [putAll, Act.put, List.setIfInBounds_toArray, List.set_cons_zero, List.set_cons_succ, e12]
          clear e12 hF hW hWl hl7 hall HX5 HC5
          generalize vs 94 = u94
          go_wp2_with fail
          go_loopw [109] (fun i Wx => Chg [] W Wx ∧ ∃ k : Nat, k ≤ 7 ∧ i = .int .i64 (k : Int)) (fun i _ => 7 - (intOf i).toNat)
          case atStart => exact ⟨Chg.refl _ _, 0, by omega, rfl⟩
          case round =>
            obtain ⟨hc1, k1, hk1, rfl⟩ := hrel
            obtain ⟨v1, rfl⟩ : ∃ wo : World, wo = wr := ⟨_, rfl⟩
            by_cases hlt1 : k1 < 7
            · obtain ⟨s1, hx1, A1, d1, X1, rfl, hB1⟩ : ∃ s, vl[k1]? = some s ∧ RowF s v1 := by
                have hx : k1 < vl.length := by rw [HL7.out]; exact hlt1
                exact ⟨vl[k1], List.getElem?_eq_getElem hx, keeps_row _ _ _ (HALL.out _ (List.getElem_mem hx)) hc1⟩
              have hl : v1.cell? ⟨gl, k1, none⟩ = some (.slice A1 64 d1) := by rw [(HWL.out.keep hc1).cell]; exact hx1
              have HB1 := Lib.hid hB1
              have HC1 := Lib.hid hc1
              clear hx1 hB1 hc1
              go_wp2_with fail
              have HLT1 := Lib.hid hlt1
              clear hl hlt1
              go_loopw [115] (fun i Wx => Chg [] v1 Wx ∧ ∃ k : Nat, k ≤ 7 ∧ i = .int .i64 (k : Int)) (fun i _ => 7 - (intOf i).toNat)
              case atStart => exact ⟨Chg.refl _ _, 0, by omega, rfl⟩
              case round =>
                obtain ⟨hc2, k2, hk2, rfl⟩ := hrel
                obtain ⟨v2, rfl⟩ : ∃ wo : World, wo = wr := ⟨_, rfl⟩
                by_cases hlt2 : k2 < 7
                · obtain ⟨s2, hx2, A2, d2, X2, rfl, hB2⟩ : ∃ s, vl[k2]? = some s ∧ RowF s v2 := by
                    have hx : k2 < vl.length := by rw [HL7.out]; exact hlt2
                    exact ⟨vl[k2], List.getElem?_eq_getElem hx, keeps_row _ _ _ (keeps_row _ _ _ (HALL.out _ (List.getElem_mem hx)) HC1.out) hc2⟩
                  have hl : v2.cell? ⟨gl, k2, none⟩ = some (.slice A2 64 d2) := by rw [((HWL.out.keep HC1.out).keep hc2).cell]; exact hx2
                  have HB2 := Lib.hid hB2
                  have HC2 := Lib.hid hc2
                  clear hx2 hB2 hc2
                  go_wp2_with fail
                  have HLT2 := Lib.hid hlt2
                  clear hl hlt2
                  have hN := Whole.new v2 3 [.int .i64 1, .int .i64 2, .int .i64 4, .int .i64 6, .int .i64 7, .int .i64 8, .int .i64 90]
                  have hal : Chg [] v2 (v2.alloc (.cells #[.int .i64 1, .int .i64 2, .int .i64 4, .int .i64 6, .int .i64 7, .int .i64 8, .int .i64 90] 3)) := (Chg.refl [] v2).alloc _
                  generalize v2.alloc (.cells #[.int .i64 1, .int .i64 2, .int .i64 4, .int .i64 6, .int .i64 7, .int .i64 8, .int .i64 90] 3) = v3 at hN hal ⊢
                  generalize v2.heap.size = g3 at hN ⊢
                  have HN := Lib.hid hN
                  have HC3 := Lib.hid (HC2.out.new hal)
                  have HB3 := Lib.hid (HB2.out.keep hal)
                  clear hN hal HC2 HB2
                  go_loopw [121] (fun i Wx => Chg [] v3 Wx ∧ ∃ k : Nat, k ≤ 7 ∧ i = .int .i64 (k : Int)) (fun i _ => 7 - (intOf i).toNat)
                  case atStart => exact ⟨Chg.refl _ _, 0, by omega, rfl⟩
                  case round =>
                    obtain ⟨hc3, k3, hk3, rfl⟩ := hrel
                    obtain ⟨v4, rfl⟩ : ∃ wo : World, wo = wr := ⟨_, rfl⟩
                    by_cases hlt3 : k3 < 7
                    · obtain ⟨n, hn, n1, n2⟩ := rN_get k3 hlt3
                      have hl : v4.cell? ⟨g3, k3, none⟩ = some (.int .i64 (n : Int)) := by rw [(HN.out.keep hc3).cell]; exact hn
                      have HC4 := Lib.hid hc3
                      clear hn hc3
                      go_wp2_with fail
                      refine (lbest_any ((HB1.out.keep HC3.out).keep HC4.out) (HB3.out.keep HC4.out) n n1 n2).mono ?_
                      rintro e v5 ⟨rfl, hc5⟩
                      have HC5 := Lib.hid (HC4.out.new hc5)
                      clear hc5 hl
                      go_wp2_with fail
                      go_roundw
                      case rel =>
                        simp only [decide_eq_true (show (k1 : Int) < 7 by have := HLT1.out; omega), decide_eq_true (show (k2 : Int) < 7 by have := HLT2.out; omega)]
                        exact ⟨_, _, _, _, _, _, _, _, _, _, _, _, ⟨HC5.out, k3 + 1, by omega, (by go_num : Value.int .i64 ((k3 : Int) + 1) = Value.int .i64 ((k3 + 1 : Nat) : Int))⟩, rfl⟩
                      case measure => simp [intOf]; omega
                    · go_wp2_with fail
                      go_roundw
                      case rel => exact ⟨HC3.out.new hc3, k2 + 1, by have := HLT2.out; omega, by go_num⟩
                      case measure => have := HLT2.out; simp [intOf]; omega
                · go_wp2_with fail
                  go_roundw
                  case rel => exact ⟨HC1.out.new hc2, k1 + 1, by have := HLT1.out; omega, by go_num⟩
                  case measure => have := HLT1.out; simp [intOf]; omega
            · have HC1 := Lib.hid (HC6.out.new hc1)
              clear hc1 HC6 HALL HL7 HWL
              go_wp2_with fail
              refine (rreadslaw_any (Bs.nil v1)).mono ?_
              rintro e v2 ⟨rfl, hc2⟩
              have HC2 := Lib.hid (HC1.out.new hc2)
              clear hc2 HC1
              go_wp2_with fail
              refine (rroot_big v2).mono ?_
              rintro e v3 ⟨u3, rfl, ho3, hc3⟩
              rw [rootL_len] at ho3
              obtain ⟨A3, c3, rfl, hB3, _⟩ := Bs.of_own ho3
              have HB3 := Lib.hid hB3
              have HC3 := Lib.hid (HC2.out.new hc3)
              clear hc3 ho3 hB3 HC2
              go_wp2_with fail
              refine (rreadslaw_any HB3.out).mono ?_
              rintro e v4 ⟨rfl, hc4⟩
              have HC4 := Lib.hid (HC3.out.new hc4)
              clear hc4 HC3
              go_wp2_with fail
              refine rknown_any.mono ?_
              rintro e v5 ⟨rfl, hc5⟩
              go_wp2_with fail
              go_ret
              exact ⟨rfl, HC4.out.new hc5⟩
end
end Go.Proofs.Yteodadngnlekfaa
