/-
  E: DeltaRefC, RedoRefR.
-/
import Derived.Test.YtddjgncdjdjgeaaGreatZE6
import Derived.Test.YtddjgncdjdjgeaaGreatZE20
import Derived.Test.YtddjgncdjdjgeaaGreatZE24
import Derived.Test.YtddjgncdjdjgeaaGreatZE34
import Derived.Outline
namespace Go.Proofs.YtddjgncdjdjgeaaGreat
open Go.RowKit
/-- What Undelta has made so far. -/
def UndSo (b : List UInt8) (w wr : World) (v : Value) (k : Nat) : Prop :=
  ∃ ls : List ChV, wr.ownsRow w.heap.size 51 2 v k (chCs ls) ∧ (∀ a ∈ ls, RMade wr w.heap.size a) ∧ asC ls (chsOf b k) ∧ Chg [] w wr
theorem num2_at (l : List UInt8) (k : Nat) (h : k + 1 < l.length) : num2 (l.drop k) = (l[k]'(by omega)).toNat * 256 + (l[k + 1]).toNat := by
  unfold num2
  rw [List.drop_eq_getElem_cons (by omega), List.drop_eq_getElem_cons (show k + 1 < l.length from h)]
  rfl
section
variable {w : World} {A : Option Addr} {n c : Nat}
set_option maxHeartbeats 8000000 in
set_option maxRecDepth 100000 in
theorem rundelta_own {b : List UInt8} (h : Bs w A n c b) (P : Int) :
    Calls Tryz.prog 104 #[.slice A n c, .int .i64 P] w (DReadOwn b P w) := by
  obtain ⟨i0, hi, hz0, hz1, hz2⟩ := info_parts info_change
  obtain ⟨iu, hiu, hzu, hsu, hbu⟩ := info_parts info_byte
  have hlen := h.len
  have hcap := h.cap
  have hmax := h.max
  have H := Lib.hid h
  have HLN := Lib.hid hlen
  clear h hlen
  by_cases h2 : n < 2
  · have HNO := Lib.hid (show ¬ (2 ≤ b.length ∧ b.length = 2 + num2 b * 66 ∧ rightB P (chsOf b (num2 b)) = true) from fun h => by have := HLN.out; omega)
    have hd : decide ((n : Int) < 2) = true := by simp; omega
    go_enter Tryz.func104, Tryz.ntmps104
    go_wp2_with fail
    go_ret2
    exact .inr ⟨HNO.out, rfl, Chg.refl _ _⟩
  have hd : decide ((n : Int) < 2) = false := by simp; omega
  by_cases hP : 64 < P
  · have hd2 : decide (64 < P) = true := by simpa using hP
    have HNO := Lib.hid (show ¬ (2 ≤ b.length ∧ b.length = 2 + num2 b * 66 ∧ rightB P (chsOf b (num2 b)) = true) from fun h => by
      have h3 := h.2.2
      unfold rightB at h3
      rw [decide_eq_false (by omega)] at h3
      cases h3)
    go_enter Tryz.func104, Tryz.ntmps104
    go_wp2_with fail
    go_ret2
    exact .inr ⟨HNO.out, rfl, Chg.refl _ _⟩
  have hd2 : decide (64 < P) = false := by simpa using hP
  obtain ⟨N, hN⟩ : ∃ N, N = num2 b := ⟨_, rfl⟩
  have hN6 : N < 65536 := by rw [hN]; exact num2_lt b
  obtain ⟨ad, rfl, hbw, hx⟩ := H.out.src (by rw [bts_len, HLN.out]; omega)
  obtain ⟨b0, o0, s0⟩ := ad
  obtain rfl : s0 = none := H.out.spot (by omega) _ rfl
  have x0 := hx 0 _ (bts_get b 0 (by rw [HLN.out]; omega))
  have x1 := hx 1 _ (bts_get b 1 (by rw [HLN.out]; omega))
  have hor := or_two (b[0]'(by rw [HLN.out]; omega)) (b[1]'(by rw [HLN.out]; omega))
  rw [show (b[0]'(by rw [HLN.out]; omega)).toNat * 256 + (b[1]'(by rw [HLN.out]; omega)).toNat = N by rw [hN, ← num2_at b 0 (by rw [HLN.out]; omega), List.drop_zero]] at hor
  rw [add_plain] at x0 x1
  rw [Nat.add_zero] at x0
  unfold B8 at x0 x1
  have HN := Lib.hid hN
  have HOR := Lib.hid hor
  clear hN hx hor
  have hq0 := (b[0]'(by rw [HLN.out]; omega)).toNat_lt
  have hq1 := (b[1]'(by rw [HLN.out]; omega)).toNat_lt
  generalize b[0]'(by rw [HLN.out]; omega) = q0 at x0 HOR hq0
  generalize b[1]'(by rw [HLN.out]; omega) = q1 at x1 HOR hq1
  have hn0 : (0 : Int) < (n : Int) := by omega
  have hn1 : (1 : Int) < (n : Int) := by omega
  go_enter Tryz.func104, Tryz.ntmps104
  go_wp2_with fail
  go_quiet (fail)
  rw [HOR.out]
  clear x0 x1 hq0 hq1 HOR
  have HC1 := Lib.hid ((Chg.refl [] w).drewN nq)
  by_cases h66 : n = 2 + N * 66
  · have hb1 : ((n : Int) == 2 + (N : Int) * 66) = true := by simp; omega
    have hb2 : (!((n : Int) == 2 + (N : Int) * 66)) = false := by rw [hb1]; rfl
    have hb3 : ((n : Int) != 2 + (N : Int) * 66) = false := by simp; omega
    have H66 := Lib.hid h66
    clear h66
    go_wp2_with fail
    go_loopw [7, 8] (fun v i wr => ∃ k : Nat, k ≤ N ∧ i = .int .i64 (k : Int) ∧ UndSo b w wr v k) (fun _ i _ => N - (intOf i).toNat)
    case atStart => exact ⟨0, Nat.zero_le _, rfl, [], World.ownsRow_nil _ _ _ _, fun a ha => by simp at ha, asC_nil, HC1.out⟩
    case round =>
      obtain ⟨k, hk, rfl, ls, hown, hmade, has, hcr⟩ := hrel
      have hwr := hcr.size
      have HM := Lib.hid hmade
      have HAS := Lib.hid has
      have HC := Lib.hid hcr
      clear hmade has hcr
      by_cases hlt : k < N
      · have ht66 : 2 + k * 66 + 66 ≤ n := by have := H66.out; omega
        have htI : (k : Int) < (N : Int) := by omega
        have htc : ¬ c = 2 + k * 66 := by omega
        obtain ⟨t, ht⟩ : ∃ t, t = 2 + k * 66 := ⟨_, rfl⟩
        have hcut := H.out.cut (lo := t + 2) (hi := t + 2 + 64) (by omega) (by omega)
        rw [if_neg (by omega), Option.map_some, add_plain] at hcut
        obtain ⟨Y, hY⟩ : ∃ Y, Y = (b.drop (t + 2)).take 64 := ⟨_, rfl⟩
        rw [show t + 2 + 64 - (t + 2) = 64 by omega, ← hY] at hcut
        have hYl : Y.length = 64 := hcut.len
        have HSY := Lib.hid hcut.src
        obtain ⟨_, e1, _, hx⟩ := H.out.src (by rw [bts_len, HLN.out]; omega)
        injection e1 with e1
        subst e1
        have x0 := hx t _ (bts_get b t (by rw [HLN.out]; omega))
        have x1 := hx (t + 1) _ (bts_get b (t + 1) (by rw [HLN.out]; omega))
        rw [add_plain] at x0 x1
        unfold B8 at x0 x1
        have hpg := num2_lt (b.drop t)
        have hor := or_two (b[t]'(by rw [HLN.out]; omega)) (b[t + 1]'(by rw [HLN.out]; omega))
        rw [← num2_at b t (by rw [HLN.out]; omega)] at hor
        obtain ⟨pg, hpq⟩ : ∃ pg, pg = num2 (b.drop t) := ⟨_, rfl⟩
        rw [← hpq] at hor hpg
        have hq0 := (b[t]'(by rw [HLN.out]; omega)).toNat_lt
        have hq1 := (b[t + 1]'(by rw [HLN.out]; omega)).toNat_lt
        generalize b[t]'(by rw [HLN.out]; omega) = q0 at x0 hor hq0
        generalize b[t + 1]'(by rw [HLN.out]; omega) = q1 at x1 hor hq1
        have HX0 := Lib.hid x0
        have HX1 := Lib.hid x1
        have HY := Lib.hid hY
        have HYL := Lib.hid hYl
        have HPG := Lib.hid hpq
        have HT := Lib.hid ht
        have HOR := Lib.hid hor
        have y0 : wr.cell? ⟨b0, o0 + (2 + k * 66), none⟩ = some (.int .u8 (q0.toNat : Int)) := by
          rw [← ht, ← x0]; exact World.cell?_of_block (w := w) (HC.out.block b0 hbw (by simp))
        have y1 : wr.cell? ⟨b0, o0 + (2 + k * 66) + 1, none⟩ = some (.int .u8 (q1.toNat : Int)) := by
          rw [← ht, Nat.add_assoc, ← x1]; exact World.cell?_of_block (w := w) (HC.out.block b0 hbw (by simp))
        have hbr : b0 < wr.heap.size := by omega
        have htn : (2 + (k : Int) * 66).toNat = 2 + k * 66 := by omega
        obtain ⟨A3, c3, rfl, _, _, _, _⟩ := chs_own' hown (fun a ha => (HM.out a ha).ok)
        obtain ⟨X, hX⟩ : ∃ X, X = chCs ls := ⟨_, rfl⟩
        rw [← hX] at hown
        have HXX := Lib.hid hX
        have HOW := Lib.hid hown
        have hYb := Lib.hid (show (bts Y).length = 64 by rw [bts_len, hYl])
        have hl1 : (1 : Int) < (n : Int) - (2 + (k : Int) * 66) := by omega
        have hsl : Src wr (some ⟨b0, o0 + t + 2, none⟩) (bts Y) := by
          have := HSY.out.keep HC.out
          rwa [← Nat.add_assoc] at this
        have HSL := Lib.hid hsl
        clear hcut hY hYl x0 x1 hx hpq ht hX hown hsl
        go_wp2_with fail
        rw [← HT.out]
        rw [← HT.out] at y0 y1
        obtain ⟨m, hm⟩ : ∃ m, m = n - t := ⟨_, rfl⟩
        obtain ⟨d, hd5⟩ : ∃ d, d = c - t := ⟨_, rfl⟩
        have hm66 : 66 ≤ m := by have := HT.out; omega
        have hmd : m ≤ d := by omega
        rw [← hm, ← hd5]
        have HMD := Lib.hid (And.intro hm hd5)
        clear hm hd5
        have ho0 : ((wr.alloc (.cells #[] 5)).drew).ownsRow wr.heap.size 5 1 (.slice (some ⟨wr.heap.size, 0, none⟩) 0 0) 0 [] :=
          own_of_whole (B := wr.heap.size) (n := 0) (c := 0) (Whole.new wr 5 []) (Nat.le_refl _) rfl (by omega) (by unfold maxLen; omega)
        have hd2' : ¬ d = 2 := by omega
        have hdI : (66 : Int) ≤ (d : Int) := by omega
        have hmI : (1 : Int) < (m : Int) := by omega
        have hmJ : 0 < m := by omega
        have hmK : 1 < m := by omega
        have hsh : IntKind.i64.wrap ((q0.toNat : Int) * 256) = (q0.toNat : Int) * 256 := IntWalk.i64_in _ (by omega)
        have hsi : IntKind.i64.wrap (q0.toNat : Int) = (q0.toNat : Int) := IntWalk.i64_in _ (by omega)
        have hsj : IntKind.i64.wrap (q1.toNat : Int) = (q1.toNat : Int) := IntWalk.i64_in _ (by omega)
        have hx1 := Lib.hid (show 0 + 64 ≤ maxLen by unfold maxLen; omega)
        have hx3 := Lib.hid (show k + 1 ≤ maxLen by unfold maxLen; omega)
        have hx4 := Lib.hid (show (k + 1) * 32 ≤ 140737488355328 by omega)
        go_region_law (first
          | (refine step_append_src rfl (.tmp 54) (.tmp 56) 30 rfl wr.heap.size 5 iu _ 1 Tryz.underlying30 hiu hzu hsu hbu cells_u8 (.slice (some ⟨wr.heap.size, 0, none⟩) 0 0) 0 [] rfl ho0 (some ⟨b0, o0 + t + 2, none⟩) 64 (d - 2) (bts Y) rfl hYb.out (HSL.out.keep ((Chg.refl [] wr).alloc _).drew) (bts_one _) hx1.out (by omega) (by simp) ?_
             intro v5 w5 ho5 hg5
             have hc5 : Chg [] wr w5 := (((Chg.refl [] wr).alloc _).drew).own ho0 (Nat.le_refl _) hg5
             rw [Nat.zero_add, List.nil_append] at ho5
             obtain ⟨g5, r5, rfl, hb5, hW5, hm5⟩ := own_whole ho5 (by omega)
             have e0 : w5.cell? ⟨b0, o0 + t, none⟩ = some (.int .u8 (q0.toNat : Int)) := (World.cell?_of_block (w := wr) (hc5.block b0 hbr (by simp))).trans y0
             have e1 : w5.cell? ⟨b0, o0 + t + 1, none⟩ = some (.int .u8 (q1.toNat : Int)) := (World.cell?_of_block (w := wr) (hc5.block b0 hbr (by simp))).trans y1
             have HW5 := Lib.hid hW5
             have HM5 := Lib.hid hm5
             clear ho5 hg5 hW5 hm5)
          | (refine step_append_n rfl (.tmp 43) (.tmp 59) 52 rfl w.heap.size 51 i0 _ 2 32 Tryz.underlying52 hi hz0 hz1 hz2 rfl (by decide) (.slice A3 k c3) k X rfl (rown_chg (rown_chg HOW.out hc5 (by simp)) ((Chg.refl [] w5).alloc _) (by simp)) ⟨w5.heap.size, 0, none⟩ 1 1 [.int .i64 (pg : Int), .slice (some ⟨g5, 0, none⟩) 64 (64 + r5.length)] rfl rfl (cells_page w5 _ _) (by simp [Value.oneCell']) hx3.out hx4.out (by have := hc5.size; simp; omega) ?_
             intro v6 w6 ho6 hg6))
        all_goals
          have HAL6 := Lib.hid (rown_chg (rown_chg HOW.out hc5 (by simp)) ((Chg.refl [] w5).alloc (.cells #[.int .i64 (pg : Int), .slice (some ⟨g5, 0, none⟩) 64 (64 + r5.length)] 51)) (by simp))
          have HC5 := Lib.hid hc5
          have HG6 := Lib.hid hg6
          have HO6 := Lib.hid ho6
          clear e0 e1 y0 y1 hg6 hc5 ho6 hor hsh hsi hsj ho0
          go_wp2_with fail
          go_roundw
          case rel =>
            have hsz5 := HC5.out.size
            refine ⟨k + 1, by omega, by go_num, ls ++ [⟨(pg : Int), some ⟨g5, 0, none⟩, 64, 64 + r5.length, Y⟩], ?_, ?_, ?_, ?_⟩
            · rw [chCs_app, chCs_one, ← HXX.out]
              exact HO6.out
            · intro a ha
              rcases List.mem_append.1 ha with h | h
              · exact (((HM.out a h).chg HC5.out (by simp)).chg ((Chg.refl [] w5).alloc _) (by simp)).grown HAL6.out HG6.out
              · simp only [List.mem_cons, List.not_mem_nil, or_false] at h
                subst h
                have hnew : RMade w5 w.heap.size ⟨(pg : Int), some ⟨g5, 0, none⟩, 64, 64 + r5.length, Y⟩ := ⟨⟨g5, r5, rfl, by omega, HW5.out, rfl, by have := HM5.out; unfold maxLen at this; omega⟩, HYL.out, rfl, by simp only; omega⟩
                exact (hnew.chg ((Chg.refl [] w5).alloc _) (by simp)).grown HAL6.out HG6.out
            · rw [chsOf_next]
              refine asC_snoc HAS.out ?_ rfl
              unfold keyC chOf
              rw [HY.out, HT.out, HPG.out, HT.out]
            · exact chg_grown2 ((HC.out.new HC5.out).alloc _) HG6.out fun g hgg => (HAL6.out.lt g hgg).1
          case measure => simp [intOf]; omega
      · obtain rfl : N = k := by omega
        have htI : (N : Int) ≤ (N : Int) := by omega
        have HOWN := Lib.hid hown
        obtain ⟨A5, c5, rfl, hll, hch, hm5, hnc5, _⟩ := chs_own' hown (fun a ha => (HM.out a ha).ok)
        have HLL := Lib.hid hll
        have HCH := Lib.hid hch
        clear hll hch hown
        cases hr : rightB P (chsOf b N) with
        | true =>
          have HR := Lib.hid hr
          have hrr : rightB P ls = true := by rw [asC_rightB HAS.out P, hr]
          clear hr
          go_wp2_with fail
          refine (rchanges_any HCH.out HLL.out hm5 P).mono ?_
          rintro e w7 ⟨rfl, hc7⟩
          rw [hrr]
          clear hrr
          go_wp2_with fail
          go_ret2
          refine .inl ⟨by have := HLN.out; omega, by have := HLN.out; have := H66.out; have := HN.out; omega, ?_, _, ls, rfl, ?_, fun a ha => (HM.out a ha).chg hc7 (by simp), ?_, ?_, HC.out.new hc7⟩
          · rw [← HN.out]; exact HR.out
          · rw [← HN.out]; exact rown_chg HOWN.out hc7 (by simp)
          · rw [← HN.out]; exact HLL.out
          · rw [← HN.out]; exact HAS.out
        | false =>
          have HR := Lib.hid hr
          have hrr : rightB P ls = false := by rw [asC_rightB HAS.out P, hr]
          clear hr
          go_wp2_with fail
          refine (rchanges_any HCH.out HLL.out hm5 P).mono ?_
          rintro e w7 ⟨rfl, hc7⟩
          rw [hrr]
          clear hrr
          go_wp2_with fail
          go_ret2
          refine .inr ⟨fun h => ?_, rfl, HC.out.new hc7⟩
          have := h.2.2
          rw [← HN.out, HR.out] at this
          cases this
  · have HNO := Lib.hid (show ¬ (2 ≤ b.length ∧ b.length = 2 + num2 b * 66 ∧ rightB P (chsOf b (num2 b)) = true) from fun h => by have := HLN.out; have := h.2.1; have := HN.out; omega)
    have hb1 : ((n : Int) == 2 + (N : Int) * 66) = false := by simp; omega
    have hb2 : (!((n : Int) == 2 + (N : Int) * 66)) = true := by rw [hb1]; rfl
    go_wp2_with fail
    go_ret2
    exact .inr ⟨HNO.out, rfl, HC1.out⟩
end
end Go.Proofs.YtddjgncdjdjgeaaGreat
namespace Go.Proofs.YtddjgncdjdjgeaaGreat
open Go.RowKit
section
variable {w : World} {p gL gN gW : Nat} {rL rN : List Value} {lf m0 : Int} {s : St}
set_option maxHeartbeats 2000000 in
set_option maxRecDepth 100000 in
theorem rrec_any (h : Rfx w p gL gN gW rL rN lf m0 s) (L P : Int) (ep : Nat) :
    Calls Tryz.prog 61 #[.pointer (some ⟨p, 0, none⟩), rootV L P (ep : Int)] w (RecPost w (recsS s L P ep)) := by
  obtain ⟨i, hi, hz, hs1, hb⟩ := info_parts info_chs
  have hr0 : rootV L P (ep : Int) = .agg #[.int .i64 L, .int .i64 P, .int .u32 (ep : Int)] := rfl
  have H := Lib.hid h
  clear h
  rw [hr0]
  go_enter Tryz.func61, Tryz.ntmps61
  go_wp2_with fail
  have hR := Whole.new w 58 [.int .i64 L, .int .i64 P, .int .u32 (ep : Int)]
  have hc1 : Chg [] w (w.alloc (.cells #[.int .i64 L, .int .i64 P, .int .u32 (ep : Int)] 58)) := (Chg.refl [] w).alloc _
  obtain ⟨g, hg⟩ : ∃ g, g = w.heap.size := ⟨_, rfl⟩
  rw [← hg] at hR ⊢
  generalize w.alloc (.cells #[.int .i64 L, .int .i64 P, .int .u32 (ep : Int)] 58) = w1 at hc1 hR ⊢
  clear hg
  have hld := fun (W : World) (hW : Chg [] w1.drew W) => root_cells (hR.drew.keep hW)
  have kd : ∀ W, Chg [] w1.drew W → Rfx W p gL gN gW rL rN lf m0 s := fun W hW => (H.out.keep hc1.drew).keep hW
  obtain ⟨lg, hlg⟩ : ∃ lg, lg = logL s L P ep := ⟨_, rfl⟩
  obtain ⟨X, hX⟩ : ∃ X, X = scanS lg ep := ⟨_, rfl⟩
  have hll : lg.length ≤ 4096 := by rw [hlg]; exact logL_small s L P ep
  have hXs := scanS_small lg ep
  rw [← hX] at hXs
  have HRS := Lib.hid (show recsS s L P ep = recF P X.1 by unfold recsS; rw [← hlg, ← hX])
  have hwz : w1.drew.heap.size = w1.heap.size := rfl
  refine wp_flow (by kernel_rfl) plainT plainT_ok (by kernel_rfl) ?_
  refine flow_move_out plainT_ok rfl rfl rfl ?_
  refine flow1h (r := rootV L P ep) plainT_ok rfl (.out rfl rfl) rfl (fun ev W he hW e1 => by obtain ⟨c0, c1, c2, _, _, _⟩ := hld W hW; go_simp) ?_
  refine flow_calld (ownF w1.drew.heap.size 5 (bts lg)) (keeps_own _ _ _) (.inr (keeps_own _ _ _)) (by kernel_rfl) rfl (.cons (.inn rfl) (.cons (.inn rfl) .nil)) (fun W hW => (rlog_any (kd W hW) L P ep).mono ?_) ?_
  · rintro e w' ⟨v, rfl, ho, hc⟩
    rw [← hlg] at ho
    exact ⟨_, rfl, hc, by rw [ownF, bts_len]; exact own_more ho hW.size⟩
  refine flow1 (r := .pointer (some ⟨g, 2, none⟩)) plainT_ok rfl (.out rfl rfl) rfl (fun ev W he e1 => by go_simp) ?_
  refine flow1h (r := .int .u32 (ep : Int)) plainT_ok rfl (.inn rfl) rfl (fun ev W he hW e1 => by obtain ⟨c0, c1, c2, _, _, _⟩ := hld W hW; go_simp) ?_
  refine flow_call (scanF w1.drew.heap.size X) (keeps_scan _ _) (.inr (keeps_scan _ _)) (by kernel_rfl) rfl (fun ev W he hW hf => ?_) ?_
  · have h1 : (ownF w1.drew.heap.size 5 (bts lg)) (ev (.tmp 17)) W := hf.1
    have h2 : ev (.tmp 19) = .int .u32 (ep : Int) := hf.2.1
    rw [ownF, bts_len] at h1
    obtain ⟨A, c, e1, hB, _⟩ := Bs.of_own h1
    show Calls _ _ #[ev (.tmp 17), ev (.tmp 19)] W _
    rw [e1, h2]
    refine (rscan_any hB ep (by omega)).mono ?_
    rintro e w' ⟨v, vs, rfl, ho, hr, hc⟩
    rw [← hX] at ho hr ⊢
    exact ⟨_, rfl, hc, v, vs, rfl, own_more ho hW.size, rows_more hr hW.size⟩
  refine flow_move plainT_ok rfl (keeps_scan _ _) (.inr (keeps_scan _ _)) rfl ?_
  refine flow_scan0 plainT_ok (keeps_frm _ _) (.inr (keeps_frm _ _)) rfl rfl ?_
  refine flow_scan1 plainT_ok rfl rfl ?_
  refine flow_assign plainT_ok rfl (keeps_frm _ _) (.inr (keeps_frm _ _)) rfl ?_
  refine flow_assign plainT_ok rfl (keeps_isV _) (.inr (keeps_isV _)) rfl ?_
  intro vs W hW hF
  obtain ⟨rs, ho, hrows⟩ := hF 6 _ rfl rfl
  have e7 : vs 7 = .int .i64 (X.2 : Int) := hF 7 _ rfl rfl
  generalize hFv : vs 6 = Fv at ho
  simp only [putAll, Act.put, List.setIfInBounds_toArray, List.set_cons_zero, List.set_cons_succ, e7, hFv]
  obtain ⟨Y, z⟩ := X
  simp only at ho hrows HRS hXs ⊢
  obtain ⟨n, hn⟩ : ∃ n, n = Y.length := ⟨_, rfl⟩
  rw [← hn] at ho hXs
  have HN := Lib.hid hn
  obtain ⟨A6, c6, rfl, hl6, _, hs6, hp6⟩ := own_slice ho
  have HCW := Lib.hid (hc1.new (wdrew hW))
  have HRW := Lib.hid (hR.drew.keep hW)
  have HS6 := Lib.hid hs6
  have HP6 := Lib.hid hp6
  have HROW := Lib.hid hrows
  have HYL := Lib.hid hXs.2
  have hn4 : n ≤ 4097 := by omega
  have HL6 := Lib.hid hl6
  have HLG := Lib.hid hll
  clear hW hF hld hR hc1 kd e7 hFv hs6 hp6 hrows ho hXs hlg hX hn hl6 hwz hll
  go_wp2_with fail
  go_loopw [8, 9, 25] (fun v a i wr => ∃ k : Nat, k ≤ n ∧ i = .int .i64 (k : Int) ∧ (∃ m : Nat, a = .int .i64 (m : Int) ∧ Hid (m = lenS (Y.take k))) ∧ (∃ vs, wr.ownsRow W.heap.size 52 1 v k vs ∧ Hid (Recs W.heap.size wr vs ((Y.take k).map recM))) ∧ Hid (∀ (j : Nat) b, j < k → Y[j]? = some b → okR P b) ∧ Hid (Chg [] W wr)) (fun _ _ i _ => n - (intOf i).toNat)
  case atStart => exact ⟨0, Nat.zero_le _, rfl, ⟨0, rfl, Lib.hid rfl⟩, ⟨[], own_nil _ _ _, Lib.hid (by rw [List.take_zero]; exact Recs.nil _ _)⟩, Lib.hid (fun j b hj => absurd hj (by omega)), Lib.hid (Chg.refl _ _)⟩
  case round =>
    obtain ⟨k, hk, rfl, ⟨m, rfl, HM⟩, ⟨vs, hown, HRC⟩, HOK, HCr⟩ := hrel
    obtain ⟨Av, cv, rfl, hvl, hvc, _⟩ := own_slice hown
    have HCa := Lib.hid (HCW.out.new HCr.out)
    by_cases hlt : k < n
    · have hkI : (k : Int) < (n : Int) := by omega
      have HS := Lib.hid ((HS6.out).keep HCr.out)
      obtain ⟨ad, rfl, _, hcell⟩ := HS.out (by rw [HL6.out]; omega)
      obtain ⟨b6, o6, s6⟩ := ad
      obtain rfl : s6 = none := (HP6.out _ rfl).1
      have hkl : k < rs.length := by rw [HL6.out]; exact hlt
      have hkY : k < Y.length := by rw [← HN.out]; exact hlt
      have hc := hcell k rs[k] (List.getElem?_eq_getElem hkl)
      have hfr := HROW.out.2 k _ _ (List.getElem?_eq_getElem hkl) (List.getElem?_eq_getElem hkY)
      have hyl := HYL.out _ (List.getElem_mem hkY)
      have hYk := Lib.hid (List.getElem?_eq_getElem hkY)
      generalize Y[k] = b at hfr hyl hYk
      generalize rs[k] = fv at hc hfr
      obtain ⟨Ab, cb, rfl, hB, _⟩ := Bs.of_own (own_keep hfr HCr.out)
      rw [add_plain] at hc
      obtain ⟨c0, c1, c2, _, _, _⟩ := root_cells (HRW.out.keep HCr.out)
      obtain ⟨q, hq⟩ : ∃ q, q = b.length := ⟨_, rfl⟩
      rw [← hq] at hB hyl hc
      have HB := Lib.hid hB
      have HQ := Lib.hid hq
      have HLN := Lib.hid (lenS_next Y k b hYk.out)
      have HMN := Lib.hid (recM_next Y k b hYk.out)
      have hq5 : q ≤ 4096 := by have := HLG.out; omega
      clear hfr hB hq hcell hyl
      go_wp2_with fail
      refine (rundelta_own HB.out P).mono ?_
      rintro e w2 (⟨h1, h2, h3, v2, ls, rfl, ho2, hm2, hl2, ha2, hc2⟩ | ⟨hno, rfl, hc2⟩)
      · have HOKb := Lib.hid (show okR P b from ⟨h1, h2, h3⟩)
        have how := own_keep hown hc2
        have HOV := Lib.hid (show w2.ownsRow W.heap.size 51 2 v2 (recM b).length (chCs ls) by rw [recM_len]; exact rown_more' ho2 HCr.out.size)
        have HM2 := Lib.hid (show ∀ a ∈ ls, RMade w2 W.heap.size a from fun a ha => (hm2 a ha).more HCr.out.size)
        have HL2 := Lib.hid (show ls.length = (recM b).length by rw [recM_len]; exact hl2)
        have HA2 := Lib.hid (show asC ls (recM b) from ha2)
        have HC2 := Lib.hid hc2
        have hc2c := cell_keep c0 hc2
        have hx1 := Lib.hid (show k + 1 ≤ maxLen by unfold maxLen; omega)
        have hx2 := Lib.hid (show (k + 1) * 24 ≤ 140737488355328 by omega)
        have hx3 := Lib.hid (show W.heap.size ≤ w2.heap.size from Nat.le_trans HCr.out.size hc2.size)
        have hm4 : m ≤ 17000000 := by
          have h := lenS_le (Y.take k) 4096 (fun r hr => Nat.le_trans (HYL.out r (List.mem_of_mem_take hr)) HLG.out)
          rw [List.length_take] at h
          have := HM.out
          have h5 : min k Y.length * (16 + 4096) ≤ 4097 * 4112 := Nat.mul_le_mul (by omega) (by omega)
          omega
        clear h1 h2 h3 ho2 hm2 hl2 ha2 hc2 c0 c1 c2 hown hc2c
        obtain ⟨A2, q2, rfl, _⟩ : ∃ A2 q2, v2 = .slice A2 (recM b).length q2 ∧ True := by
          rcases HOV.out.2 with ⟨e, h0⟩ | ⟨g, cap, cur, e, _⟩
          · exact ⟨_, _, by rw [e, h0], trivial⟩
          · exact ⟨_, _, e, trivial⟩
        obtain ⟨z2, hz2⟩ : ∃ z, z = (recM b).length := ⟨_, rfl⟩
        rw [← hz2] at HOV HL2 ⊢
        have HZ2 := Lib.hid hz2
        clear hz2
        go_wp2_with (at_builtin
                     refine wpList_append_src rfl (.tmp 38) (.tmp 40) 95 rfl W.heap.size 52 i _ 24 Tryz.underlying95 hi hz hs1 hb cells_chs (.slice Av k cv) k vs rfl (own_keep how ((Chg.refl _ _).alloc _)) (some ⟨w2.heap.size, 0, none⟩) 1 1 [.slice A2 z2 q2] rfl rfl (Src.of_all (Whole.new w2 52 [.slice A2 z2 q2])) (fun u hu => by simp at hu; rw [hu]; rfl) hx1.out hx2.out (by simp; have := hx3.out; omega) ?_
                     intro v4 w4 ho4 hg4 _)
        have hal : Chg [] w2 (w2.alloc (.cells #[.slice A2 z2 q2] 52)) := (Chg.refl [] w2).alloc _
        go_roundw
        case rel =>
          refine ⟨k + 1, by omega, by go_num, ⟨m + (16 + q), by go_num, Lib.hid (by rw [HLN.out, HM.out, HQ.out])⟩, ⟨_, ho4, Lib.hid ?_⟩, Lib.hid (fun j c hj hcx => ?_), Lib.hid (((HCr.out.new HC2.out).alloc _).own (own_keep how hal) ?_ hg4)⟩
          · rw [HMN.out]
            refine ((HRC.out.keep HC2.out).keep hal |>.snoc ?_ (fun a ha => (HM2.out a ha).chg hal (by simp)) ?_ HA2.out).grown (own_keep how hal) hg4
            · rw [← HZ2.out]; exact rown_chg HOV.out hal (by simp)
            · rw [← HZ2.out]; exact HL2.out
          · rcases Nat.lt_or_ge j k with h | h
            · exact HOK.out j c h hcx
            · obtain rfl : j = k := by omega
              rw [hYk.out] at hcx
              cases hcx
              exact HOKb.out
          · exact Nat.le_refl _
        case measure => simp [intOf]; omega
      · have HNO := Lib.hid hno
        have HC2 := Lib.hid hc2
        have how := own_keep hown hc2
        clear hno hc2 c0 c1 c2
        go_wp2_with fail
        go_ret2
        rw [HRS.out, recF_stop P Y k (Nat.le_of_lt hkY) HOK.out (fun c hc => by rw [hYk.out] at hc; cases hc; exact HNO.out), ← HM.out]
        exact ⟨_, vs, rfl, by simpa [(Nat.le_of_lt hkY)] using own_more how HCW.out.size, (HRC.out.keep HC2.out).more HCW.out.size, HCa.out.new HC2.out⟩
    · have hkI : ¬ (k : Int) < (n : Int) := by omega
      have hkn : k = Y.length := by rw [← HN.out]; omega
      have HKN := Lib.hid hkn
      clear hkn
      go_wp2_with fail
      go_ret2
      rw [HRS.out, recF_stop P Y k (by rw [HKN.out]; exact Nat.le_refl _) HOK.out (fun c hc => by rw [List.getElem?_eq_none (by rw [HKN.out]; exact Nat.le_refl _)] at hc; cases hc), ← HM.out]
      exact ⟨_, vs, rfl, by simpa [HKN.out] using own_more hown HCW.out.size, HRC.out.more HCW.out.size, HCa.out⟩
end
end Go.Proofs.YtddjgncdjdjgeaaGreat
