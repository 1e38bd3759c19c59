/-
  RedoTells, part 4: DeltaRefC, RedoRefR, SrcF, RedoRecs, RedoRefA, Waits, Same, RefFlush, AlikeR, Of, New, RefOf, Two, PairR, RedoTurn, Made, RedoPlays, DeltaRefB, TapeFlow.
-/
import Derived.Test.YtlhkmbcjgdjegaaZRedoTells1
import Derived.Test.YtlhkmbcjgdjegaaZRedoTells2
import Derived.Test.YtlhkmbcjgdjegaaZRedoTells3
import Derived.Outline
import Derived.Deep.DeepCutAuto
import Derived.Lib.SliceRun
namespace Go.Proofs.Ytlhkmbcjgdjegaa
open Go.RowKit
/-- What Undelta has made so far. -/
def UndSo (b : List UInt8) (w wr : World) (v : Value) (k : Nat) : Prop :=
  ∃ ls : List ChV, wr.ownsRow w.heap.size 53 2 v k (chCs ls) ∧ (∀ a ∈ ls, RMade wr w.heap.size a) ∧ asC ls (chsOf b k) ∧ Chg [] w wr
theorem num2_at (l : List UInt8) (k : Nat) (h : k + 1 < l.length) : num2 (l.drop k) = (l[k]'(by omega)).toNat * 256 + (l[k + 1]).toNat := by
  unfold num2
  rw [List.drop_eq_getElem_cons (by omega), List.drop_eq_getElem_cons (show k + 1 < l.length from h)]
  rfl
section
variable {w : World} {A : Option Addr} {n c : Nat}
set_option maxHeartbeats 8000000 in
set_option maxRecDepth 100000 in
theorem rundelta_own {b : List UInt8} (h : Bs w A n c b) (P : Int) :
    Calls Try.prog 118 #[.slice A n c, .int .i64 P] w (DReadOwn b P w) := by
  obtain ⟨i0, hi, hz0, hz1, hz2⟩ := info_parts info_change
  obtain ⟨iu, hiu, hzu, hsu, hbu⟩ := info_parts info_byte
  have hlen := h.len
  have hcap := h.cap
  have hmax := h.max
  have H := Lib.hid h
  have HLN := Lib.hid hlen
  clear h hlen
  by_cases h2 : n < 2
  · have HNO := Lib.hid (show ¬ (2 ≤ b.length ∧ b.length = 2 + num2 b * 66 ∧ rightB P (chsOf b (num2 b)) = true) from fun h => by have := HLN.out; omega)
    have hd : decide ((n : Int) < 2) = true := by simp; omega
    go_enter Try.func118, Try.ntmps118
    go_wp2_with fail
    go_ret2
    exact .inr ⟨HNO.out, rfl, Chg.refl _ _⟩
  have hd : decide ((n : Int) < 2) = false := by simp; omega
  by_cases hP : 64 < P
  · have hd2 : decide (64 < P) = true := by simpa using hP
    have HNO := Lib.hid (show ¬ (2 ≤ b.length ∧ b.length = 2 + num2 b * 66 ∧ rightB P (chsOf b (num2 b)) = true) from fun h => by
      have h3 := h.2.2
      unfold rightB at h3
      rw [decide_eq_false (by omega)] at h3
      cases h3)
    go_enter Try.func118, Try.ntmps118
    go_wp2_with fail
    go_ret2
    exact .inr ⟨HNO.out, rfl, Chg.refl _ _⟩
  have hd2 : decide (64 < P) = false := by simpa using hP
  obtain ⟨N, hN⟩ : ∃ N, N = num2 b := ⟨_, rfl⟩
  have hN6 : N < 65536 := by rw [hN]; exact num2_lt b
  obtain ⟨ad, rfl, hbw, hx⟩ := H.out.src (by rw [bts_len, HLN.out]; omega)
  obtain ⟨b0, o0, s0⟩ := ad
  obtain rfl : s0 = none := H.out.spot (by omega) _ rfl
  have x0 := hx 0 _ (bts_get b 0 (by rw [HLN.out]; omega))
  have x1 := hx 1 _ (bts_get b 1 (by rw [HLN.out]; omega))
  have hor := or_two (b[0]'(by rw [HLN.out]; omega)) (b[1]'(by rw [HLN.out]; omega))
  rw [show (b[0]'(by rw [HLN.out]; omega)).toNat * 256 + (b[1]'(by rw [HLN.out]; omega)).toNat = N by rw [hN, ← num2_at b 0 (by rw [HLN.out]; omega), List.drop_zero]] at hor
  rw [add_plain] at x0 x1
  rw [Nat.add_zero] at x0
  unfold B8 at x0 x1
  have HN := Lib.hid hN
  have HOR := Lib.hid hor
  clear hN hx hor
  have hq0 := (b[0]'(by rw [HLN.out]; omega)).toNat_lt
  have hq1 := (b[1]'(by rw [HLN.out]; omega)).toNat_lt
  generalize b[0]'(by rw [HLN.out]; omega) = q0 at x0 HOR hq0
  generalize b[1]'(by rw [HLN.out]; omega) = q1 at x1 HOR hq1
  have hn0 : (0 : Int) < (n : Int) := by omega
  have hn1 : (1 : Int) < (n : Int) := by omega
  go_enter Try.func118, Try.ntmps118
  go_wp2_with fail
  go_quiet (fail)
  rw [HOR.out]
  clear x0 x1 hq0 hq1 HOR
  have HC1 := Lib.hid ((Chg.refl [] w).drewN nq)
  by_cases h66 : n = 2 + N * 66
  · have hb1 : ((n : Int) == 2 + (N : Int) * 66) = true := by simp; omega
    have hb2 : (!((n : Int) == 2 + (N : Int) * 66)) = false := by rw [hb1]; rfl
    have hb3 : ((n : Int) != 2 + (N : Int) * 66) = false := by simp; omega
    have H66 := Lib.hid h66
    clear h66
    go_wp2_with fail
    go_loopw [7, 8] (fun v i wr => ∃ k : Nat, k ≤ N ∧ i = .int .i64 (k : Int) ∧ UndSo b w wr v k) (fun _ i _ => N - (intOf i).toNat)
    case atStart => exact ⟨0, Nat.zero_le _, rfl, [], World.ownsRow_nil _ _ _ _, fun a ha => by simp at ha, asC_nil, HC1.out⟩
    case round =>
      obtain ⟨k, hk, rfl, ls, hown, hmade, has, hcr⟩ := hrel
      have hwr := hcr.size
      have HM := Lib.hid hmade
      have HAS := Lib.hid has
      have HC := Lib.hid hcr
      clear hmade has hcr
      by_cases hlt : k < N
      · have ht66 : 2 + k * 66 + 66 ≤ n := by have := H66.out; omega
        have htI : (k : Int) < (N : Int) := by omega
        have htc : ¬ c = 2 + k * 66 := by omega
        obtain ⟨t, ht⟩ : ∃ t, t = 2 + k * 66 := ⟨_, rfl⟩
        have hcut := H.out.cut (lo := t + 2) (hi := t + 2 + 64) (by omega) (by omega)
        rw [if_neg (by omega), Option.map_some, add_plain] at hcut
        obtain ⟨Y, hY⟩ : ∃ Y, Y = (b.drop (t + 2)).take 64 := ⟨_, rfl⟩
        rw [show t + 2 + 64 - (t + 2) = 64 by omega, ← hY] at hcut
        have hYl : Y.length = 64 := hcut.len
        have HSY := Lib.hid hcut.src
        obtain ⟨_, e1, _, hx⟩ := H.out.src (by rw [bts_len, HLN.out]; omega)
        injection e1 with e1
        subst e1
        have x0 := hx t _ (bts_get b t (by rw [HLN.out]; omega))
        have x1 := hx (t + 1) _ (bts_get b (t + 1) (by rw [HLN.out]; omega))
        rw [add_plain] at x0 x1
        unfold B8 at x0 x1
        have hpg := num2_lt (b.drop t)
        have hor := or_two (b[t]'(by rw [HLN.out]; omega)) (b[t + 1]'(by rw [HLN.out]; omega))
        rw [← num2_at b t (by rw [HLN.out]; omega)] at hor
        obtain ⟨pg, hpq⟩ : ∃ pg, pg = num2 (b.drop t) := ⟨_, rfl⟩
        rw [← hpq] at hor hpg
        have hq0 := (b[t]'(by rw [HLN.out]; omega)).toNat_lt
        have hq1 := (b[t + 1]'(by rw [HLN.out]; omega)).toNat_lt
        generalize b[t]'(by rw [HLN.out]; omega) = q0 at x0 hor hq0
        generalize b[t + 1]'(by rw [HLN.out]; omega) = q1 at x1 hor hq1
        have HX0 := Lib.hid x0
        have HX1 := Lib.hid x1
        have HY := Lib.hid hY
        have HYL := Lib.hid hYl
        have HPG := Lib.hid hpq
        have HT := Lib.hid ht
        have HOR := Lib.hid hor
        have y0 : wr.cell? ⟨b0, o0 + (2 + k * 66), none⟩ = some (.int .u8 (q0.toNat : Int)) := by
          rw [← ht, ← x0]; exact World.cell?_of_block (w := w) (HC.out.block b0 hbw (by simp))
        have y1 : wr.cell? ⟨b0, o0 + (2 + k * 66) + 1, none⟩ = some (.int .u8 (q1.toNat : Int)) := by
          rw [← ht, Nat.add_assoc, ← x1]; exact World.cell?_of_block (w := w) (HC.out.block b0 hbw (by simp))
        have hbr : b0 < wr.heap.size := by omega
        have htn : (2 + (k : Int) * 66).toNat = 2 + k * 66 := by omega
        obtain ⟨A3, c3, rfl, _, _, _, _⟩ := chs_own' hown (fun a ha => (HM.out a ha).ok)
        obtain ⟨X, hX⟩ : ∃ X, X = chCs ls := ⟨_, rfl⟩
        rw [← hX] at hown
        have HXX := Lib.hid hX
        have HOW := Lib.hid hown
        have hYb := Lib.hid (show (bts Y).length = 64 by rw [bts_len, hYl])
        have hl1 : (1 : Int) < (n : Int) - (2 + (k : Int) * 66) := by omega
        have hsl : Src wr (some ⟨b0, o0 + t + 2, none⟩) (bts Y) := by
          have := HSY.out.keep HC.out
          rwa [← Nat.add_assoc] at this
        have HSL := Lib.hid hsl
        clear hcut hY hYl x0 x1 hx hpq ht hX hown hsl
        go_wp2_with fail
        rw [← HT.out]
        rw [← HT.out] at y0 y1
        obtain ⟨m, hm⟩ : ∃ m, m = n - t := ⟨_, rfl⟩
        obtain ⟨d, hd5⟩ : ∃ d, d = c - t := ⟨_, rfl⟩
        have hm66 : 66 ≤ m := by have := HT.out; omega
        have hmd : m ≤ d := by omega
        rw [← hm, ← hd5]
        have HMD := Lib.hid (And.intro hm hd5)
        clear hm hd5
        have ho0 : ((wr.alloc (.cells #[] 5)).drew).ownsRow wr.heap.size 5 1 (.slice (some ⟨wr.heap.size, 0, none⟩) 0 0) 0 [] :=
          own_of_whole (B := wr.heap.size) (n := 0) (c := 0) (Whole.new wr 5 []) (Nat.le_refl _) rfl (by omega) (by unfold maxLen; omega)
        have hd2' : ¬ d = 2 := by omega
        have hdI : (66 : Int) ≤ (d : Int) := by omega
        have hmI : (1 : Int) < (m : Int) := by omega
        have hmJ : 0 < m := by omega
        have hmK : 1 < m := by omega
        have hsh : IntKind.i64.wrap ((q0.toNat : Int) * 256) = (q0.toNat : Int) * 256 := IntWalk.i64_in _ (by omega)
        have hsi : IntKind.i64.wrap (q0.toNat : Int) = (q0.toNat : Int) := IntWalk.i64_in _ (by omega)
        have hsj : IntKind.i64.wrap (q1.toNat : Int) = (q1.toNat : Int) := IntWalk.i64_in _ (by omega)
        have hx1 := Lib.hid (show 0 + 64 ≤ maxLen by unfold maxLen; omega)
        have hx3 := Lib.hid (show k + 1 ≤ maxLen by unfold maxLen; omega)
        have hx4 := Lib.hid (show (k + 1) * 32 ≤ 140737488355328 by omega)
        go_region_law (first
          | (refine step_append_src rfl (.tmp 54) (.tmp 56) 22 rfl wr.heap.size 5 iu _ 1 Try.underlying22 hiu hzu hsu hbu cells_u8 (.slice (some ⟨wr.heap.size, 0, none⟩) 0 0) 0 [] rfl ho0 (some ⟨b0, o0 + t + 2, none⟩) 64 (d - 2) (bts Y) rfl hYb.out (HSL.out.keep ((Chg.refl [] wr).alloc _).drew) (bts_one _) hx1.out (by omega) (by simp) ?_
             intro v5 w5 ho5 hg5
             have hc5 : Chg [] wr w5 := (((Chg.refl [] wr).alloc _).drew).own ho0 (Nat.le_refl _) hg5
             rw [Nat.zero_add, List.nil_append] at ho5
             obtain ⟨g5, r5, rfl, hb5, hW5, hm5⟩ := own_whole ho5 (by omega)
             have e0 : w5.cell? ⟨b0, o0 + t, none⟩ = some (.int .u8 (q0.toNat : Int)) := (World.cell?_of_block (w := wr) (hc5.block b0 hbr (by simp))).trans y0
             have e1 : w5.cell? ⟨b0, o0 + t + 1, none⟩ = some (.int .u8 (q1.toNat : Int)) := (World.cell?_of_block (w := wr) (hc5.block b0 hbr (by simp))).trans y1
             have HW5 := Lib.hid hW5
             have HM5 := Lib.hid hm5
             clear ho5 hg5 hW5 hm5)
          | (refine step_append_n rfl (.tmp 43) (.tmp 59) 47 rfl w.heap.size 53 i0 _ 2 32 Try.underlying47 hi hz0 hz1 hz2 rfl (by decide) (.slice A3 k c3) k X rfl (rown_chg (rown_chg HOW.out hc5 (by simp)) ((Chg.refl [] w5).alloc _) (by simp)) ⟨w5.heap.size, 0, none⟩ 1 1 [.int .i64 (pg : Int), .slice (some ⟨g5, 0, none⟩) 64 (64 + r5.length)] rfl rfl (cells_page w5 _ _) (by simp [Value.oneCell']) hx3.out hx4.out (by have := hc5.size; simp; omega) ?_
             intro v6 w6 ho6 hg6))
        all_goals
          have HAL6 := Lib.hid (rown_chg (rown_chg HOW.out hc5 (by simp)) ((Chg.refl [] w5).alloc (.cells #[.int .i64 (pg : Int), .slice (some ⟨g5, 0, none⟩) 64 (64 + r5.length)] 53)) (by simp))
          have HC5 := Lib.hid hc5
          have HG6 := Lib.hid hg6
          have HO6 := Lib.hid ho6
          clear e0 e1 y0 y1 hg6 hc5 ho6 hor hsh hsi hsj ho0
          go_wp2_with fail
          go_roundw
          case rel =>
            have hsz5 := HC5.out.size
            refine ⟨k + 1, by omega, by go_num, ls ++ [⟨(pg : Int), some ⟨g5, 0, none⟩, 64, 64 + r5.length, Y⟩], ?_, ?_, ?_, ?_⟩
            · rw [chCs_app, chCs_one, ← HXX.out]
              exact HO6.out
            · intro a ha
              rcases List.mem_append.1 ha with h | h
              · exact (((HM.out a h).chg HC5.out (by simp)).chg ((Chg.refl [] w5).alloc _) (by simp)).grown HAL6.out HG6.out
              · simp only [List.mem_cons, List.not_mem_nil, or_false] at h
                subst h
                have hnew : RMade w5 w.heap.size ⟨(pg : Int), some ⟨g5, 0, none⟩, 64, 64 + r5.length, Y⟩ := ⟨⟨g5, r5, rfl, by omega, HW5.out, rfl, by have := HM5.out; unfold maxLen at this; omega⟩, HYL.out, rfl, by simp only; omega⟩
                exact (hnew.chg ((Chg.refl [] w5).alloc _) (by simp)).grown HAL6.out HG6.out
            · rw [chsOf_next]
              refine asC_snoc HAS.out ?_ rfl
              unfold keyC chOf
              rw [HY.out, HT.out, HPG.out, HT.out]
            · exact chg_grown2 ((HC.out.new HC5.out).alloc _) HG6.out fun g hgg => (HAL6.out.lt g hgg).1
          case measure => simp [intOf]; omega
      · obtain rfl : N = k := by omega
        have htI : (N : Int) ≤ (N : Int) := by omega
        have HOWN := Lib.hid hown
        obtain ⟨A5, c5, rfl, hll, hch, hm5, hnc5, _⟩ := chs_own' hown (fun a ha => (HM.out a ha).ok)
        have HLL := Lib.hid hll
        have HCH := Lib.hid hch
        clear hll hch hown
        cases hr : rightB P (chsOf b N) with
        | true =>
          have HR := Lib.hid hr
          have hrr : rightB P ls = true := by rw [asC_rightB HAS.out P, hr]
          clear hr
          go_wp2_with fail
          refine (rchanges_any HCH.out HLL.out hm5 P).mono ?_
          rintro e w7 ⟨rfl, hc7⟩
          rw [hrr]
          clear hrr
          go_wp2_with fail
          go_ret2
          refine .inl ⟨by have := HLN.out; omega, by have := HLN.out; have := H66.out; have := HN.out; omega, ?_, _, ls, rfl, ?_, fun a ha => (HM.out a ha).chg hc7 (by simp), ?_, ?_, HC.out.new hc7⟩
          · rw [← HN.out]; exact HR.out
          · rw [← HN.out]; exact rown_chg HOWN.out hc7 (by simp)
          · rw [← HN.out]; exact HLL.out
          · rw [← HN.out]; exact HAS.out
        | false =>
          have HR := Lib.hid hr
          have hrr : rightB P ls = false := by rw [asC_rightB HAS.out P, hr]
          clear hr
          go_wp2_with fail
          refine (rchanges_any HCH.out HLL.out hm5 P).mono ?_
          rintro e w7 ⟨rfl, hc7⟩
          rw [hrr]
          clear hrr
          go_wp2_with fail
          go_ret2
          refine .inr ⟨fun h => ?_, rfl, HC.out.new hc7⟩
          have := h.2.2
          rw [← HN.out, HR.out] at this
          cases this
  · have HNO := Lib.hid (show ¬ (2 ≤ b.length ∧ b.length = 2 + num2 b * 66 ∧ rightB P (chsOf b (num2 b)) = true) from fun h => by have := HLN.out; have := h.2.1; have := HN.out; omega)
    have hb1 : ((n : Int) == 2 + (N : Int) * 66) = false := by simp; omega
    have hb2 : (!((n : Int) == 2 + (N : Int) * 66)) = true := by rw [hb1]; rfl
    go_wp2_with fail
    go_ret2
    exact .inr ⟨HNO.out, rfl, HC1.out⟩
theorem rundelta_any {b : List UInt8} (h : Bs w A n c b) (P : Int) :
    Calls Try.prog 118 #[.slice A n c, .int .i64 P] w (DReadPost b P w) := (rundelta_own h P).mono fun _ _ => DReadOwn.post
end
end Go.Proofs.Ytlhkmbcjgdjegaa
namespace Go.Proofs.Ytlhkmbcjgdjegaa
open Go.RowKit
section
variable {w : World} {p gL gN gW : Nat} {rL rN : List Value} {m0 : Int} {s : St}
set_option maxHeartbeats 2000000 in
set_option maxRecDepth 100000 in
theorem rrec_any (h : Rfd w p gL gN gW rL rN m0 s) (L P : Int) (ep : Nat) :
    Calls Try.prog 104 #[.pointer (some ⟨p, 0, none⟩), rootV L P (ep : Int)] w (RecPost w (recsS s L P ep)) := by
  obtain ⟨i, hi, hz, hs1, hb⟩ := info_parts info_chs
  have hr0 : rootV L P (ep : Int) = .agg #[.int .i64 L, .int .i64 P, .int .u32 (ep : Int)] := rfl
  have H := Lib.hid h
  clear h
  rw [hr0]
  go_enter Try.func104, Try.ntmps104
  go_wp2_with fail
  have hR := Whole.new w 26 [.int .i64 L, .int .i64 P, .int .u32 (ep : Int)]
  have hc1 : Chg [] w (w.alloc (.cells #[.int .i64 L, .int .i64 P, .int .u32 (ep : Int)] 26)) := (Chg.refl [] w).alloc _
  obtain ⟨g, hg⟩ : ∃ g, g = w.heap.size := ⟨_, rfl⟩
  rw [← hg] at hR ⊢
  generalize w.alloc (.cells #[.int .i64 L, .int .i64 P, .int .u32 (ep : Int)] 26) = w1 at hc1 hR ⊢
  clear hg
  have hld := fun (W : World) (hW : Chg [] w1.drew W) => root_cells (hR.drew.keep hW)
  have kd : ∀ W, Chg [] w1.drew W → Rfd W p gL gN gW rL rN m0 s := fun W hW => (H.out.keep hc1.drew).keep hW
  obtain ⟨lg, hlg⟩ : ∃ lg, lg = logL s L P ep := ⟨_, rfl⟩
  obtain ⟨X, hX⟩ : ∃ X, X = scanS lg ep := ⟨_, rfl⟩
  have hll : lg.length ≤ 4096 := by rw [hlg]; exact logL_small s L P ep
  have hXs := scanS_small lg ep
  rw [← hX] at hXs
  have HRS := Lib.hid (show recsS s L P ep = recF P X.1 by unfold recsS; rw [← hlg, ← hX])
  have hwz : w1.drew.heap.size = w1.heap.size := rfl
  refine wp_flow (by kernel_rfl) plainT plainT_ok (by kernel_rfl) ?_
  refine flow_move_out plainT_ok rfl rfl rfl ?_
  refine flow1h (r := rootV L P ep) plainT_ok rfl (.out rfl rfl) rfl (fun ev W he hW e1 => by obtain ⟨c0, c1, c2, _, _, _⟩ := hld W hW; go_simp) ?_
  refine flow_calld (ownF w1.drew.heap.size 5 (bts lg)) (keeps_own _ _ _) (.inr (keeps_own _ _ _)) (by kernel_rfl) rfl (.cons (.inn rfl) (.cons (.inn rfl) .nil)) (fun W hW => (rlog_any (kd W hW) L P ep).mono ?_) ?_
  · rintro e w' ⟨v, rfl, ho, hc⟩
    rw [← hlg] at ho
    exact ⟨_, rfl, hc, by rw [ownF, bts_len]; exact own_more ho hW.size⟩
  refine flow1 (r := .pointer (some ⟨g, 2, none⟩)) plainT_ok rfl (.out rfl rfl) rfl (fun ev W he e1 => by go_simp) ?_
  refine flow1h (r := .int .u32 (ep : Int)) plainT_ok rfl (.inn rfl) rfl (fun ev W he hW e1 => by obtain ⟨c0, c1, c2, _, _, _⟩ := hld W hW; go_simp) ?_
  refine flow_call (scanF w1.drew.heap.size X) (keeps_scan _ _) (.inr (keeps_scan _ _)) (by kernel_rfl) rfl (fun ev W he hW hf => ?_) ?_
  · have h1 : (ownF w1.drew.heap.size 5 (bts lg)) (ev (.tmp 17)) W := hf.1
    have h2 : ev (.tmp 19) = .int .u32 (ep : Int) := hf.2.1
    rw [ownF, bts_len] at h1
    obtain ⟨A, c, e1, hB, _⟩ := Bs.of_own h1
    show Calls _ _ #[ev (.tmp 17), ev (.tmp 19)] W _
    rw [e1, h2]
    refine (rscan_any hB ep (by omega)).mono ?_
    rintro e w' ⟨v, vs, rfl, ho, hr, hc⟩
    rw [← hX] at ho hr ⊢
    exact ⟨_, rfl, hc, v, vs, rfl, own_more ho hW.size, rows_more hr hW.size⟩
  refine flow_move plainT_ok rfl (keeps_scan _ _) (.inr (keeps_scan _ _)) rfl ?_
  refine flow_scan0 plainT_ok (keeps_frm _ _) (.inr (keeps_frm _ _)) rfl rfl ?_
  refine flow_scan1 plainT_ok rfl rfl ?_
  refine flow_assign plainT_ok rfl (keeps_frm _ _) (.inr (keeps_frm _ _)) rfl ?_
  refine flow_assign plainT_ok rfl (keeps_isV _) (.inr (keeps_isV _)) rfl ?_
  intro vs W hW hF
  obtain ⟨rs, ho, hrows⟩ := hF 6 _ rfl rfl
  have e7 : vs 7 = .int .i64 (X.2 : Int) := hF 7 _ rfl rfl
  generalize hFv : vs 6 = Fv at ho
  simp only [putAll, Act.put, List.setIfInBounds_toArray, List.set_cons_zero, List.set_cons_succ, e7, hFv]
  obtain ⟨Y, z⟩ := X
  simp only at ho hrows HRS hXs ⊢
  obtain ⟨n, hn⟩ : ∃ n, n = Y.length := ⟨_, rfl⟩
  rw [← hn] at ho hXs
  have HN := Lib.hid hn
  obtain ⟨A6, c6, rfl, hl6, _, hs6, hp6⟩ := own_slice ho
  have HCW := Lib.hid (hc1.new (wdrew hW))
  have HRW := Lib.hid (hR.drew.keep hW)
  have HS6 := Lib.hid hs6
  have HP6 := Lib.hid hp6
  have HROW := Lib.hid hrows
  have HYL := Lib.hid hXs.2
  have hn4 : n ≤ 4097 := by omega
  have HL6 := Lib.hid hl6
  have HLG := Lib.hid hll
  clear hW hF hld hR hc1 kd e7 hFv hs6 hp6 hrows ho hXs hlg hX hn hl6 hwz hll
  go_wp2_with fail
  go_loopw [8, 9, 25] (fun v a i wr => ∃ k : Nat, k ≤ n ∧ i = .int .i64 (k : Int) ∧ (∃ m : Nat, a = .int .i64 (m : Int) ∧ Hid (m = lenS (Y.take k))) ∧ (∃ vs, wr.ownsRow W.heap.size 47 1 v k vs ∧ Hid (Recs W.heap.size wr vs ((Y.take k).map recM))) ∧ Hid (∀ (j : Nat) b, j < k → Y[j]? = some b → okR P b) ∧ Hid (Chg [] W wr)) (fun _ _ i _ => n - (intOf i).toNat)
  case atStart => exact ⟨0, Nat.zero_le _, rfl, ⟨0, rfl, Lib.hid rfl⟩, ⟨[], own_nil _ _ _, Lib.hid (by rw [List.take_zero]; exact Recs.nil _ _)⟩, Lib.hid (fun j b hj => absurd hj (by omega)), Lib.hid (Chg.refl _ _)⟩
  case round =>
    obtain ⟨k, hk, rfl, ⟨m, rfl, HM⟩, ⟨vs, hown, HRC⟩, HOK, HCr⟩ := hrel
    obtain ⟨Av, cv, rfl, hvl, hvc, _⟩ := own_slice hown
    have HCa := Lib.hid (HCW.out.new HCr.out)
    by_cases hlt : k < n
    · have hkI : (k : Int) < (n : Int) := by omega
      have HS := Lib.hid ((HS6.out).keep HCr.out)
      obtain ⟨ad, rfl, _, hcell⟩ := HS.out (by rw [HL6.out]; omega)
      obtain ⟨b6, o6, s6⟩ := ad
      obtain rfl : s6 = none := (HP6.out _ rfl).1
      have hkl : k < rs.length := by rw [HL6.out]; exact hlt
      have hkY : k < Y.length := by rw [← HN.out]; exact hlt
      have hc := hcell k rs[k] (List.getElem?_eq_getElem hkl)
      have hfr := HROW.out.2 k _ _ (List.getElem?_eq_getElem hkl) (List.getElem?_eq_getElem hkY)
      have hyl := HYL.out _ (List.getElem_mem hkY)
      have hYk := Lib.hid (List.getElem?_eq_getElem hkY)
      generalize Y[k] = b at hfr hyl hYk
      generalize rs[k] = fv at hc hfr
      obtain ⟨Ab, cb, rfl, hB, _⟩ := Bs.of_own (own_keep hfr HCr.out)
      rw [add_plain] at hc
      obtain ⟨c0, c1, c2, _, _, _⟩ := root_cells (HRW.out.keep HCr.out)
      obtain ⟨q, hq⟩ : ∃ q, q = b.length := ⟨_, rfl⟩
      rw [← hq] at hB hyl hc
      have HB := Lib.hid hB
      have HQ := Lib.hid hq
      have HLN := Lib.hid (lenS_next Y k b hYk.out)
      have HMN := Lib.hid (recM_next Y k b hYk.out)
      have hq5 : q ≤ 4096 := by have := HLG.out; omega
      clear hfr hB hq hcell hyl
      go_wp2_with fail
      refine (rundelta_own HB.out P).mono ?_
      rintro e w2 (⟨h1, h2, h3, v2, ls, rfl, ho2, hm2, hl2, ha2, hc2⟩ | ⟨hno, rfl, hc2⟩)
      · have HOKb := Lib.hid (show okR P b from ⟨h1, h2, h3⟩)
        have how := own_keep hown hc2
        have HOV := Lib.hid (show w2.ownsRow W.heap.size 53 2 v2 (recM b).length (chCs ls) by rw [recM_len]; exact rown_more' ho2 HCr.out.size)
        have HM2 := Lib.hid (show ∀ a ∈ ls, RMade w2 W.heap.size a from fun a ha => (hm2 a ha).more HCr.out.size)
        have HL2 := Lib.hid (show ls.length = (recM b).length by rw [recM_len]; exact hl2)
        have HA2 := Lib.hid (show asC ls (recM b) from ha2)
        have HC2 := Lib.hid hc2
        have hc2c := cell_keep c0 hc2
        have hx1 := Lib.hid (show k + 1 ≤ maxLen by unfold maxLen; omega)
        have hx2 := Lib.hid (show (k + 1) * 24 ≤ 140737488355328 by omega)
        have hx3 := Lib.hid (show W.heap.size ≤ w2.heap.size from Nat.le_trans HCr.out.size hc2.size)
        have hm4 : m ≤ 17000000 := by
          have h := lenS_le (Y.take k) 4096 (fun r hr => Nat.le_trans (HYL.out r (List.mem_of_mem_take hr)) HLG.out)
          rw [List.length_take] at h
          have := HM.out
          have h5 : min k Y.length * (16 + 4096) ≤ 4097 * 4112 := Nat.mul_le_mul (by omega) (by omega)
          omega
        clear h1 h2 h3 ho2 hm2 hl2 ha2 hc2 c0 c1 c2 hown hc2c
        obtain ⟨A2, q2, rfl, _⟩ : ∃ A2 q2, v2 = .slice A2 (recM b).length q2 ∧ True := by
          rcases HOV.out.2 with ⟨e, h0⟩ | ⟨g, cap, cur, e, _⟩
          · exact ⟨_, _, by rw [e, h0], trivial⟩
          · exact ⟨_, _, e, trivial⟩
        obtain ⟨z2, hz2⟩ : ∃ z, z = (recM b).length := ⟨_, rfl⟩
        rw [← hz2] at HOV HL2 ⊢
        have HZ2 := Lib.hid hz2
        clear hz2
        go_wp2_with (at_builtin
                     refine wpList_append_src rfl (.tmp 38) (.tmp 40) 122 rfl W.heap.size 47 i _ 24 Try.underlying122 hi hz hs1 hb cells_chs (.slice Av k cv) k vs rfl (own_keep how ((Chg.refl _ _).alloc _)) (some ⟨w2.heap.size, 0, none⟩) 1 1 [.slice A2 z2 q2] rfl rfl (Src.of_all (Whole.new w2 47 [.slice A2 z2 q2])) (fun u hu => by simp at hu; rw [hu]; rfl) hx1.out hx2.out (by simp; have := hx3.out; omega) ?_
                     intro v4 w4 ho4 hg4 _)
        have hal : Chg [] w2 (w2.alloc (.cells #[.slice A2 z2 q2] 47)) := (Chg.refl [] w2).alloc _
        go_roundw
        case rel =>
          refine ⟨k + 1, by omega, by go_num, ⟨m + (16 + q), by go_num, Lib.hid (by rw [HLN.out, HM.out, HQ.out])⟩, ⟨_, ho4, Lib.hid ?_⟩, Lib.hid (fun j c hj hcx => ?_), Lib.hid (((HCr.out.new HC2.out).alloc _).own (own_keep how hal) ?_ hg4)⟩
          · rw [HMN.out]
            refine ((HRC.out.keep HC2.out).keep hal |>.snoc ?_ (fun a ha => (HM2.out a ha).chg hal (by simp)) ?_ HA2.out).grown (own_keep how hal) hg4
            · rw [← HZ2.out]; exact rown_chg HOV.out hal (by simp)
            · rw [← HZ2.out]; exact HL2.out
          · rcases Nat.lt_or_ge j k with h | h
            · exact HOK.out j c h hcx
            · obtain rfl : j = k := by omega
              rw [hYk.out] at hcx
              cases hcx
              exact HOKb.out
          · exact Nat.le_refl _
        case measure => simp [intOf]; omega
      · have HNO := Lib.hid hno
        have HC2 := Lib.hid hc2
        have how := own_keep hown hc2
        clear hno hc2 c0 c1 c2
        go_wp2_with fail
        go_ret2
        rw [HRS.out, recF_stop P Y k (Nat.le_of_lt hkY) HOK.out (fun c hc => by rw [hYk.out] at hc; cases hc; exact HNO.out), ← HM.out]
        exact ⟨_, vs, rfl, by simpa [(Nat.le_of_lt hkY)] using own_more how HCW.out.size, (HRC.out.keep HC2.out).more HCW.out.size, HCa.out.new HC2.out⟩
    · have hkI : ¬ (k : Int) < (n : Int) := by omega
      have hkn : k = Y.length := by rw [← HN.out]; omega
      have HKN := Lib.hid hkn
      clear hkn
      go_wp2_with fail
      go_ret2
      rw [HRS.out, recF_stop P Y k (by rw [HKN.out]; exact Nat.le_refl _) HOK.out (fun c hc => by rw [List.getElem?_eq_none (by rw [HKN.out]; exact Nat.le_refl _)] at hc; cases hc), ← HM.out]
      exact ⟨_, vs, rfl, by simpa [HKN.out] using own_more hown HCW.out.size, HRC.out.more HCW.out.size, HCa.out⟩
end
end Go.Proofs.Ytlhkmbcjgdjegaa
namespace Go.Proofs.Ytlhkmbcjgdjegaa
open Go.RowKit
/-- A slice that reads as these cells. -/
def srcF (n : Nat) (xs : List Value) : Fact := fun v W => ∃ A c, v = .slice A n c ∧ Src W A xs ∧ ∀ ad, A = some ad → ad.spot = none
theorem keeps_src (n : Nat) (xs : List Value) : Keeps (Chg []) (srcF n xs) := fun _ _ _ ⟨A, c, h1, h2, h3⟩ hc => ⟨A, c, h1, h2.keep hc, h3⟩
end Go.Proofs.Ytlhkmbcjgdjegaa
namespace Go.Proofs.Ytlhkmbcjgdjegaa
open Go.RowKit
section
variable {w : World} {p bL bS bW q gL gN gW : Nat} {rL rN : List Value} {m : Int} {s : St}
set_option maxHeartbeats 4000000 in
set_option maxRecDepth 100000 in
theorem lrecords_yes (h : DskS w p bL bS bW s) (r : Rfd w q gL gN gW rL rN m s) (L P : Int) (ep : Nat) :
    Calls Try.prog 73 #[.pointer (some ⟨p, 0, none⟩), .pointer (some ⟨q, 0, none⟩), rootV L P (ep : Int)] w (LawPost w) := by
  have hr0 : rootV L P (ep : Int) = .agg #[.int .i64 L, .int .i64 P, .int .u32 (ep : Int)] := rfl
  have H := Lib.hid h
  have R := Lib.hid r
  clear h r
  rw [hr0]
  go_enter Try.func73, Try.ntmps73
  go_wp2_with fail
  have hR := Whole.new w 26 [.int .i64 L, .int .i64 P, .int .u32 (ep : Int)]
  have hc1 : Chg [] w (w.alloc (.cells #[.int .i64 L, .int .i64 P, .int .u32 (ep : Int)] 26)) := (Chg.refl [] w).alloc _
  obtain ⟨g, hg⟩ : ∃ g, g = w.heap.size := ⟨_, rfl⟩
  rw [← hg] at hR ⊢
  generalize w.alloc (.cells #[.int .i64 L, .int .i64 P, .int .u32 (ep : Int)] 26) = w1 at hc1 hR ⊢
  clear hg
  obtain ⟨X, hX⟩ : ∃ X, X = recsS s L P ep := ⟨_, rfl⟩
  obtain ⟨d0, d1, d2, _, _, _⟩ := root_cells hR
  go_wp2_with fail
  refine (rec_any (Dsk.keep H.out hc1) L P ep).mono ?_
  rintro e w2 ⟨v, vs, rfl, ho, hrc, hc2⟩
  rw [← hX] at ho hrc ⊢
  have HR2 := Lib.hid (hR.keep hc2)
  have HC2 := Lib.hid (hc1.new hc2)
  obtain ⟨A, c, rfl, hvl, _, hsv, hsp⟩ := own_slice ho
  have HSV := Lib.hid hsv
  have HSP := Lib.hid hsp
  have HRC := Lib.hid hrc
  clear hR hc1 hc2 d0 d1 d2 ho hsv hsp hrc
  obtain ⟨d0, d1, d2, _, _, _⟩ := root_cells HR2.out
  go_wp2_with fail
  refine (rrec_any (R.out.keep HC2.out) L P ep).mono ?_
  rintro e w3 ⟨u, us, rfl, ho, hrc, hc3⟩
  rw [← hX] at ho hrc ⊢
  have HR3 := Lib.hid (HR2.out.keep hc3)
  have HC3 := Lib.hid (HC2.out.new hc3)
  have HSV3 := Lib.hid (HSV.out.keep hc3)
  have HRC3 := Lib.hid (HRC.out.keep hc3)
  obtain ⟨A2, c2, rfl, hul, _, hsu, hsq⟩ := own_slice ho
  have hnm := own_le ho
  unfold maxLen at hnm
  have HSU := Lib.hid hsu
  have HSQ := Lib.hid hsq
  have HRU := Lib.hid hrc
  have HVL := Lib.hid hvl
  have HUL := Lib.hid hul
  clear hc3 d0 d1 d2 ho hsu hsq hrc hX HSV HRC hvl hul
  obtain ⟨Y, z⟩ := X
  simp only at HRU HRC3 HVL HUL hnm ⊢
  obtain ⟨n, hn⟩ : ∃ n, n = Y.length := ⟨_, rfl⟩
  rw [← hn] at HVL HUL hnm ⊢
  have HN := Lib.hid hn
  clear hn
  have hld := fun (W : World) (hW : Chg [] w3.drew W) => root_cells (HR3.out.drew.keep hW)
  obtain ⟨lg, hlg⟩ : ∃ lg, lg = logL s L P ep := ⟨_, rfl⟩
  have HLG := Lib.hid hlg
  clear hlg
  go_wp2_with fail
  refine wp_flow (by kernel_rfl) plainT plainT_ok (by kernel_rfl) ?_
  refine flow_move_out plainT_ok rfl rfl rfl ?_
  refine flow_move_out plainT_ok rfl rfl rfl ?_
  refine flow2 (r := .bool false) plainT_ok rfl (.inn rfl) (.inn rfl) rfl (fun ev W he e1 e2 => by go_simp) ?_
  refine flow_move plainT_ok rfl (keeps_isV _) (.inr (keeps_isV _)) rfl ?_
  refine flow_move_out plainT_ok rfl rfl rfl ?_
  refine flow_lend plainT_ok (.inn rfl) (fun ev W he e1 => by go_simp) rfl ?_
  refine flow_move_out plainT_ok rfl rfl rfl ?_
  refine flow_lend plainT_ok (.inn rfl) (fun ev W he e1 => by go_simp) rfl ?_
  refine flow2 (r := .bool false) plainT_ok rfl (.inn rfl) (.inn rfl) rfl (fun ev W he e1 e2 => by go_simp) ?_
  refine flow_or_false plainT_ok rfl rfl rfl ?_
  refine flow_move plainT_ok rfl (keeps_isV _) (.inr (keeps_isV _)) rfl ?_
  refine flow_move_out plainT_ok rfl rfl rfl ?_
  refine flow1h (r := rootV L P ep) plainT_ok rfl (.out rfl rfl) rfl (fun ev W he hW e1 => by obtain ⟨c0, c1, c2, _, _, _⟩ := hld W hW; go_simp) ?_
  refine flow_calld (ownF w3.drew.heap.size 5 (bts lg)) (keeps_own _ _ _) (.inr (keeps_own _ _ _)) (by kernel_rfl) rfl (.cons (.inn rfl) (.cons (.inn rfl) .nil)) (fun W hW => (rbytes_any (Dsk.keep (Dsk.keep H.out HC3.out) (wdrew hW)) L P ep).mono ?_) ?_
  · rintro e w' ⟨v, rfl, ho, hc⟩
    rw [← HLG.out] at ho
    exact ⟨_, rfl, hc, by rw [ownF, bts_len]; exact own_more ho hW.size⟩
  refine flow_str plainT_ok rfl Try.underlying22 Try.underlying5 Try.underlying9 rfl ?_
  refine flow_move_out plainT_ok rfl rfl rfl ?_
  refine flow1h (r := rootV L P ep) plainT_ok rfl (.out rfl rfl) rfl (fun ev W he hW e1 => by obtain ⟨c0, c1, c2, _, _, _⟩ := hld W hW; go_simp) ?_
  refine flow_calld (ownF w3.drew.heap.size 5 (bts lg)) (keeps_own _ _ _) (.inr (keeps_own _ _ _)) (by kernel_rfl) rfl (.cons (.inn rfl) (.cons (.inn rfl) .nil)) (fun W hW => (rlog_any ((R.out.keep HC3.out).keep (wdrew hW)) L P ep).mono ?_) ?_
  · rintro e w' ⟨v, rfl, ho, hc⟩
    rw [← HLG.out] at ho
    exact ⟨_, rfl, hc, by rw [ownF, bts_len]; exact own_more ho hW.size⟩
  refine flow_str plainT_ok rfl Try.underlying22 Try.underlying5 Try.underlying9 rfl ?_
  refine flow2 (r := .bool false) plainT_ok rfl (.inn rfl) (.inn rfl) rfl (fun ev W he e1 e2 => by go_simp) ?_
  refine flow_or_false plainT_ok rfl rfl rfl ?_
  intro ws W hW hF
  have e44 : ws 44 = .bool false := hF 44 _ rfl rfl
  simp only [putAll, Act.put, List.setIfInBounds_toArray, List.set_cons_zero, List.set_cons_succ, e44]
  have HCW := Lib.hid (wdrew hW)
  clear hW hF hld e44
  go_wp2_with fail
  go_loopw [47] (fun v wr => (∃ k : Nat, k ≤ n ∧ v = .int .i64 (k : Int)) ∧ Hid (Chg [] w3 wr)) (fun v _ => n - (intOf v).toNat)
  case atStart => exact ⟨⟨0, Nat.zero_le _, rfl⟩, HCW⟩
  case round =>
    obtain ⟨⟨k, hk, rfl⟩, HCr⟩ := hrel
    by_cases hlt : k < n
    · have hkI : (k : Int) < (n : Int) := by omega
      have hkv : k < vs.length := by rw [HVL.out]; exact hlt
      have hku : k < us.length := by rw [HUL.out]; exact hlt
      have hkY : k < Y.length := by rw [← HN.out]; exact hlt
      obtain ⟨ad, rfl, _, hcell⟩ := (HSV3.out.keep HCr.out) (by omega)
      obtain ⟨b7, o7, s7⟩ := ad
      obtain rfl : s7 = none := (HSP.out _ rfl).1
      obtain ⟨ad2, rfl, _, hcell2⟩ := (HSU.out.keep HCr.out) (by omega)
      obtain ⟨b9, o9, s9⟩ := ad2
      obtain rfl : s9 = none := (HSQ.out _ rfl).1
      have hc := hcell k vs[k] (List.getElem?_eq_getElem hkv)
      have hcu := hcell2 k us[k] (List.getElem?_eq_getElem hku)
      obtain ⟨ls, g1, g2, g3, g4⟩ := (HRC3.out.keep HCr.out).2 k vs[k] Y[k] (List.getElem?_eq_getElem hkv) (List.getElem?_eq_getElem hkY)
      obtain ⟨ls2, f1, f2, f3, f4⟩ := (HRU.out.keep HCr.out).2 k us[k] Y[k] (List.getElem?_eq_getElem hku) (List.getElem?_eq_getElem hkY)
      generalize vs[k] = vv at hc g1
      generalize us[k] = uu at hcu f1
      obtain ⟨A5, c5, rfl, hl5, hch5, hm5, _, _⟩ := chs_own' g1 (fun a ha => (g2 a ha).ok)
      obtain ⟨A6, c6, rfl, hl6, hch6, hm6, _, _⟩ := chs_own' f1 (fun a ha => (f2 a ha).ok)
      have HSM := Lib.hid (show sameC ls ls2 = true by unfold sameC; rw [g4.1, f4.1]; simp)
      have HW := Lib.hid (fun (W : World) (hW : Chg [] wr.drew W) => rsame_any (c := c5) (c2 := c6) (hch5.keep (wdrew hW)) hl5 (hch6.keep (wdrew hW)) hl6 hm5 hm6)
      rw [add_plain] at hc hcu
      have HC := Lib.hid hc
      have HCU := Lib.hid hcu
      clear hcell hcell2 g1 g2 g3 g4 f1 f2 f3 f4 hch5 hch6 hc hcu
      go_wp2_with fail
      refine wp_flow (by kernel_rfl) plainT plainT_ok (by kernel_rfl) ?_
      refine flow_move_out plainT_ok rfl rfl rfl ?_
      refine flow_move_out plainT_ok rfl rfl rfl ?_
      refine flow2 (r := .pointer (some ⟨b7, o7 + k, none⟩)) plainT_ok rfl (.inn rfl) (.inn rfl) rfl (fun ev W he e1 e2 => by go_simp) ?_
      refine flow1h (r := .slice A5 Y[k].length c5) plainT_ok rfl (.inn rfl) rfl (fun ev W he hW e1 => by have q0 := cell_keep HC.out (wdrew hW); go_simp) ?_
      refine flow_move_out plainT_ok rfl rfl rfl ?_
      refine flow_move_out plainT_ok rfl rfl rfl ?_
      refine flow2 (r := .pointer (some ⟨b9, o9 + k, none⟩)) plainT_ok rfl (.inn rfl) (.inn rfl) rfl (fun ev W he e1 e2 => by go_simp) ?_
      refine flow1h (r := .slice A6 Y[k].length c6) plainT_ok rfl (.inn rfl) rfl (fun ev W he hW e1 => by have q0 := cell_keep HCU.out (wdrew hW); go_simp) ?_
      refine flow_callv (.bool true) (by kernel_rfl) rfl (.cons (.inn rfl) (.cons (.inn rfl) .nil)) (fun W hW => (HW.out W hW).mono ?_) ?_
      · rintro e w' ⟨rfl, hc⟩; exact ⟨by rw [HSM.out], hc⟩
      refine flow1 (r := .bool false) plainT_ok rfl (.inn rfl) rfl (fun ev W he e1 => by go_simp) ?_
      intro ws W2 hW2 hF
      have e59 : ws 59 = .bool false := hF 59 _ rfl rfl
      simp only [putAll, Act.put, List.setIfInBounds_toArray, List.set_cons_zero, List.set_cons_succ, e59]
      have HCW2 := Lib.hid (HCr.out.new (wdrew hW2))
      clear hW2 hF e59
      go_wp2_with fail
      go_roundw
      case rel => exact ⟨⟨k + 1, by omega, by go_num⟩, HCW2⟩
      case measure => simp [intOf]; omega
    · have hkI : ¬ (k : Int) < (n : Int) := by omega
      have HCe := Lib.hid (HC3.out.new HCr.out)
      go_wp2_with fail
      go_ret
      exact ⟨rfl, HCe.out⟩
end
end Go.Proofs.Ytlhkmbcjgdjegaa
namespace Go.Proofs.Ytlhkmbcjgdjegaa
open Go.RowKit
/-- The log's sector i, behind b was copied in. -/
theorem log_sect {s : St} {L a i k' : Nat} {b : List UInt8} (hS : 128 + L * 64 ≤ s.S.length) (hab : a + b.length ≤ L * 64) (hi : i < L) (hk : k' = min b.length ((i + 1) * 64 - a)) :
    ((splice (logB s L) a b).drop (i * 64)).take 64 = ((splice s.S (128 + a) (b.take k')).drop ((2 + i) * 64)).take 64 := by
  have hl := logB_len (s := s) hS
  have lk : (b.take k').length = k' := by rw [List.length_take]; omega
  apply List.ext_getElem?
  intro j
  rcases Nat.lt_or_ge j 64 with hj | hj
  · rw [List.getElem?_take, List.getElem?_take, if_pos hj, if_pos hj, List.getElem?_drop, List.getElem?_drop, splice_get _ _ _ _ (by rw [hl]; exact hab), splice_get _ _ _ _ (by rw [lk]; omega), lk]
    by_cases h1 : a ≤ i * 64 + j ∧ i * 64 + j < a + b.length
    · rw [if_pos h1, if_pos (by omega), List.getElem?_take, if_pos (by omega)]
      congr 1; omega
    · rw [if_neg h1, if_neg (by omega)]
      unfold logB
      rw [List.getElem?_take, if_pos (by omega), List.getElem?_drop]
      congr 1; omega
  · rw [List.getElem?_take, List.getElem?_take, if_neg (by omega), if_neg (by omega)]
/-- What the reference's Append does. -/
def RAppPost (w : World) (p gL gN gW : Nat) (rL rN : List Value) (s : St) (L P E at_ : Int) (l : List UInt8) (e : Ending) (w' : World) : Prop :=
  (canA s L P E at_ l.length ∧ e = .returned (.bool true) ∧ (∃ m', Rfd w' p gL gN gW rL rN m' (apS s (128 + at_.toNat) l)) ∧ Chg [p, gN, gW] w w') ∨
  (¬ canA s L P E at_ l.length ∧ e = .returned (.bool false) ∧ Chg [] w w')
section
variable {w : World} {p gL gN gW : Nat} {rL rN : List Value} {m : Int} {s : St}
set_option maxHeartbeats 4000000 in
set_option maxRecDepth 100000 in
theorem rappend_any (h : Rfd w p gL gN gW rL rN m s) (L P E at_ : Int) (hL0 : -9223372036854775808 ≤ at_) (hL1 : at_ ≤ 9223372036854775807) {A : Option Addr} {n c : Nat} {l : List UInt8} (hx : Bs w A n c l) :
    Calls Try.prog 71 #[.pointer (some ⟨p, 0, none⟩), rootV L P E, .int .i64 at_, .slice A n c] w (RAppPost w p gL gN gW rL rN s L P E at_ l) := by
  have hr0 : rootV L P E = .agg #[.int .i64 L, .int .i64 P, .int .u32 E] := rfl
  have H := Lib.hid h
  have HX := Lib.hid hx
  have hln := hx.len
  have hnm := hx.le
  clear h hx
  rw [hr0]
  have hnl := fun W a n c => Lib.run_eql_slice_nil (P := Try.prog) W 22 5 a n c 0 0 Try.underlying22
  go_enter Try.func71, Try.ntmps71
  go_wp2_with fail
  have hR := Whole.new w 26 [.int .i64 L, .int .i64 P, .int .u32 E]
  have hc1 : Chg [] w (w.alloc (.cells #[.int .i64 L, .int .i64 P, .int .u32 E] 26)) := (Chg.refl [] w).alloc _
  obtain ⟨g, hg⟩ : ∃ g, g = w.heap.size := ⟨_, rfl⟩
  rw [← hg] at hR ⊢
  generalize w.alloc (.cells #[.int .i64 L, .int .i64 P, .int .u32 E] 26) = w1 at hc1 hR ⊢
  have HGg := Lib.hid (show g ≠ p ∧ g ≠ gN ∧ g ≠ gW ∧ w.heap.size ≤ g by have h1 := H.out.rec_.lt; have h2 := H.out.now.lt; have h3 := H.out.wait.lt; omega)
  clear hg
  obtain ⟨c0, c1, c2, _, _, _⟩ := root_cells hR
  go_wp2_with fail
  refine (rlog_nil (H.out.keep hc1) L P E).mono ?_
  rintro e w2 ⟨⟨v2, rfl, ho2, hc2⟩, hnil⟩
  have HC2 := Lib.hid (hc1.new hc2)
  have HR2 := Lib.hid (hR.keep hc2)
  have HLN := Lib.hid hln
  have HS1 := Lib.hid hc1.size
  clear hc1 hc2 hR c0 c1 c2 hln
  cases hrr : rightR L P E s.V.length with
  | false =>
    have HF := Lib.hid (show ¬ canA s L P E at_ l.length from fun h => by have := h.1; rw [hrr] at this; cases this)
    obtain ⟨rfl⟩ : v2 = .slice none 0 0 := by have := hnil hrr; injection this
    clear hnil ho2
    go_wp2_with fail
    go_ret
    exact .inr ⟨HF.out, rfl, HC2.out⟩
  | true =>
    have hrt := rightR_true.1 hrr
    obtain ⟨k, rfl⟩ := Int.eq_ofNat_of_zero_le (show 0 ≤ L by omega)
    have hl1 : 1 ≤ k := by omega
    have hl64 : k ≤ 64 := by omega
    have hlV := Lib.hid (show 2 + (k : Int) + P ≤ s.V.length ∧ 1 ≤ P from ⟨hrt.2.2.2.2.1, hrt.2.2.1⟩)
    have HS := Lib.hid (show 128 + k * 64 ≤ s.S.length ∧ s.S.length = 64 * s.V.length by have := H.out.lenS; have := hlV.out; omega)
    have hlog : logL s k P E = logB s k := by unfold logL; rw [if_pos hrr, Int.toNat_natCast]
    obtain ⟨N, hN, hN4, hN0⟩ : ∃ N, N = k * 64 ∧ N ≤ 4096 ∧ 0 < N := ⟨_, rfl, by omega, by omega⟩
    have hlen : (logB s k).length = N := by rw [logB_len HS.out.1, hN]
    rw [hlog, hlen] at ho2
    obtain ⟨gl, r, rfl, hgl, hW2, hcap⟩ := own_whole ho2 hN0
    obtain ⟨cN, hcN⟩ : ∃ c, c = N + r.length := ⟨_, rfl⟩
    rw [← hcN] at hcap ⊢
    have hcN1 : N ≤ cN := by omega
    have HCA := Lib.hid (show canA s k P E at_ l.length ↔ (0 ≤ at_ ∧ at_ ≤ (N : Int) ∧ (n : Int) ≤ (N : Int) - at_) by unfold canA; rw [hrr, HLN.out, show (k : Int) * 64 = (N : Int) by omega]; simp)
    have HNk := Lib.hid hN
    have HLB := Lib.hid hlen
    have HGL := Lib.hid (show w.heap.size ≤ gl by have := HS1.out; omega)
    have HW2 := Lib.hid hW2
    clear hnil hrt hlog hN hlen ho2 hcN hW2 hgl
    unfold maxLen at hcap
    by_cases ha0 : at_ < 0
    · have HF := Lib.hid (show ¬ canA s k P E at_ l.length from fun h => by have := (HCA.out.1 h).1; omega)
      go_wp2_with fail
      go_ret
      exact .inr ⟨HF.out, rfl, HC2.out⟩
    obtain ⟨a, rfl⟩ := Int.eq_ofNat_of_zero_le (show 0 ≤ at_ by omega)
    have ha0' : ¬ ((a : Int) < 0) := ha0
    clear ha0 hL0
    by_cases ha1 : (N : Int) < (a : Int)
    · have HF := Lib.hid (show ¬ canA s k P E a l.length from fun h => by have := (HCA.out.1 h).2.1; omega)
      go_wp2_with fail
      go_ret
      exact .inr ⟨HF.out, rfl, HC2.out⟩
    have haN : a ≤ N := by omega
    by_cases hn1 : (N : Int) - (a : Int) < (n : Int)
    · have HF := Lib.hid (show ¬ canA s k P E a l.length from fun h => by have := (HCA.out.1 h).2.2; omega)
      go_wp2_with fail
      go_ret
      exact .inr ⟨HF.out, rfl, HC2.out⟩
    have hnN : a + n ≤ N := by omega
    have HY := Lib.hid (HCA.out.2 ⟨by omega, by omega, by omega⟩)
    clear HCA
    go_upto_region 4 with fail
    have HNL := Lib.hid hnl
    clear hnl
    have hcsl := Lib.hid (show (bts l).length = Nat.min n (N - a) by rw [bts_len, HLN.out]; show n = min _ _; omega)
    have hfit : a + (bts l).length ≤ (bts (logB s k) ++ r).length := by rw [List.length_append, bts_len, bts_len, HLN.out, HLB.out]; omega
    have hb1 := bts_one l
    have hsr := (HX.out.keep HC2.out).src
    have hspl := Lib.hid (show splice (bts (logB s k) ++ r) a (bts l) = bts (splice (logB s k) a l) ++ r by rw [splice_app _ _ _ _ (by rw [bts_len, bts_len, HLN.out, HLB.out]; omega), bts_splice])
    have hW2 := HW2.out
    have hcNa : ¬ cN < a := by omega
    have hNa : ¬ N < a := by omega
    go_cut [9] (fun s9 wx => s9 = .slice (some ⟨gl, 0, none⟩) N cN ∧ Hid (Whole wx gl 5 (bts (splice (logB s k) a l) ++ r)) ∧ Hid (Chg [gl] w2 wx))
    case first =>
      by_cases hac : cN = a
      · have hz : ¬ 0 < (bts l).length := by rw [bts_len, HLN.out]; omega
        go_wp2_with (with_reducible refine wpList_copy_chg rfl (.tmp 37) (.tmp 38) _ _ rfl 5 Try.underlying22 size_u8 _ A (N - a) _ n c rfl rfl gl a 5 (bts (logB s k) ++ r) (bts l) hW2 hcsl.out (fun h => absurd h hz) hsr hfit hb1 ?_
                     intro w6 HG6 HC6)
        rw [hspl.out] at HG6
        go_meet
        exact ⟨rfl, Lib.hid HG6, Lib.hid HC6⟩
      · go_wp2_with (with_reducible refine wpList_copy_chg rfl (.tmp 37) (.tmp 38) _ _ rfl 5 Try.underlying22 size_u8 (some ⟨gl, a, none⟩) A (N - a) (cN - a) n c rfl rfl gl a 5 (bts (logB s k) ++ r) (bts l) hW2 hcsl.out (fun _ => rfl) hsr hfit hb1 ?_
                     intro w6 HG6 HC6)
        rw [hspl.out] at HG6
        go_meet
        exact ⟨rfl, Lib.hid HG6, Lib.hid HC6⟩
    case rest =>
      obtain ⟨rfl, HG6, HC6⟩ := hcut
      obtain ⟨w6, rfl⟩ : ∃ w6 : World, w6 = wc := ⟨_, rfl⟩
      have HC6' := Lib.hid (show Chg [] w w6 from HC2.out.then_ HC6.out (fun i hi hlt => by
        simp only [List.mem_cons, List.not_mem_nil, or_false] at hi
        have := HGL.out
        omega))
      have HNg := Lib.hid (show g ≠ gl from HR2.out.ne_ HW2.out (by decide))
      have HR6 := Lib.hid (HR2.out.chg HC6.out (by simp; exact HNg.out))
      have HP := Lib.hid (show p < w.heap.size ∧ gN < w.heap.size ∧ gW < w.heap.size from ⟨H.out.rec_.lt, H.out.now.lt, H.out.wait.lt⟩)
      have h0 : apS s (128 + a) (l.take (min n (0 * 64 - a))) = s := by rw [show min n (0 * 64 - a) = 0 by omega, List.take_zero]; exact apS_nil s _ (by have := HS.out; have := HNk.out; omega)
      have HT0 : Hid (Rfd w6 p gL gN gW rL rN m (apS s (128 + a) (l.take (min n (0 * 64 - a))))) := Lib.hid (by rw [h0]; exact H.out.keep HC6'.out)
      have HV6 := Lib.hid (show 2 + k ≤ s.V.length by have := hlV.out; omega)
      clear h0 hcsl hfit hb1 hsr hspl hW2 hcNa ha1 hn1
      go_wp2_with fail
      go_loopw [10] (fun v wr => ∃ i : Nat, i ≤ k ∧ v = .int .i64 (i : Int) ∧ (∃ m', Hid (Rfd wr p gL gN gW rL rN m' (apS s (128 + a) (l.take (min n (i * 64 - a)))))) ∧ Hid (Chg [p, gN, gW] w6 wr)) (fun v _ => k - (intOf v).toNat)
      case atStart => exact ⟨0, Nat.zero_le _, rfl, ⟨m, HT0⟩, Lib.hid (Chg.refl _ _)⟩
      case round =>
        obtain ⟨i, hi, rfl, ⟨m', HT⟩, HCr⟩ := hrel
        obtain ⟨d0, d1, d2, _, _, _⟩ := root_cells (HR6.out.chg HCr.out (by have := HGg.out; simp; omega))
        have hend : (i = k ∨ n = 0) → min n (i * 64 - a) = n := fun h => by have := HNk.out; rcases h with h | h <;> subst h <;> omega
        by_cases hlt : i < k ∧ 0 < n
        · obtain ⟨hlt, hn0⟩ := hlt
          have hltI : (i : Int) < (k : Int) := by omega
          have hn0I : (0 : Int) < (n : Int) := by omega
          obtain ⟨o, ho⟩ : ∃ o, o = i * 64 := ⟨_, rfl⟩
          obtain ⟨o2, ho2⟩ : ∃ o2, o2 = (i + 1) * 64 := ⟨_, rfl⟩
          have hI1 : (i : Int) * 64 = (o : Int) := by omega
          have hI2 : ((i : Int) + 1) * 64 = (o2 : Int) := by omega
          have HO := Lib.hid (show o = i * 64 ∧ o2 = (i + 1) * 64 from ⟨ho, ho2⟩)
          have ho3 : o2 ≤ N := by have := HNk.out; omega
          have ho64 : o2 - o = 64 := by omega
          have ho5 : ¬ o2 < o := by omega
          have ho6 : ¬ cN < o2 := by omega
          have ho7 : ¬ cN = o := by omega
          clear ho ho2 hend
          by_cases hc1 : o < a + n
          · by_cases hc2 : a < o2
            · have hc1I : (o : Int) < (a : Int) + (n : Int) := by omega
              have hc2I : (a : Int) < (o2 : Int) := by omega
              obtain ⟨q, hq⟩ : ∃ q : Nat, (2 : Int) + (i : Int) = (q : Int) := ⟨2 + i, by omega⟩
              have HQ := Lib.hid (show q = 2 + i by omega)
              have HHl := Lib.hid (show 128 + a + l.length ≤ s.S.length by have := HS.out; have := HLN.out; have := HNk.out; omega)
              obtain ⟨x, hx⟩ : ∃ x, x = ((splice (logB s k) a l).drop (i * 64)).take 64 := ⟨_, rfl⟩
              have hx2 := hx
              rw [log_sect (k' := min n ((i + 1) * 64 - a)) HS.out.1 (by rw [HLN.out]; have := HNk.out; omega) hlt (by rw [HLN.out])] at hx2
              have HST := Lib.hid (apS_step (s := s) (a := 128 + a) (b := l) (k := min n (i * 64 - a)) (k' := min n ((i + 1) * 64 - a)) (q := q) (x := x) HS.out.2 HHl.out (by have := HO.out; omega) (by rw [HLN.out]; omega) (by have := HQ.out; have := HO.out; omega) (by have := HQ.out; have := HO.out; omega) (by have := HQ.out; have := HO.out; omega) (by rw [hx2, HQ.out]))
              have HXL := Lib.hid (show x.length = 64 by rw [hx, List.length_take, List.length_drop, splice_len _ _ _ (by rw [HLN.out, HLB.out]; exact hnN), HLB.out]; have := HO.out; omega)
              have hGr := HG6.out.chg HCr.out (by have := HGL.out; have := HP.out; simp; omega)
              have HSX := Lib.hid (show Src wr (some ⟨gl, o, none⟩) (bts x) by
                have h := Src.of_whole hGr o 64
                have e : ((bts (splice (logB s k) a l) ++ r).drop o).take 64 = bts x := by
                  rw [List.drop_append_of_le_length (by rw [bts_len, splice_len _ _ _ (by rw [HLN.out, HLB.out]; exact hnN), HLB.out]; omega), List.take_append_of_le_length (by rw [List.length_drop, bts_len, splice_len _ _ _ (by rw [HLN.out, HLB.out]; exact hnN), HLB.out]; omega)]
                  rw [hx, HO.out.1]
                  simp only [bts, List.map_take, List.map_drop]
                rwa [e] at h)
              have hqV : q < (apS s (128 + a) (l.take (min n (i * 64 - a)))).V.length := by rw [apS_V]; have := HQ.out; have := HV6.out; omega
              have HPb := Lib.hid (show gl ≠ p by have := HGL.out; have := HP.out; omega)
              clear hx hx2 hGr
              go_wp2_with fail
              refine (rwrite_yes HT.out q hqV (x := x) HXL.out HSX.out (fun ad e => by injection e with e; subst e; exact HPb.out)).mono ?_
              rintro e w7 ⟨m7, rfl, hT7, hc7⟩
              rw [HST.out] at hT7
              have HT7 := Lib.hid hT7
              have HC7 := Lib.hid (HCr.out.trans hc7)
              clear hT7 hc7 hqV
              go_wp2_with fail
              go_roundw
              case rel => exact ⟨i + 1, by omega, by go_num, ⟨m7, HT7⟩, HC7⟩
              case measure => simp [intOf]; omega
            · have hc1I : (o : Int) < (a : Int) + (n : Int) := by omega
              have hc2I : ¬ (a : Int) < (o2 : Int) := by omega
              have he : Hid (min n ((i + 1) * 64 - a) = min n (i * 64 - a)) := Lib.hid (by have := HO.out; omega)
              go_wp2_with fail
              go_roundw
              case rel => exact ⟨i + 1, by omega, by go_num, ⟨m', by rw [he.out]; exact HT⟩, HCr⟩
              case measure => simp [intOf]; omega
          · have hc1I : ¬ (o : Int) < (a : Int) + (n : Int) := by omega
            have he : Hid (min n ((i + 1) * 64 - a) = min n (i * 64 - a)) := Lib.hid (by have := HO.out; omega)
            go_wp2_with fail
            go_roundw
            case rel => exact ⟨i + 1, by omega, by go_num, ⟨m', by rw [he.out]; exact HT⟩, HCr⟩
            case measure => simp [intOf]; omega
        · have HE := Lib.hid (hend (by omega))
          have HFin : Hid (∃ m', Rfd wr p gL gN gW rL rN m' (apS s (128 + a) l)) := Lib.hid ⟨m', by have h := HT.out; rwa [HE.out, List.take_of_length_le (by rw [HLN.out]; exact Nat.le_refl _)] at h⟩
          have HCe := Lib.hid ((HC6'.out.sub (T' := [p, gN, gW]) (by simp)).trans HCr.out)
          clear hend
          by_cases hik : i < k
          · have hn00 : n = 0 := by omega
            have hikI : (i : Int) < (k : Int) := by omega
            have hn0I : ¬ (0 : Int) < (n : Int) := by omega
            have HYY := HY
            clear hlt
            go_wp2_with fail
            go_ret
            exact .inl ⟨HYY.out, rfl, by rw [Int.toNat_natCast]; exact HFin.out, HCe.out⟩
          · have hikI : ¬ (i : Int) < (k : Int) := by omega
            go_wp2_with fail
            go_ret
            exact .inl ⟨HY.out, rfl, by rw [Int.toNat_natCast]; exact HFin.out, HCe.out⟩
end
end Go.Proofs.Ytlhkmbcjgdjegaa
namespace Go.Proofs.Ytlhkmbcjgdjegaa
open Go.RowKit

/-- Numbers, as cells hold them. -/
def nmsN (l : List Nat) : List Value := l.map fun (i : Nat) => Value.int .i64 (i : Int)
theorem nmsN_len (l : List Nat) : (nmsN l).length = l.length := by simp [nmsN]
theorem nmsN_get (l : List Nat) (i : Nat) (h : i < l.length) : (nmsN l)[i]? = some (.int .i64 (l[i] : Int)) := by simp [nmsN, h]
/-- Which of the first k wait, rising. -/
def wl (V : List Bool) (k : Nat) : List Nat := (List.range k).filter fun i => V.getD i false
theorem wl_le (V : List Bool) (k : Nat) : (wl V k).length ≤ k := by
  have := List.length_filter_le (fun i => V.getD i false) (List.range k)
  simpa [wl] using this
theorem wl_yes (V : List Bool) (k : Nat) (h : k < V.length) (hv : V[k] = true) : wl V (k + 1) = wl V k ++ [k] := by
  unfold wl
  rw [List.range_succ, List.filter_append]
  simp [List.getD, h, hv]
theorem wl_no (V : List Bool) (k : Nat) (h : k < V.length) (hv : V[k] = false) : wl V (k + 1) = wl V k := by
  unfold wl
  rw [List.range_succ, List.filter_append]
  simp [List.getD, h, hv]

theorem nmsN_app (l : List Nat) (k : Nat) : nmsN (l ++ [k]) = nmsN l ++ [.int .i64 (k : Int)] := by simp [nmsN]
theorem chg_grown {T : List Nat} {a w w' : World} {row : Option Nat} (h : Chg T a w) (hg : w.grownBy w' row) (hr : ∀ g, row = some g → a.heap.size ≤ g) : Chg T a w' :=
  h.then_ (T' := row.toList) (Chg.of_grown hg fun g e _ => by simp [e]) fun i hi hlt => by
    have := hr i (by simpa using hi)
    omega

section
variable {w : World} {p bL bS bW : Nat} {L S : List UInt8} {V : List Bool}
set_option maxHeartbeats 1000000 in
theorem waits_any (h : Dsk w p bL bS bW L S V) :
    Calls Try.prog 38 #[.pointer (some ⟨p, 0, none⟩)] w fun e w' => ∃ v, e = .returned v ∧ w'.ownsRow w.heap.size 3 1 v (wl V V.length).length (nmsN (wl V V.length)) ∧ Chg [] w w' := by
  obtain ⟨i0, hi, hz0, hz1, hz2⟩ := info_parts info_int
  have c2 := h.rec_.cell 2
  have hle := h.le
  go_enter Try.func38, Try.ntmps38
  go_wp2_with fail
  go_loopw [3, 11] (fun v i wr => ∃ k : Nat, k ≤ V.length ∧ i = .int .i64 (k : Int) ∧ wr.ownsRow w.heap.size 3 1 v (wl V k).length (nmsN (wl V k)) ∧ Chg [] w wr) (fun _ i _ => V.length - (intOf i).toNat)
  case atStart => exact ⟨0, Nat.zero_le _, rfl, by simpa [wl, nmsN] using World.ownsRow_nil w w.heap.size 3 1, Chg.refl _ _⟩
  case round =>
    obtain ⟨k, hk, rfl, hown, hcg⟩ := hrel
    have hd := h.keep hcg
    have hll := wl_le V k
    have hwr := hcg.size
    by_cases hlt : k < V.length
    · have c4 := (hd.wait.cell k).trans (bls_get V k hlt)
      cases hv : V[k] with
      | true =>
        rw [hv] at c4
        have HY := Lib.hid (wl_yes V k hlt hv)
        clear hv
        obtain ⟨X, hX⟩ : ∃ X, X = nmsN (wl V k) := ⟨_, rfl⟩
        obtain ⟨N, hN⟩ : ∃ N, N = (wl V k).length := ⟨_, rfl⟩
        rw [← hX, ← hN] at hown
        have HX := Lib.hid hX
        have HN := Lib.hid hN
        rw [← hN] at hll
        clear hX hN
        go_wp2_with (first
          | (at_builtin
             refine wpList_append_own _ rfl (.tmp 17) (.tmp 19) _ rfl w.heap.size 3 i0 (.int .i64 0) 1 8 Try.underlying56 hi hz0 hz1 hz2 rfl (by decide) _ N X rfl (hown.alloc _) ⟨wr.heap.size, 0, none⟩ 1 1 [.int .i64 (k : Int)] rfl rfl ?c1 ?c2 ?c3 ?c4 ?c5 ?_
             case c1 => exact cell_one_new _ _ _
             case c2 => simp [Value.oneCell']
             case c3 => simp only [maxLen]; omega
             case c4 => omega
             case c5 => simp; omega
             intro v' w1 hown' hg' _))
        go_roundw
        case rel =>
          refine ⟨k + 1, by omega, by go_num, ?_, chg_grown (hcg.alloc _) hg' fun g hgg => (hown.lt g hgg).1⟩
          rw [HY.out, nmsN_app, List.length_append, ← HX.out, ← HN.out]
          exact hown'
        case measure => simp [intOf]; omega
      | false =>
        rw [hv] at c4
        have HY := Lib.hid (wl_no V k hlt hv)
        clear hv
        go_wp2_with fail
        go_roundw
        case rel => exact ⟨k + 1, by omega, by go_num, by rw [HY.out]; exact hown, hcg⟩
        case measure => simp [intOf]; omega
    · obtain rfl : k = V.length := by omega
      go_wp2_with fail
      go_ret
      exact ⟨_, rfl, hown, hcg⟩
end
end Go.Proofs.Ytlhkmbcjgdjegaa
namespace Go.Proofs.Ytlhkmbcjgdjegaa
open Go.RowKit
section
variable {w : World}
set_option maxHeartbeats 1000000 in
theorem same_yes {A B : Option Addr} {n c d : Nat} {l : List Nat} (hl : l.length = n) (hn : n ≤ 1000000) (ha : Src w A (nmsN l)) (hb : Src w B (nmsN l)) (hA : ∀ ad, A = some ad → ad.spot = none) (hB : ∀ ad, B = some ad → ad.spot = none) :
    Calls Try.prog 79 #[.slice A n c, .slice B n d] w (LawPost w) := by
  have HL := Lib.hid hl
  have HA := Lib.hid hA
  have HB := Lib.hid hB
  clear hl hA hB
  go_enter Try.func79, Try.ntmps79
  go_wp2_with fail
  go_loopw [5] (fun i wr => ∃ k : Nat, k ≤ n ∧ i = .int .i64 (k : Int) ∧ Chg [] w wr) (fun i _ => n - (intOf i).toNat)
  case atStart => exact ⟨0, Nat.zero_le _, rfl, Chg.refl _ _⟩
  case round =>
    obtain ⟨k, hk, rfl, hc⟩ := hrel
    by_cases hlt : k < n
    · have ha2 := ha.keep hc
      have hb2 := hb.keep hc
      obtain ⟨a1, rfl, _, hx⟩ := ha2 (by rw [nmsN_len, HL.out]; omega)
      obtain ⟨a2, rfl, _, hy⟩ := hb2 (by rw [nmsN_len, HL.out]; omega)
      have hx1 := hx k _ (nmsN_get l k (by rw [HL.out]; exact hlt))
      have hy1 := hy k _ (nmsN_get l k (by rw [HL.out]; exact hlt))
      clear hx hy
      obtain ⟨b1, o1, s1⟩ := a1
      obtain rfl : s1 = none := HA.out _ rfl
      obtain ⟨b2, o2, s2⟩ := a2
      obtain rfl : s2 = none := HB.out _ rfl
      rw [add_plain] at hx1 hy1
      generalize l[k]'(by rw [HL.out]; exact hlt) = q at hx1 hy1
      have hki : (k : Int) < (n : Int) := by omega
      go_wp2_with fail
      go_quiet (fail)
      go_wp2_with fail
      go_roundw
      case rel => exact ⟨k + 1, by omega, by go_num, hc.drewN _⟩
      case measure => simp [intOf]; omega
    · go_wp2_with fail
      go_ret
      exact ⟨rfl, hc⟩
end
end Go.Proofs.Ytlhkmbcjgdjegaa
namespace Go.Proofs.Ytlhkmbcjgdjegaa
open Go.RowKit

section
variable {w w' : World} {p gL gN gW : Nat} {rL rN : List Value} {m : Int} {s : St}

set_option maxHeartbeats 1000000 in
theorem rwaits_any (h : Rfd w p gL gN gW rL rN m s) :
    Calls Try.prog 96 #[.pointer (some ⟨p, 0, none⟩)] w fun e w' => ∃ A c, e = .returned (.slice A (wl s.V s.V.length).length c) ∧ Src w' A (nmsN (wl s.V s.V.length)) ∧ (∀ ad, A = some ad → ad.spot = none ∧ w.heap.size ≤ ad.block) ∧ Chg [] w w' := by
  obtain ⟨i0, hi, hz0, hz1, hz2⟩ := info_parts info_int
  have c2 := h.rec_.cell 2
  have hle := h.le
  go_enter Try.func96, Try.ntmps96
  go_wp2_with fail
  go_loopw [3, 10] (fun v i wr => ∃ k : Nat, k ≤ s.V.length ∧ i = .int .i64 (k : Int) ∧ wr.ownsRow w.heap.size 3 1 v (wl s.V k).length (nmsN (wl s.V k)) ∧ Chg [] w wr) (fun _ i _ => s.V.length - (intOf i).toNat)
  case atStart => exact ⟨0, Nat.zero_le _, rfl, by simpa [wl, nmsN] using World.ownsRow_nil w w.heap.size 3 1, Chg.refl _ _⟩
  case round =>
    obtain ⟨k, hk, rfl, hown, hcg⟩ := hrel
    have hd := h.keep hcg
    have c2' := hd.rec_.cell 2
    have hll := wl_le s.V k
    have hwr := hcg.size
    by_cases hlt : k < s.V.length
    · have c4 := (hd.wait.cell k).trans (bls_get s.V k hlt)
      cases hv : s.V[k] with
      | true =>
        rw [hv] at c4
        have HY := Lib.hid (wl_yes s.V k hlt hv)
        clear hv
        obtain ⟨X, hX⟩ : ∃ X, X = nmsN (wl s.V k) := ⟨_, rfl⟩
        obtain ⟨N, hN⟩ : ∃ N, N = (wl s.V k).length := ⟨_, rfl⟩
        rw [← hX, ← hN] at hown
        have HX := Lib.hid hX
        have HN := Lib.hid hN
        rw [← hN] at hll
        clear hX hN
        go_wp2_with (first
          | (at_builtin
             refine wpList_append_own _ rfl (.tmp 20) (.tmp 22) _ rfl w.heap.size 3 i0 (.int .i64 0) 1 8 Try.underlying56 hi hz0 hz1 hz2 rfl (by decide) _ N X rfl (hown.alloc _) ⟨wr.heap.size, 0, none⟩ 1 1 [.int .i64 (k : Int)] rfl rfl ?c1 ?c2 ?c3 ?c4 ?c5 ?_
             case c1 => exact cell_one_new _ _ _
             case c2 => simp [Value.oneCell']
             case c3 => simp only [maxLen]; omega
             case c4 => omega
             case c5 => simp; omega
             intro v' w1 hown' hg' _))
        go_roundw
        case rel =>
          refine ⟨k + 1, by omega, by go_num, ?_, chg_grown (hcg.alloc _) hg' fun g hgg => (hown.lt g hgg).1⟩
          rw [HY.out, nmsN_app, List.length_append, ← HX.out, ← HN.out]
          exact hown'
        case measure => simp [intOf]; omega
      | false =>
        rw [hv] at c4
        have HY := Lib.hid (wl_no s.V k hlt hv)
        clear hv
        go_wp2_with fail
        go_roundw
        case rel => exact ⟨k + 1, by omega, by go_num, by rw [HY.out]; exact hown, hcg⟩
        case measure => simp [intOf]; omega
    · obtain rfl : k = s.V.length := by omega
      obtain ⟨A, c, rfl, hs, _, hA⟩ := own_form hown
      go_wp2_with fail
      go_ret
      exact ⟨A, c, rfl, hs, hA, hcg⟩

end
end Go.Proofs.Ytlhkmbcjgdjegaa
namespace Go.Proofs.Ytlhkmbcjgdjegaa
open Go.RowKit
section
variable {w : World} {p bL bS bW q gL gN gW : Nat} {rL rN : List Value} {m : Int} {s : St}
set_option maxHeartbeats 2000000 in
set_option maxRecDepth 100000 in
theorem alikeR_yes (h : DskS w p bL bS bW s) (r : Rfd w q gL gN gW rL rN m s) :
    Calls Try.prog 72 #[.pointer (some ⟨p, 0, none⟩), .pointer (some ⟨q, 0, none⟩)] w (LawPost w) := by
  have hwl : (wl s.V s.V.length).length ≤ 1000000 := by have := wl_le s.V s.V.length; have := r.le; omega
  have kd : ∀ W, Chg [] w.drew W → DskS W p bL bS bW s := fun W hW => Dsk.keep h ((Chg.refl [] w).drew.new hW)
  have kr : ∀ W, Chg [] w.drew W → Rfd W q gL gN gW rL rN m s := fun W hW => r.keep ((Chg.refl [] w).drew.new hW)
  have uq : Try.prog.underlying 22 = some (.slice 5) := Try.underlying22
  go_enter Try.func72, Try.ntmps72
  go_wp2_with fail
  refine wp_flow (by kernel_rfl) plainT plainT_ok (by kernel_rfl) ?_
  -- Image
  refine flow_move_out plainT_ok rfl rfl rfl ?_
  refine flow_calld (ownF w.drew.heap.size 5 (bts s.L)) (keeps_own _ _ _) (.inr (keeps_own _ _ _)) (by kernel_rfl) rfl (.cons (.inn rfl) .nil) (fun W hW => (image_any (kd W hW)).mono ?_) ?_
  · rintro e w' ⟨rfl, hI, hc⟩
    have hl : s.L.length ≤ maxLen := by have := h.lenL; have := h.le; unfold maxLen; omega
    have := own_of_whole (B := w.drew.heap.size) (n := s.L.length) (c := s.L.length) hI (Chg.size hW) (bts_len _) (Nat.le_refl _) hl
    rw [List.take_of_length_le (by rw [bts_len]; exact Nat.le_refl _)] at this
    exact ⟨_, rfl, hc, by rw [ownF, bts_len]; exact this⟩
  refine flow_str plainT_ok rfl uq Try.underlying5 Try.underlying9 rfl ?_
  refine flow_move_out plainT_ok rfl rfl rfl ?_
  refine flow1 (r := .pointer (some ⟨q, 0, none⟩)) plainT_ok rfl (.inn rfl) rfl (fun ev W he e1 => by go_simp) ?_
  refine flow1 (r := .pointer (some ⟨q, 0, none⟩)) plainT_ok rfl (.inn rfl) rfl (fun ev W he e1 => by go_simp) ?_
  refine flow1h (r := .slice (some ⟨gL, 0, none⟩) s.L.length (s.L.length + rL.length)) plainT_ok rfl (.inn rfl) rfl (fun ev W he hW e1 => by have c0 := (kr W hW).rec_.cell 0; go_simp) ?_
  refine flow1h (r := .string (strOf s.L)) plainT_ok rfl (.inn rfl) rfl (fun ev W he hW e1 => by have v0 := str_front (kr W hW).last s.L.length rfl (s.L.length + rL.length); go_simp) ?_
  refine flow_eql plainT_ok (.inn rfl) (.inn rfl) (fun ev W he e1 e2 => by go_simp) rfl ?_
  refine flow_move plainT_ok rfl (keeps_isV _) (.inr (keeps_isV _)) rfl ?_
  -- Seen
  refine flow_move_out plainT_ok rfl rfl rfl ?_
  refine flow_calld (ownF w.drew.heap.size 5 (bts s.S)) (keeps_own _ _ _) (.inr (keeps_own _ _ _)) (by kernel_rfl) rfl (.cons (.inn rfl) .nil) (fun W hW => (seen_any (kd W hW)).mono ?_) ?_
  · rintro e w' ⟨rfl, hI, hc⟩
    have hl : s.S.length ≤ maxLen := by have := h.lenS; have := h.le; unfold maxLen; omega
    have := own_of_whole (B := w.drew.heap.size) (n := s.S.length) (c := s.S.length) hI (Chg.size hW) (bts_len _) (Nat.le_refl _) hl
    rw [List.take_of_length_le (by rw [bts_len]; exact Nat.le_refl _)] at this
    exact ⟨_, rfl, hc, by rw [ownF, bts_len]; exact this⟩
  refine flow_str plainT_ok rfl uq Try.underlying5 Try.underlying9 rfl ?_
  refine flow_move_out plainT_ok rfl rfl rfl ?_
  refine flow1 (r := .pointer (some ⟨q, 0, none⟩)) plainT_ok rfl (.inn rfl) rfl (fun ev W he e1 => by go_simp) ?_
  refine flow1 (r := .pointer (some ⟨q, 1, none⟩)) plainT_ok rfl (.inn rfl) rfl (fun ev W he e1 => by go_simp) ?_
  refine flow1h (r := .slice (some ⟨gN, 0, none⟩) s.S.length (s.S.length + rN.length)) plainT_ok rfl (.inn rfl) rfl (fun ev W he hW e1 => by have c0 := (kr W hW).rec_.cell 1; go_simp) ?_
  refine flow1h (r := .string (strOf s.S)) plainT_ok rfl (.inn rfl) rfl (fun ev W he hW e1 => by have v0 := str_front (kr W hW).now s.S.length rfl (s.S.length + rN.length); go_simp) ?_
  refine flow_eql plainT_ok (.inn rfl) (.inn rfl) (fun ev W he e1 e2 => by go_simp) rfl ?_
  refine flow_and plainT_ok rfl rfl rfl ?_
  refine flow_move plainT_ok rfl (keeps_isV _) (.inr (keeps_isV _)) rfl ?_
  -- Waits
  refine flow_move_out plainT_ok rfl rfl rfl ?_
  refine flow_calld (srcF (wl s.V s.V.length).length (nmsN (wl s.V s.V.length))) (keeps_src _ _) (.inr (keeps_src _ _)) (by kernel_rfl) rfl (.cons (.inn rfl) .nil) (fun W hW => (waits_any (kd W hW)).mono ?_) ?_
  · rintro e w' ⟨v, rfl, hown, hc⟩
    obtain ⟨A4, c4, rfl, hs4, _, hA4⟩ := own_form hown
    exact ⟨_, rfl, hc, A4, c4, rfl, hs4, fun ad e => (hA4 ad e).1⟩
  refine flow_move_out plainT_ok rfl rfl rfl ?_
  refine flow_calld (srcF (wl s.V s.V.length).length (nmsN (wl s.V s.V.length))) (keeps_src _ _) (.inr (keeps_src _ _)) (by kernel_rfl) rfl (.cons (.inn rfl) .nil) (fun W hW => (rwaits_any (kr W hW)).mono ?_) ?_
  · rintro e w' ⟨A5, c5, rfl, hs5, hA5, hc⟩
    exact ⟨_, rfl, hc, A5, c5, rfl, hs5, fun ad e => (hA5 ad e).1⟩
  refine flow_call (isV (.bool true)) (keeps_isV _) (.inr (keeps_isV _)) (by kernel_rfl) rfl (fun ev W he hW hf => ?_) ?_
  · have f1 : srcF (wl s.V s.V.length).length (nmsN (wl s.V s.V.length)) (ev (.tmp 27)) W := hf.1
    have f2 : srcF (wl s.V s.V.length).length (nmsN (wl s.V s.V.length)) (ev (.tmp 29)) W := hf.2.1
    obtain ⟨A1, c1, e1, s1, p1⟩ := f1
    obtain ⟨A2, c2, e2, s2, p2⟩ := f2
    refine (?_ : Calls _ _ #[ev (.tmp 27), ev (.tmp 29)] _ _)
    rw [e1, e2]
    refine (same_yes rfl hwl s1 s2 p1 p2).mono ?_
    rintro e w' ⟨rfl, hc⟩
    exact ⟨_, rfl, hc, rfl⟩
  refine flow_and plainT_ok rfl rfl rfl ?_
  refine flow_assign plainT_ok rfl (keeps_isV _) (.inr (keeps_isV _)) rfl ?_
  intro vs W hW hF
  have e4 : vs 4 = .bool true := hF 4 _ rfl rfl
  simp only [putAll, Act.put, List.setIfInBounds_toArray, List.set_cons_zero, List.set_cons_succ, e4]
  go_wp2_with fail
  go_ret
  exact ⟨rfl, (Chg.refl [] w).drew.new hW⟩
end
end Go.Proofs.Ytlhkmbcjgdjegaa
namespace Go.Proofs.Ytlhkmbcjgdjegaa
open Go.RowKit

section
variable {w : World} {A : Option Addr} {n c : Nat} {l : List UInt8}

set_option maxHeartbeats 400000 in
/-- Less than a sector, or more than 160, or no whole ones: nil. -/
theorem of_no (hn : n ≤ 1000000) (h : n < 64 ∨ 10304 ≤ n ∨ n % 64 ≠ 0) :
    Calls Try.prog 36 #[.slice A n c] w fun e w' => e = .returned (.pointer none) ∧ w = w' := by
  by_cases h1 : n < 64
  · have hd : decide ((n : Int) / 64 < 1) = true := by simp; omega
    go_enter Try.func36, Try.ntmps36
    go_wp2_with fail
    go_ret
    exact ⟨rfl, rfl⟩
  · by_cases h2 : 10304 ≤ n
    · have hd1 : decide ((n : Int) / 64 < 1) = false := by simp; omega
      have hd2 : decide (160 < (n : Int) / 64) = true := by simp; omega
      go_enter Try.func36, Try.ntmps36
      go_wp2_with fail
      go_ret
      exact ⟨rfl, rfl⟩
    · have h3 : n % 64 ≠ 0 := by omega
      have hd1 : decide ((n : Int) / 64 < 1) = false := by simp; omega
      have hd2 : decide (160 < (n : Int) / 64) = false := by simp; omega
      have hd3 : ((n : Int) % 64 != 0) = true := by simp; omega
      clear h
      go_enter Try.func36, Try.ntmps36
      go_wp2_with fail
      go_ret
      exact ⟨rfl, rfl⟩

/-- The struct is laid last: the disk stands. -/
theorem dsk_end {W : World} {q bL bS bW : Nat} (hq : q = W.heap.size) (hL : Whole W bL 5 (bts l)) (hS : Whole W bS 5 (bts l)) (hV : Whole W bW 4 (bls (falses (l.length / 64)))) (hne : bL ≠ bS)
    (h1 : 64 ≤ l.length) (h2 : l.length < 10304) (h3 : l.length % 64 = 0) (hc : Chg [] w W) (b1 : w.heap.size ≤ bL) (b2 : w.heap.size ≤ bS) (b3 : w.heap.size ≤ bW) :
    ∃ p bL' bS' bW', Ending.returned (.pointer (some ⟨q, 0, none⟩)) = .returned (.pointer (some ⟨p, 0, none⟩)) ∧
      Dsk (W.alloc (.cells #[.slice (some ⟨bL, 0, none⟩) l.length l.length, .slice (some ⟨bS, 0, none⟩) l.length l.length, .slice (some ⟨bW, 0, none⟩) (l.length / 64) (l.length / 64)] 100)) p bL' bS' bW' l l (falses (l.length / 64)) ∧
      w.heap.size ≤ p ∧ w.heap.size ≤ bL' ∧ w.heap.size ≤ bS' ∧ w.heap.size ≤ bW' ∧ Chg [] w (W.alloc (.cells #[.slice (some ⟨bL, 0, none⟩) l.length l.length, .slice (some ⟨bS, 0, none⟩) l.length l.length, .slice (some ⟨bW, 0, none⟩) (l.length / 64) (l.length / 64)] 100)) := by
  subst hq
  have hk : ∀ o, Chg [] W (W.alloc o) := fun o => (Chg.refl [] W).alloc o
  refine ⟨W.heap.size, bL, bS, bW, rfl, ⟨?_, hL.keep (hk _), hS.keep (hk _), hV.keep (hk _), ?_, ?_, ?_, ?_, hne⟩, hc.size, b1, b2, b3, hc.alloc _⟩
  · have := Whole.new W 100 [.slice (some ⟨bL, 0, none⟩) l.length l.length, .slice (some ⟨bS, 0, none⟩) l.length l.length, .slice (some ⟨bW, 0, none⟩) (l.length / 64) (l.length / 64)]
    simpa only [falses_len] using this
  · rw [falses_len]; omega
  · rw [falses_len]; omega
  · rw [falses_len]; omega
  · rw [falses_len]; omega

set_option maxHeartbeats 400000 in
theorem of_yes (hl : l.length = n) (hs : Src w A (bts l)) (h1 : 64 ≤ n) (h2 : n < 10304) (h3 : n % 64 = 0) :
    Calls Try.prog 36 #[.slice A n c] w fun e w' => ∃ p bL bS bW, e = .returned (.pointer (some ⟨p, 0, none⟩)) ∧ Dsk w' p bL bS bW l l (falses (n / 64)) ∧
      w.heap.size ≤ p ∧ w.heap.size ≤ bL ∧ w.heap.size ≤ bS ∧ w.heap.size ≤ bW ∧ Chg [] w w' := by
  have hd1 : decide ((n : Int) / 64 < 1) = false := by simp; omega
  have hd2 : decide (160 < (n : Int) / 64) = false := by simp; omega
  have hd3 : ((n : Int) % 64 != 0) = false := by simp; omega
  have hmk : ∀ W : World, (Instr.makeSlice 98 (.int .i64 ((n : Int) / 64)) (.int .i64 ((n : Int) / 64))).run Try.prog W = .ok (.slice (some ⟨W.heap.size, 0, none⟩) (n / 64) (n / 64)) (W.alloc (.cells (bls (falses (n / 64))).toArray 4)) :=
    fun W => make_bool (n / 64) (by omega) W
  have HL := Lib.hid hl
  have H3 := Lib.hid h3
  clear hl h3
  go_enter Try.func36, Try.ntmps36
  go_wp2_with fail
  go_region_with (first
    | (go_at_call 60; have _t := HB1; refine (fresh_any (xs := bts l) (by rw [bts_len]; exact HL.out) ?_ (bts_one l) (by omega)).mono ?_; · (refine hs.keep ?_; repeat (first | exact Chg.refl _ _ | apply Chg.drew | apply Chg.alloc | refine Chg.new ?_ HC1))
       rintro e w2 ⟨rfl, HB2, HC2⟩)
    | (go_at_call 60; refine (fresh_any (xs := bts l) (by rw [bts_len]; exact HL.out) ?_ (bts_one l) (by omega)).mono ?_; · (refine hs.keep ?_; repeat (first | exact Chg.refl _ _ | apply Chg.drew | apply Chg.alloc))
       rintro e w1 ⟨rfl, HB1, HC1⟩))
  all_goals (go_wp2_with fail; go_ret; obtain rfl := HL.out)
  · have c1 : Chg [] w w1 := (Chg.refl [] w).drew.new HC1
    have l1 := Whole.lt HB1
    have z1 : w.drew.heap.size = w.heap.size := rfl
    exact dsk_end (W := w2.alloc _) (by simp) ((Whole.keep HB1 HC2).keep ((Chg.refl [] w2).alloc _)) (HB2.keep ((Chg.refl [] w2).alloc _)) (Whole.new w2 _ _) (by omega) h1 h2 H3.out ((c1.new HC2).alloc _)
      (Nat.le_refl _) c1.size (Nat.le_trans c1.size HC2.size)
  · have c1 : Chg [] w w1 := (Chg.refl [] w).drew.new HC1
    have l1 := Whole.lt HB1
    have z1 : w.drew.heap.size = w.heap.size := rfl
    have hb2 : Whole w2 (w1.heap.size + 1) 5 (bts l) := by simpa using HB2
    have s1 := c1.size
    exact dsk_end (W := w2) rfl ((Whole.keep HB1 ((Chg.refl [] w1).alloc _)).keep HC2) hb2 ((Whole.new w1 _ _).keep HC2) (by omega) h1 h2 H3.out ((c1.alloc _).new HC2)
      (Nat.le_refl _) (by omega) s1
  · have hb1 : Whole w1 (w.heap.size + 1) 5 (bts l) := by simpa using HB1
    have c1 : Chg [] w w1 := ((Chg.refl [] w).alloc _).drew.new HC1
    have l1 := hb1.lt
    exact dsk_end (W := w2) rfl (hb1.keep HC2) HB2 (((Whole.new w _ _).keep ((Chg.refl [] _).drew.new HC1)).keep HC2) (by omega) h1 h2 H3.out (c1.new HC2)
      (by omega) (by omega) (Nat.le_refl _)
end
end Go.Proofs.Ytlhkmbcjgdjegaa
namespace Go.Proofs.Ytlhkmbcjgdjegaa
open Go.RowKit

section
variable {w : World}
set_option maxHeartbeats 400000 in
theorem new_no (n : Int) (h : n < 1 ∨ 160 < n) :
    Calls Try.prog 19 #[.int .i64 n] w fun e w' => e = .returned (.pointer none) ∧ w = w' := by
  by_cases h1 : n < 1
  · have hd : decide (n < 1) = true := by simp; omega
    go_enter Try.func19, Try.ntmps19
    go_wp2_with fail
    go_ret
    exact ⟨rfl, rfl⟩
  · have hd : decide (n < 1) = false := by simp; omega
    have hd2 : decide (160 < n) = true := by simp; omega
    go_enter Try.func19, Try.ntmps19
    go_wp2_with fail
    go_ret
    exact ⟨rfl, rfl⟩

set_option maxHeartbeats 400000 in
theorem new_yes (k : Nat) (h1 : 1 ≤ k) (h2 : k ≤ 160) :
    Calls Try.prog 19 #[.int .i64 (k : Int)] w fun e w' => ∃ p bL bS bW, e = .returned (.pointer (some ⟨p, 0, none⟩)) ∧ Dsk w' p bL bS bW (zeros (k * 64)) (zeros (k * 64)) (falses k) ∧
      w.heap.size ≤ p ∧ w.heap.size ≤ bL ∧ w.heap.size ≤ bS ∧ w.heap.size ≤ bW ∧ Chg [] w w' := by
  have hd1 : decide ((k : Int) < 1) = false := by simp; omega
  have hd2 : decide (160 < (k : Int)) = false := by simp; omega
  have hmk : ∀ W : World, (Instr.makeSlice 22 (.int .i64 ((k : Int) * 64)) (.int .i64 ((k : Int) * 64))).run Try.prog W = .ok (.slice (some ⟨W.heap.size, 0, none⟩) (k * 64) (k * 64)) (W.alloc (.cells (bts (zeros (k * 64))).toArray 5)) :=
    fun W => by
      have := make_u8 (k * 64) (by omega) W
      simpa using this
  go_enter Try.func19, Try.ntmps19
  go_wp2_with (go_at_call 36; refine (of_yes (l := zeros (k * 64)) (by simp [zeros]) (Src.of_all (Whole.new w _ _)) (by omega) (by omega) (by omega)).mono ?_; rintro e w1 ⟨p, bL, bS, bW, rfl, HD, b0, b1, b2, b3, HC⟩)
  go_ret
  rw [show k * 64 / 64 = k by omega] at HD
  have hs : (w.alloc (.cells (bts (zeros (k * 64))).toArray 5)).heap.size = w.heap.size + 1 := by simp
  exact ⟨p, bL, bS, bW, rfl, HD, by omega, by omega, by omega, by omega, ((Chg.refl [] w).alloc _).new HC⟩
end
end Go.Proofs.Ytlhkmbcjgdjegaa
namespace Go.Proofs.Ytlhkmbcjgdjegaa
open Go.RowKit

section
variable {w : World} {A : Option Addr} {n c : Nat} {l : List UInt8}

set_option maxHeartbeats 400000 in
theorem rof_no (hn : n ≤ 1000000) (h : n < 64 ∨ 10304 ≤ n ∨ n % 64 ≠ 0) :
    Calls Try.prog 93 #[.slice A n c] w fun e w' => e = .returned (.pointer none) ∧ w = w' := by
  by_cases h3 : n % 64 = 0
  · have hd3 : ((n : Int) % 64 != 0) = false := by simp; omega
    by_cases h1 : n < 64
    · have hd : decide ((n : Int) / 64 < 1) = true := by simp; omega
      clear h h3
      go_enter Try.func93, Try.ntmps93
      go_wp2_with fail
      go_ret
      exact ⟨rfl, rfl⟩
    · have hd1 : decide ((n : Int) / 64 < 1) = false := by simp; omega
      have hd2 : decide (160 < (n : Int) / 64) = true := by simp; omega
      clear h h3
      go_enter Try.func93, Try.ntmps93
      go_wp2_with fail
      go_ret
      exact ⟨rfl, rfl⟩
  · have hd3 : ((n : Int) % 64 != 0) = true := by simp; omega
    clear h
    go_enter Try.func93, Try.ntmps93
    go_wp2_with fail
    go_ret
    exact ⟨rfl, rfl⟩

theorem rfd_end {W F : World} {q gL gN gW : Nat} {rL rN : List Value} (hF : Chg [] (W.alloc (.cells #[.slice (some ⟨gL, 0, none⟩) l.length (l.length + rL.length), .slice (some ⟨gN, 0, none⟩) l.length (l.length + rN.length), .slice (some ⟨gW, 0, none⟩) (l.length / 64) (l.length / 64), .int .i64 (-1), .int .i64 0] 143)) F)
    (hq : q = W.heap.size) (hL : Whole W gL 5 (bts l ++ rL)) (hN : Whole W gN 5 (bts l ++ rN)) (hV : Whole W gW 4 (bls (falses (l.length / 64)))) (hne : gL ≠ gN)
    (h1 : 64 ≤ l.length) (h2 : l.length < 10304) (h3 : l.length % 64 = 0) (hc : Chg [] w W) (b1 : w.heap.size ≤ gL) (b2 : w.heap.size ≤ gN) (b3 : w.heap.size ≤ gW) :
    ∃ p gL' gN' gW' rL' rN' m, Ending.returned (.pointer (some ⟨q, 0, none⟩)) = .returned (.pointer (some ⟨p, 0, none⟩)) ∧
      Rfd F p gL' gN' gW' rL' rN' m ⟨l, l, falses (l.length / 64)⟩ ∧ w.heap.size ≤ p ∧ w.heap.size ≤ gL' ∧ w.heap.size ≤ gN' ∧ w.heap.size ≤ gW' ∧ Chg [] w F := by
  subst hq
  have hk := ((Chg.refl [] W).alloc (.cells #[.slice (some ⟨gL, 0, none⟩) l.length (l.length + rL.length), .slice (some ⟨gN, 0, none⟩) l.length (l.length + rN.length), .slice (some ⟨gW, 0, none⟩) (l.length / 64) (l.length / 64), .int .i64 (-1), .int .i64 0] 143)).new hF
  refine ⟨W.heap.size, gL, gN, gW, rL, rN, 0, rfl, ⟨?_, hL.keep hk, hN.keep hk, hV.keep hk, ?_, ?_, ?_, hne⟩, hc.size, b1, b2, b3, hc.new hk⟩
  · have := (Whole.new W 143 [.slice (some ⟨gL, 0, none⟩) l.length (l.length + rL.length), .slice (some ⟨gN, 0, none⟩) l.length (l.length + rN.length), .slice (some ⟨gW, 0, none⟩) (l.length / 64) (l.length / 64), .int .i64 (-1), .int .i64 0]).keep hF
    simpa only [falses_len] using this
  · show l.length = 64 * (falses (l.length / 64)).length
    rw [falses_len]; omega
  · show l.length = 64 * (falses (l.length / 64)).length
    rw [falses_len]; omega
  · show (falses (l.length / 64)).length ≤ 160
    rw [falses_len]; omega

set_option maxHeartbeats 4000000 in
theorem rof_yes (hl : l.length = n) (hs : Src w A (bts l)) (h1 : 64 ≤ n) (h2 : n < 10304) (h3 : n % 64 = 0) :
    Calls Try.prog 93 #[.slice A n c] w fun e w' => ∃ p gL gN gW rL rN m, e = .returned (.pointer (some ⟨p, 0, none⟩)) ∧ Rfd w' p gL gN gW rL rN m ⟨l, l, falses (n / 64)⟩ ∧
      w.heap.size ≤ p ∧ w.heap.size ≤ gL ∧ w.heap.size ≤ gN ∧ w.heap.size ≤ gW ∧ Chg [] w w' := by
  obtain ⟨i0, hi, hz0, hz1, hz2⟩ := info_parts info_u8
  have hd1 : decide ((n : Int) / 64 < 1) = false := by simp; omega
  have hd2 : decide (160 < (n : Int) / 64) = false := by simp; omega
  have hd3 : ((n : Int) % 64 != 0) = false := by simp; omega
  have hmk : ∀ W : World, (Instr.makeSlice 98 (.int .i64 ((n : Int) / 64)) (.int .i64 ((n : Int) / 64))).run Try.prog W = .ok (.slice (some ⟨W.heap.size, 0, none⟩) (n / 64) (n / 64)) (W.alloc (.cells (bls (falses (n / 64))).toArray 4)) :=
    fun W => make_bool (n / 64) (by omega) W
  have HL := Lib.hid hl
  have H3 := Lib.hid h3
  have hpos : 0 < n := by omega
  have hb : n * 1 ≤ 140737488355328 := by omega
  have hb2 : n ≤ maxLen := by unfold maxLen; omega
  clear hl h3
  go_enter Try.func93, Try.ntmps93
  go_wp2_with fail
  go_region_law (first
    | (with_reducible refine step_append_fresh rfl (.tmp 19) (.tmp 20) _ rfl 5 i0 (.int .u8 0) 1 Try.underlying22 hi hz0 hz1 hz2 rfl _ rfl A n c rfl (bts l) ?_ hpos (hs.keep ?_) hb hb2 ?_; (rw [bts_len]; exact HL.out); (repeat (first | exact Chg.refl _ _ | apply Chg.drew | apply Chg.alloc)); (intro r1 O1 hO1; have HO1 := Lib.hid hO1; clear hO1))
    | (with_reducible refine step_append_fresh rfl (.tmp 22) (.tmp 23) _ rfl 5 i0 (.int .u8 0) 1 Try.underlying22 hi hz0 hz1 hz2 rfl _ rfl A n c rfl (bts l) ?_ hpos (hs.keep ?_) hb hb2 ?_; (rw [bts_len]; exact HL.out); (repeat (first | exact Chg.refl _ _ | apply Chg.drew | apply Chg.alloc)); (intro r2 O2 hO2; have HO2 := Lib.hid hO2; clear hO2)))
  all_goals (go_wp2_with fail; go_ret)
  all_goals (obtain rfl := HL.out)
  all_goals (obtain rfl := HO1.out)
  all_goals (obtain rfl := HO2.out)
  all_goals (refine rfd_end (by repeat (first | exact Chg.refl _ _ | apply Chg.drew | apply Chg.drewN)) ?_ ?_ ?_ ?_ ?_ h1 h2 H3.out ?_ ?_ ?_ ?_)
  all_goals first
    | omega
    | ((repeat (first | exact Chg.refl _ _ | apply Chg.drew | apply Chg.drewN | apply Chg.alloc)); done)
    | ((repeat (first | exact whole_at (Whole.new _ _ _) (by simp) | apply Whole.drew | apply Whole.drewN | refine Whole.keep ?_ ((Chg.refl _ _).alloc _))); done)
    | (simp; done)
end
end Go.Proofs.Ytlhkmbcjgdjegaa
namespace Go.Proofs.Ytlhkmbcjgdjegaa
open Go.RowKit
def St.img (l : List UInt8) : St := ⟨l, l, falses (l.length / 64)⟩
/-- The blocks of both. -/
structure Bk where
  p : Nat
  bL : Nat
  bS : Nat
  bW : Nat
  q : Nat
  gL : Nat
  gN : Nat
  gW : Nat
/-- Apart, and made behind B0. -/
structure Bk.Apart (B0 : Nat) (k : Bk) : Prop where
  a1 : k.p ≠ k.q ∧ k.p ≠ k.gL ∧ k.p ≠ k.gN ∧ k.p ≠ k.gW
  a2 : k.bL ≠ k.q ∧ k.bL ≠ k.gL ∧ k.bL ≠ k.gN ∧ k.bL ≠ k.gW
  a3 : k.bS ≠ k.q ∧ k.bS ≠ k.gL ∧ k.bS ≠ k.gN ∧ k.bS ≠ k.gW
  a4 : k.bW ≠ k.q ∧ k.bW ≠ k.gL ∧ k.bW ≠ k.gN ∧ k.bW ≠ k.gW
  low : B0 ≤ k.p ∧ B0 ≤ k.bL ∧ B0 ≤ k.bS ∧ B0 ≤ k.bW
  low2 : B0 ≤ k.q ∧ B0 ≤ k.gL ∧ B0 ≤ k.gN ∧ B0 ≤ k.gW
/-- Both hold s. -/
structure Two (w : World) (k : Bk) (rL rN : List Value) (m : Int) (s : St) : Prop where
  d : DskS w k.p k.bL k.bS k.bW s
  r : Rfd w k.q k.gL k.gN k.gW rL rN m s
theorem Two.keep {w w' : World} {k : Bk} {rL rN : List Value} {m : Int} {s : St} (h : Two w k rL rN m s) (hc : Chg [] w w') : Two w' k rL rN m s := ⟨Dsk.keep h.d hc, h.r.keep hc⟩
/-- The reference stays while the disk is written, and the other way round. -/
theorem Bk.Apart.ref {B0 : Nat} {k : Bk} (ha : k.Apart B0) {w w' : World} {rL rN : List Value} {m : Int} {s : St} (h : Rfd w k.q k.gL k.gN k.gW rL rN m s) (hc : Chg [k.bS, k.bW] w w') : Rfd w' k.q k.gL k.gN k.gW rL rN m s := by
  exact h.away hc (not2 ha.a3.1 ha.a4.1) (not2 ha.a3.2.1 ha.a4.2.1) (not2 ha.a3.2.2.1 ha.a4.2.2.1) (not2 ha.a3.2.2.2 ha.a4.2.2.2)
theorem Bk.Apart.dsk {B0 : Nat} {k : Bk} (ha : k.Apart B0) {w w' : World} {s : St} (h : DskS w k.p k.bL k.bS k.bW s) (hc : Chg [k.q, k.gN, k.gW] w w') : DskS w' k.p k.bL k.bS k.bW s := by
  have h' : Dsk w k.p k.bL k.bS k.bW s.L s.S s.V := h
  exact h'.away hc (not3 ha.a1.1 ha.a1.2.2.1 ha.a1.2.2.2) (not3 ha.a2.1 ha.a2.2.2.1 ha.a2.2.2.2) (not3 ha.a3.1 ha.a3.2.2.1 ha.a3.2.2.2) (not3 ha.a4.1 ha.a4.2.2.1 ha.a4.2.2.2)
/-- What either writes is new. -/
theorem Bk.Apart.new {B0 : Nat} {k : Bk} (_ha : k.Apart B0) {a w w' : World} {T : List Nat} (h : Chg [] a w) (hB : a.heap.size ≤ B0) (hc : Chg T w w') (hT : ∀ i, i ∈ T → B0 ≤ i) : Chg [] a w' :=
  h.then_ hc fun i hi hlt => absurd (hT i hi) (by omega)
theorem Bk.Apart.new1 {B0 : Nat} {k : Bk} (ha : k.Apart B0) {a w w' : World} (h : Chg [] a w) (hB : a.heap.size ≤ B0) (hc : Chg [k.bS, k.bW] w w') : Chg [] a w' :=
  ha.new h hB hc fun i hi => by
    rcases (by simpa using hi : i = k.bS ∨ i = k.bW) with e | e
    · rw [e]; exact ha.low.2.2.1
    · rw [e]; exact ha.low.2.2.2
theorem Bk.Apart.new2 {B0 : Nat} {k : Bk} (ha : k.Apart B0) {a w w' : World} (h : Chg [] a w) (hB : a.heap.size ≤ B0) (hc : Chg [k.q, k.gN, k.gW] w w') : Chg [] a w' :=
  ha.new h hB hc fun i hi => by
    rcases (by simpa using hi : i = k.q ∨ i = k.gN ∨ i = k.gW) with e | e | e
    · rw [e]; exact ha.low2.1
    · rw [e]; exact ha.low2.2.2.1
    · rw [e]; exact ha.low2.2.2.2
/-- What pair answers. -/
def PairPost (w : World) (l : List UInt8) (e : Ending) (w' : World) : Prop :=
  ∃ (k : Bk) (rL rN : List Value) (m : Int), e = .returned (.tuple #[.pointer (some ⟨k.p, 0, none⟩), .pointer (some ⟨k.q, 0, none⟩)]) ∧ Two w' k rL rN m (St.img l) ∧ k.Apart w.heap.size ∧ Chg [] w w'
theorem pair_end {w w1 w2 : World} {p bL bS bW q gL gN gW : Nat} {rL rN : List Value} {m : Int} {l : List UInt8} (hd : Dsk w1 p bL bS bW l l (falses (l.length / 64))) (h1 : w.heap.size ≤ p) (h2 : w.heap.size ≤ bL) (h3 : w.heap.size ≤ bS) (h4 : w.heap.size ≤ bW)
    (hr : Rfd w2 q gL gN gW rL rN m ⟨l, l, falses (l.length / 64)⟩) (k1 : w1.heap.size ≤ q) (k2 : w1.heap.size ≤ gL) (k3 : w1.heap.size ≤ gN) (k4 : w1.heap.size ≤ gW) (hc1 : Chg [] w w1) (hc2 : Chg [] w1 w2) :
    PairPost w l (.returned (.tuple #[.pointer (some ⟨p, 0, none⟩), .pointer (some ⟨q, 0, none⟩)])) w2 := by
  have e1 := hd.rec_.lt; have e2 := hd.last.lt; have e3 := hd.seen.lt; have e4 := hd.wait.lt
  have hs := hc1.size
  exact ⟨⟨p, bL, bS, bW, q, gL, gN, gW⟩, rL, rN, m, rfl, ⟨Dsk.keep hd hc2, hr⟩, ⟨⟨by simp only; omega, by simp only; omega, by simp only; omega, by simp only; omega⟩, ⟨by simp only; omega, by simp only; omega, by simp only; omega, by simp only; omega⟩, ⟨by simp only; omega, by simp only; omega, by simp only; omega, by simp only; omega⟩, ⟨by simp only; omega, by simp only; omega, by simp only; omega, by simp only; omega⟩, ⟨h1, h2, h3, h4⟩, ⟨by simp only; omega, by simp only; omega, by simp only; omega, by simp only; omega⟩⟩, hc1.new hc2⟩
end Go.Proofs.Ytlhkmbcjgdjegaa
namespace Go.Proofs.Ytlhkmbcjgdjegaa
open Go.RowKit
set_option maxHeartbeats 1000000 in
theorem pairR_any {w : World} {A : Option Addr} {n c : Nat} {l : List UInt8} (h : Bs w A n c l) (h1 : 64 ≤ n) (h2 : n < 10304) (h3 : n % 64 = 0) : Calls Try.prog 70 #[.slice A n c] w (PairPost w l) := by
  have H := Lib.hid h
  have H3 := Lib.hid h3
  clear h h3
  go_enter Try.func70, Try.ntmps70
  go_wp2_with fail
  refine (of_yes H.out.len H.out.src h1 h2 H3.out).mono ?_
  rintro e w1 ⟨p, bL, bS, bW, rfl, hD, b1, b2, b3, b4, hc1⟩
  have HD := Lib.hid hD
  have HB := Lib.hid (And.intro b1 (And.intro b2 (And.intro b3 b4)))
  have HC := Lib.hid hc1
  clear hD b1 b2 b3 b4 hc1
  go_wp2_with fail
  refine (rof_yes H.out.len (H.out.src.keep HC.out) h1 h2 H3.out).mono ?_
  rintro e w2 ⟨q, gL, gN, gW, rL, rN, m, rfl, hR, k1, k2, k3, k4, hc2⟩
  have HR := Lib.hid hR
  have HK := Lib.hid (And.intro k1 (And.intro k2 (And.intro k3 k4)))
  have HC2 := Lib.hid hc2
  clear hR k1 k2 k3 k4 hc2
  go_wp2_with fail
  go_ret2
  have hl := H.out.len
  subst hl
  exact pair_end HD.out HB.out.1 HB.out.2.1 HB.out.2.2.1 HB.out.2.2.2 HR.out HK.out.1 HK.out.2.1 HK.out.2.2.1 HK.out.2.2.2 HC.out HC2.out
end Go.Proofs.Ytlhkmbcjgdjegaa
namespace Go.Proofs.Ytlhkmbcjgdjegaa
open Go.RowKit
instance (s : St) (L P E a : Int) (n : Nat) : Decidable (canA s L P E a n) := by unfold canA; exact inferInstance
def canB (s : St) (L P E a : Int) (n : Nat) : Bool := decide (canA s L P E a n)
def appS (s : St) (L P E a : Int) (l : List UInt8) : St := if canA s L P E a l.length then apS s (128 + a.toNat) l else s
theorem append_b {w : World} {p bL bS bW : Nat} {s : St} (h : DskS w p bL bS bW s) (L P E a : Int) (h0 : -9223372036854775808 ≤ a) (h1 : a ≤ 9223372036854775807) {A : Option Addr} {n c : Nat} {l : List UInt8} (hx : Bs w A n c l) (hA : 0 < n → ∀ ad, A = some ad → ad.block ≠ bS ∧ ad.block ≠ bW) :
    Calls Try.prog 37 #[.pointer (some ⟨p, 0, none⟩), rootV L P E, .int .i64 a, .slice A n c] w fun e w' => e = .returned (.bool (canB s L P E a l.length)) ∧ DskS w' p bL bS bW (appS s L P E a l) ∧ Chg [bS, bW] w w' := by
  refine (append_any h L P E a h0 h1 hx hA).mono ?_
  rintro e w' (⟨hc, rfl, hd, hg⟩ | ⟨hc, rfl, hg⟩)
  · unfold canB appS; rw [if_pos hc, decide_eq_true hc]; exact ⟨rfl, hd, hg⟩
  · unfold canB appS; rw [if_neg hc, decide_eq_false hc]; exact ⟨rfl, Dsk.keep h hg, hg.sub (by simp)⟩
theorem rappend_b {w : World} {p gL gN gW : Nat} {rL rN : List Value} {m : Int} {s : St} (h : Rfd w p gL gN gW rL rN m s) (L P E a : Int) (h0 : -9223372036854775808 ≤ a) (h1 : a ≤ 9223372036854775807) {A : Option Addr} {n c : Nat} {l : List UInt8} (hx : Bs w A n c l) :
    Calls Try.prog 71 #[.pointer (some ⟨p, 0, none⟩), rootV L P E, .int .i64 a, .slice A n c] w fun e w' => e = .returned (.bool (canB s L P E a l.length)) ∧ (∃ m', Rfd w' p gL gN gW rL rN m' (appS s L P E a l)) ∧ Chg [p, gN, gW] w w' := by
  refine (rappend_any h L P E a h0 h1 hx).mono ?_
  rintro e w' (⟨hc, rfl, hd, hg⟩ | ⟨hc, rfl, hg⟩)
  · unfold canB appS; rw [if_pos hc, decide_eq_true hc]; exact ⟨rfl, hd, hg⟩
  · unfold canB appS; rw [if_neg hc, decide_eq_false hc]; exact ⟨rfl, ⟨m, h.keep hg⟩, hg.sub (by simp)⟩
theorem cell_chg {w w' : World} {T : List Nat} {a : Addr} {v : Value} (h : w.cell? a = some v) (hc : Chg T w w') (ht : a.block ∉ T) : w'.cell? a = some v :=
  (World.cell?_of_block (w := w) (hc.block a.block (block_lt_of_cell h) ht)).trans h
/-- Twice is once. -/
theorem apS_idem (s : St) (a : Nat) (b : List UInt8) (h : a + b.length ≤ s.S.length) : apS (apS s a b) a b = apS s a b := by
  unfold apS
  congr 1
  · apply List.ext_getElem?
    intro i
    rw [splice_get _ _ _ _ (by rw [splice_len _ _ _ h]; exact h), splice_get _ _ _ _ h]
    by_cases h1 : a ≤ i ∧ i < a + b.length
    · rw [if_pos h1, if_pos h1]
    · rw [if_neg h1, if_neg h1]
  · apply List.ext_getElem?
    intro j
    simp only [List.getElem?_map, List.length_map, List.length_range]
    rcases Nat.lt_or_ge j s.V.length with hj | hj
    · rw [List.getElem?_range hj]
      simp only [Option.map_some]
      have : (List.map (fun j => s.V.getD j false || tch a b.length j) (List.range s.V.length)).getD j false = (s.V.getD j false || tch a b.length j) := by
        rw [List.getD_eq_getElem?_getD, List.getElem?_map, List.getElem?_range hj]; rfl
      rw [this, Bool.or_assoc, Bool.or_self]
    · rw [List.getElem?_eq_none (by simpa using hj)]; rfl
theorem canA_app {s : St} {L P E a L' P' E' a' : Int} {l : List UInt8} {n : Nat} : canA (appS s L' P' E' a' l) L P E a n ↔ canA s L P E a n := by
  have : (appS s L' P' E' a' l).V.length = s.V.length := by unfold appS; split; · exact apS_V _ _ _
                                                            · rfl
  unfold canA; rw [this]
theorem appS_idem {s : St} (hS : s.S.length = 64 * s.V.length) (L P E a : Int) (l : List UInt8) : appS (appS s L P E a l) L P E a l = appS s L P E a l := by
  by_cases hc : canA s L P E a l.length
  · have h2 : canA (appS s L P E a l) L P E a l.length := canA_app.2 hc
    have e1 : appS s L P E a l = apS s (128 + a.toNat) l := if_pos hc
    rw [show appS (appS s L P E a l) L P E a l = apS (appS s L P E a l) (128 + a.toNat) l from if_pos h2, e1]
    have h3 := rightR_true.1 hc.1
    have h4 := hc.2
    exact apS_idem s _ l (by omega)
  · have e1 : appS s L P E a l = s := if_neg hc
    rw [e1, e1]
section
variable (k : Bk) (rL rN : List Value) (s s1 : St)
def DoneD (W : World) : Prop := DskS W k.p k.bL k.bS k.bW s1
def DoneR (W : World) : Prop := ∃ m, Rfd W k.q k.gL k.gN k.gW rL rN m s1
/-- The rest stays, and each goes from s to s1 alone. -/
structure Both (a b : World) : Prop where
  chg : Chg [k.bS, k.bW, k.q, k.gN, k.gW] a b
  d0 : DoneD k s a → DoneD k s b ∨ DoneD k s1 b
  d1 : DoneD k s1 a → DoneD k s1 b
  r0 : DoneR k rL rN s a → DoneR k rL rN s b ∨ DoneR k rL rN s1 b
  r1 : DoneR k rL rN s1 a → DoneR k rL rN s1 b
end
section
variable {k : Bk} {rL rN : List Value} {s s1 : St}
theorem DoneD.keep {W W' : World} (h : DoneD k s W) (hc : Chg [] W W') : DoneD k s W' := Dsk.keep h hc
theorem DoneR.keep {W W' : World} (h : DoneR k rL rN s W) (hc : Chg [] W W') : DoneR k rL rN s W' := by obtain ⟨m, h⟩ := h; exact ⟨m, h.keep hc⟩
theorem Both.of_chg {a b : World} (h : Chg [] a b) : Both k rL rN s s1 a b := ⟨h.sub (by simp), fun x => .inl (x.keep h), fun x => x.keep h, fun x => .inl (x.keep h), fun x => x.keep h⟩
theorem Both.trans {a b c : World} (h : Both k rL rN s s1 a b) (h2 : Both k rL rN s s1 b c) : Both k rL rN s s1 a c :=
  ⟨h.chg.trans h2.chg, fun x => (h.d0 x).elim h2.d0 fun y => .inr (h2.d1 y), fun x => h2.d1 (h.d1 x), fun x => (h.r0 x).elim h2.r0 fun y => .inr (h2.r1 y), fun x => h2.r1 (h.r1 x)⟩
def bothT (k : Bk) (rL rN : List Value) (s s1 : St) (hard : List Nat) : Turns := ⟨Chg [], Both k rL rN s s1, hard, []⟩
theorem bothT_ok (hard : List Nat) : (bothT k rL rN s s1 hard).Ok := ⟨Chg.refl [], fun _ _ h => Both.of_chg h, fun _ _ _ h h2 => h.trans h2⟩
/-- A value, behind both. -/
def doneF (k : Bk) (rL rN : List Value) (s1 : St) (u : Value) : Fact := fun v W => v = u ∧ DoneD k s1 W ∧ DoneR k rL rN s1 W
theorem keeps_done (u : Value) : Keeps (Chg []) (doneF k rL rN s1 u) := fun _ _ _ ⟨h1, h2, h3⟩ hc => ⟨h1, h2.keep hc, h3.keep hc⟩
theorem keeps_doneH (u : Value) : Keeps (Both k rL rN s s1) (doneF k rL rN s1 u) := fun _ _ _ ⟨h1, h2, h3⟩ hc => ⟨h1, hc.d1 h2, hc.r1 h3⟩
def doneFD (k : Bk) (s1 : St) (u : Value) : Fact := fun v W => v = u ∧ DoneD k s1 W
def doneFR (k : Bk) (rL rN : List Value) (s1 : St) (u : Value) : Fact := fun v W => v = u ∧ DoneR k rL rN s1 W
theorem keeps_doneD (u : Value) : Keeps (Chg []) (doneFD k s1 u) := fun _ _ _ ⟨h1, h2⟩ hc => ⟨h1, h2.keep hc⟩
theorem keeps_doneDH (u : Value) : Keeps (Both k rL rN s s1) (doneFD k s1 u) := fun _ _ _ ⟨h1, h2⟩ hc => ⟨h1, hc.d1 h2⟩
theorem keeps_doneR (u : Value) : Keeps (Chg []) (doneFR k rL rN s1 u) := fun _ _ _ ⟨h1, h2⟩ hc => ⟨h1, h2.keep hc⟩
theorem keeps_doneRH (u : Value) : Keeps (Both k rL rN s s1) (doneFR k rL rN s1 u) := fun _ _ _ ⟨h1, h2⟩ hc => ⟨h1, hc.r1 h2⟩
/-- The disk's Append, in any world between. -/
theorem append_both {L P E a : Int} {l : List UInt8} {B0 : Nat} (hap : k.Apart B0) {w W : World} (hd0 : DoneD k s w) (hW : Both k rL rN s (appS s L P E a l) w W) (h0 : -9223372036854775808 ≤ a) (h1 : a ≤ 9223372036854775807) {A : Option Addr} {n c : Nat} (hx : Bs W A n c l) (hA : 0 < n → ∀ ad, A = some ad → ad.block ≠ k.bS ∧ ad.block ≠ k.bW) :
    Calls Try.prog 37 #[.pointer (some ⟨k.p, 0, none⟩), rootV L P E, .int .i64 a, .slice A n c] W fun e w' => e = .returned (.bool (canB s L P E a l.length)) ∧ DoneD k (appS s L P E a l) w' ∧ Both k rL rN s (appS s L P E a l) W w' := by
  have key : ∀ t, DoneD k t W → canB t L P E a l.length = canB s L P E a l.length → appS t L P E a l = appS s L P E a l → Calls Try.prog 37 #[.pointer (some ⟨k.p, 0, none⟩), rootV L P E, .int .i64 a, .slice A n c] W fun e w' => e = .returned (.bool (canB s L P E a l.length)) ∧ DoneD k (appS s L P E a l) w' ∧ Both k rL rN s (appS s L P E a l) W w' := fun t ht e1 e2 => by
    refine (append_b ht L P E a h0 h1 hx hA).mono ?_
    rintro e w' ⟨rfl, hd, hc⟩
    rw [e2] at hd
    exact ⟨by rw [e1], hd, hc.sub (by simp), fun _ => .inr hd, fun _ => hd, fun ⟨m, h⟩ => .inl ⟨m, hap.ref h hc⟩, fun ⟨m, h⟩ => ⟨m, hap.ref h hc⟩⟩
  rcases hW.d0 hd0 with h | h
  · exact key s h rfl rfl
  · refine key _ h ?_ (appS_idem (show s.S.length = 64 * s.V.length from Dsk.lenS hd0) L P E a l)
    unfold canB
    exact decide_eq_decide.2 canA_app
theorem rappend_both {L P E a : Int} {l : List UInt8} {B0 : Nat} (hap : k.Apart B0) {w W : World} (hr0 : DoneR k rL rN s w) (hW : Both k rL rN s (appS s L P E a l) w W) (h0 : -9223372036854775808 ≤ a) (h1 : a ≤ 9223372036854775807) {A : Option Addr} {n c : Nat} (hx : Bs W A n c l) :
    Calls Try.prog 71 #[.pointer (some ⟨k.q, 0, none⟩), rootV L P E, .int .i64 a, .slice A n c] W fun e w' => e = .returned (.bool (canB s L P E a l.length)) ∧ DoneR k rL rN (appS s L P E a l) w' ∧ Both k rL rN s (appS s L P E a l) W w' := by
  have key : ∀ t, DoneR k rL rN t W → canB t L P E a l.length = canB s L P E a l.length → appS t L P E a l = appS s L P E a l → Calls Try.prog 71 #[.pointer (some ⟨k.q, 0, none⟩), rootV L P E, .int .i64 a, .slice A n c] W fun e w' => e = .returned (.bool (canB s L P E a l.length)) ∧ DoneR k rL rN (appS s L P E a l) w' ∧ Both k rL rN s (appS s L P E a l) W w' := fun t ⟨m, ht⟩ e1 e2 => by
    refine (rappend_b ht L P E a h0 h1 hx).mono ?_
    rintro e w' ⟨rfl, hd, hc⟩
    rw [e2] at hd
    exact ⟨by rw [e1], hd, hc.sub (by simp), fun h => .inl (hap.dsk h hc), fun h => hap.dsk h hc, fun _ => .inr hd, fun _ => hd⟩
  rcases hW.r0 hr0 with h | h
  · exact key s h rfl rfl
  · obtain ⟨m0, hr⟩ := hr0
    refine key _ h ?_ (appS_idem hr.lenS L P E a l)
    unfold canB
    exact decide_eq_decide.2 canA_app
end
end Go.Proofs.Ytlhkmbcjgdjegaa
namespace Go.Proofs.Ytlhkmbcjgdjegaa
open Go.RowKit
/-- n bytes, l at their beginning. -/
def padN (n : Nat) (l : List UInt8) : List UInt8 := splice (zeros n) 0 (l.take n)
theorem padN_len (n : Nat) (l : List UInt8) : (padN n l).length = n := by
  unfold padN splice
  simp only [List.take_zero, List.nil_append, Nat.zero_add, List.length_append, List.length_take, List.length_drop, zeros_len]
  omega
theorem src_take {w : World} {A : Option Addr} {m c : Nat} {l : List UInt8} (h : Bs w A m c l) (n : Nat) : Src w A (bts (l.take n)) := by
  intro hp
  obtain ⟨ad, e, hb, hx⟩ := h.src (by simp [bts] at hp ⊢; omega)
  refine ⟨ad, e, hb, fun j v hj => hx j v ?_⟩
  unfold bts at hj ⊢
  rw [List.map_take, List.getElem?_take] at hj
  split at hj
  · exact hj
  · cases hj
theorem take_min {w : World} {A : Option Addr} {m c : Nat} {l : List UInt8} (h : Bs w A m c l) (n : Nat) : (bts (l.take n)).length = Nat.min m n := by rw [bts_len, List.length_take, h.len]; exact Nat.min_comm _ _
theorem take_fits (n : Nat) (l : List UInt8) : 0 + (bts (l.take n)).length ≤ (bts (zeros n)).length := by rw [bts_len, bts_len, zeros_len, List.length_take]; omega
theorem padN_bts (n : Nat) (l : List UInt8) : splice (bts (zeros n)) 0 (bts (l.take n)) = bts (padN n l) := bts_splice _ _ _
end Go.Proofs.Ytlhkmbcjgdjegaa
namespace Go.Proofs.Ytlhkmbcjgdjegaa
open Go.RowKit
section
variable {w : World} {A B : Option Addr} {n c m d : Nat} {xs : List Int} {vs : List Value} {ls : List (List UInt8)}
set_option maxHeartbeats 4000000 in
set_option maxRecDepth 100000 in
theorem plays_any (L P : Int) (ep : Nat) (hA : Src w A (nms xs)) (hAs : 0 < n → ∀ ad, A = some ad → ad.spot = none) (hn : xs.length = n) (hnm : n ≤ 9223372036854775807) (hxr : ∀ x ∈ xs, -9223372036854775808 ≤ x ∧ x ≤ 9223372036854775807)
    (hB : Src w B vs) (hBs : 0 < m → ∀ ad, B = some ad → ad.spot = none) (hm : vs.length = m) (hmm : m ≤ 9223372036854775807) (hL : Lists w vs ls) :
    Calls Try.prog 33 #[rootV L P (ep : Int), .slice A n c, .slice B m d] w (LawPost w) := by
  have hr0 : rootV L P (ep : Int) = .agg #[.int .i64 L, .int .i64 P, .int .u32 (ep : Int)] := rfl
  have hmk : ∀ W : World, (Instr.makeSlice 22 (.int .i64 768) (.int .i64 768)).run Try.prog W = .ok (.slice (some ⟨W.heap.size, 0, none⟩) 768 768) (W.alloc (.cells (bts (zeros 768)).toArray 5)) := fun W => make_u8 768 (by omega) W
  rw [hr0]
  go_enter Try.func33, Try.ntmps33
  go_upto_region 1 with fail
  have hR := Whole.new w 26 [.int .i64 L, .int .i64 P, .int .u32 (ep : Int)]
  have hc1 : Chg [] w (w.alloc (.cells #[.int .i64 L, .int .i64 P, .int .u32 (ep : Int)] 26)) := (Chg.refl [] w).alloc _
  obtain ⟨g, hg⟩ : ∃ g, g = w.heap.size := ⟨_, rfl⟩
  rw [← hg] at hR ⊢
  generalize w.alloc (.cells #[.int .i64 L, .int .i64 P, .int .u32 (ep : Int)] 26) = w1 at hc1 hR ⊢
  have HGg := Lib.hid (show w.heap.size ≤ g by omega)
  clear hg
  go_wp2_with fail
  have hal : Chg [] w1 (w1.alloc (.cells (bts (zeros 768)).toArray 5)) := (Chg.refl [] w1).alloc _
  have hZ : Bs (w1.alloc (.cells (bts (zeros 768)).toArray 5)) (some ⟨w1.heap.size, 0, none⟩) 768 768 (zeros 768) := by
    have := Bs.of_all (Whole.new w1 5 (bts (zeros 768))) (by rw [zeros_len]; omega)
    rwa [zeros_len] at this
  refine (pairR_any hZ (by omega) (by omega) (by omega)).mono ?_
  rintro e w2 ⟨k, rL, rN, m0, rfl, hT, hAp, hc2⟩
  have HT := Lib.hid hT
  have HAp := Lib.hid hAp
  have HR2 := Lib.hid ((hR.keep hal).keep hc2)
  have HC2 := Lib.hid ((hc1.new hal).new hc2)
  have HBz := Lib.hid (show g < (w1.alloc (.cells (bts (zeros 768)).toArray 5)).heap.size ∧ w.heap.size ≤ (w1.alloc (.cells (bts (zeros 768)).toArray 5)).heap.size from ⟨(hR.keep hal).lt, (hc1.new hal).size⟩)
  generalize (w1.alloc (.cells (bts (zeros 768)).toArray 5)).heap.size = B0 at HAp HBz
  have HG := Lib.hid (show (g ≠ k.bS ∧ g ≠ k.bW) ∧ g ≠ k.q ∧ g ≠ k.gN ∧ g ≠ k.gW by have h1 := HAp.out.low; have h2 := HAp.out.low2; have := HBz.out; omega)
  clear hT hAp hc2 hal hZ hc1 hR hmk
  obtain ⟨s0, hs0⟩ : ∃ s, s = St.img (zeros 768) := ⟨_, rfl⟩
  rw [← hs0] at HT
  clear hs0
  obtain ⟨p', q', hp', hq'⟩ : ∃ p' q', p' = k.p ∧ q' = k.q := ⟨_, _, rfl, rfl⟩
  go_wp2_with fail
  go_loopw [9] (fun v wr => (∃ i : Nat, i ≤ 12 ∧ i ≤ n ∧ i ≤ m ∧ v = .int .i64 (i : Int)) ∧ (∃ m' s, Hid (Two wr k rL rN m' s)) ∧ Hid (Whole wr g 26 [.int .i64 L, .int .i64 P, .int .u32 (ep : Int)]) ∧ Hid (Chg [] w wr)) (fun v _ => 12 - (intOf v).toNat)
  case atStart => exact ⟨⟨0, by omega, by omega, by omega, rfl⟩, ⟨_, _, HT⟩, HR2, HC2⟩
  case round =>
    obtain ⟨⟨i, hi12, hin, him, rfl⟩, ⟨m', s, HTr⟩, HRr, HCr⟩ := hrel
    clear HT HR2 HC2
    by_cases hlt : i < n ∧ i < m ∧ i < 12
    · obtain ⟨h1, h2, h3⟩ := hlt
      have h1I : (i : Int) < (n : Int) := by omega
      have h2I : (i : Int) < (m : Int) := by omega
      have h3I : (i : Int) < 12 := by omega
      obtain ⟨⟨bA, oA, sA⟩, rfl, _, hxA⟩ := (hA.keep HCr.out) (by rw [nms_len]; omega)
      obtain rfl : sA = none := hAs (by omega) _ rfl
      obtain ⟨⟨bB, oB, sB⟩, rfl, _, hxB⟩ := (hB.keep HCr.out) (by omega)
      obtain rfl : sB = none := hBs (by omega) _ rfl
      have ckA := hxA i _ (nms_get xs i (by omega))
      have hxi := hxr _ (List.getElem_mem (show i < xs.length by omega))
      generalize xs[i] = x at ckA hxi
      obtain ⟨xv, hxv⟩ : ∃ x, vs[i]? = some x := ⟨_, List.getElem?_eq_getElem (by omega)⟩
      obtain ⟨X, hX⟩ : ∃ X, ls[i]? = some X := ⟨_, List.getElem?_eq_getElem (by have := hL.1; omega)⟩
      obtain ⟨A5, n5, c5, rfl, hB5⟩ := hL.2 i xv X hxv hX
      have ckB := hxB i _ hxv
      rw [add_plain] at ckA ckB
      have H5 := Lib.hid hB5
      have h5m := hB5.le
      have h5c := hB5.cap
      have CKA := Lib.hid ckA
      clear hxA hxB hxv hX hB5 ckA
      go_upto_if 44 with fail
      go_cut [10] (fun s10 wx => ∃ (t : Nat) (l : List UInt8) (cc : Nat), s10 = .slice A5 t cc ∧ t ≤ 200 ∧ Hid (Bs w A5 t cc l) ∧ wx = wr)
      case first =>
        by_cases hcl : n5 > 200
        · have hclI : (200 : Int) < (n5 : Int) := by omega
          have q1 : ¬ c5 < 200 := by omega
          have q2 : ¬ (c5 : Int) < 200 := by omega
          go_wp2_with fail
          go_meet
          exact ⟨200, _, _, rfl, by omega, Lib.hid (H5.out.take (by omega)), rfl⟩
        · have hclI : ¬ (200 : Int) < (n5 : Int) := by omega
          have h200 : n5 ≤ 200 := by omega
          go_wp2_with fail
          go_meet
          exact ⟨n5, X, _, rfl, h200, H5, rfl⟩
      case rest =>
        obtain ⟨t, l, cc, rfl, ht, HL, rfl⟩ := hcut
        obtain ⟨wr, rfl⟩ : ∃ wr : World, wr = wc := ⟨_, rfl⟩
        have HbA := Lib.hid (show bA < w.heap.size from by obtain ⟨ad, e, hb, _⟩ := hA (by rw [nms_len]; omega); injection e with e; subst e; exact hb)
        have hap := HAp.out
        have HnA := Lib.hid (show (bA ≠ k.bS ∧ bA ≠ k.bW) ∧ bA ≠ k.q ∧ bA ≠ k.gN ∧ bA ≠ k.gW by have h1 := hap.low; have h2 := hap.low2; have := HBz.out; have := HbA.out; omega)
        have HnB := Lib.hid (show 0 < t → ∀ ad, A5 = some ad → ad.block < w.heap.size from fun h0 ad e => by
          obtain ⟨ad', e', hb, _⟩ := HL.out.src (by rw [bts_len, HL.out.len]; exact h0)
          rw [e] at e'
          injection e' with e'
          subst e'
          exact hb)
        have HnS := Lib.hid (show 0 < t → ∀ ad, A5 = some ad → ad.block ≠ k.bS ∧ ad.block ≠ k.bW from fun h0 ad e => by
          have h1 := HnB.out h0 ad e; have h2 := hap.low; have := HBz.out; omega)
        have HLr := HL.out.keep HCr.out
        obtain ⟨d0, d1, d2, _, _, _⟩ := root_cells HRr.out
        have ckA := CKA.out
        have hd := HTr.out.d
        have hr := HTr.out.r
        obtain ⟨s', hs'⟩ : ∃ s', s' = appS s L P ep x l := ⟨_, rfl⟩
        obtain ⟨bb, hbb⟩ : ∃ bb, bb = canB s L P ep x l.length := ⟨_, rfl⟩
        have hd0 : DoneD k s wr := hd
        have hr0 : DoneR k rL rN s wr := ⟨_, hr⟩
        have HRR := HRr.out
        have HW := Lib.hid (show ∀ W, Both k rL rN s (appS s L P ep x l) wr.drew W → Both k rL rN s (appS s L P ep x l) wr W ∧ Bs W A5 t cc l ∧ Whole W g 26 [.int .i64 L, .int .i64 P, .int .u32 (ep : Int)] ∧ W.cell? ⟨bA, oA + i, none⟩ = some (.int .i64 x) from fun W hW => by
          have h1 : Both k rL rN s (appS s L P ep x l) wr W := (Both.of_chg (Chg.refl [] wr).drew).trans hW
          have hg := HG.out
          have ha := HnA.out
          have n1 := hap.low
          have n2 := hap.low2
          have n3 := HBz.out
          refine ⟨h1, ⟨HLr.len, HLr.src.chg h1.chg (fun h ad e => ?_), HLr.cap, HLr.max, HLr.spot⟩, HRR.chg h1.chg (by simp; omega), cell_chg ckA h1.chg (by simp; omega)⟩
          have h2 := HnB.out (by rw [bts_len, HLr.len] at h; exact h) ad e
          simp; omega)
        have HA1 := Lib.hid (fun (W : World) (hW : Both k rL rN s (appS s L P ep x l) wr.drew W) => append_both hap hd0 (HW.out W hW).1 hxi.1 hxi.2 (HW.out W hW).2.1 HnS.out)
        have HA2 := Lib.hid (fun (W : World) (hW : Both k rL rN s (appS s L P ep x l) wr.drew W) => rappend_both hap hr0 (HW.out W hW).1 hxi.1 hxi.2 (HW.out W hW).2.1)
        have hld := fun (W : World) (hW : Both k rL rN s (appS s L P ep x l) wr.drew W) => root_cells (HW.out W hW).2.2.1
        have hlx := fun (W : World) (hW : Both k rL rN s (appS s L P ep x l) wr.drew W) => (HW.out W hW).2.2.2
        generalize appS s L P ep x l = s1 at HW HA1 HA2 hld hlx
        generalize canB s L P ep x l.length = bb at HA1 HA2
        clear hd hr HLr
        go_upto_region 10 with fail
        have TOK : (bothT k rL rN s s1 [7, 15]).Ok := bothT_ok [7, 15]
        refine wp_flow (by kernel_rfl) (bothT k rL rN s s1 [7, 15]) TOK (by kernel_rfl) ?_
        refine flow_move_out TOK rfl rfl rfl ?_
        refine flow1h (r := rootV L P ep) TOK rfl (.out rfl rfl) rfl (fun ev W he hW e1 => by obtain ⟨c0, c1, c2, _, _, _⟩ := hld W hW; go_simp) ?_
        refine flow_move_out TOK rfl rfl rfl ?_
        refine flow_move_out TOK rfl rfl rfl ?_
        refine flow2 (r := .pointer (some ⟨bA, oA + i, none⟩)) TOK rfl (.inn rfl) (.inn rfl) rfl (fun ev W he e1 e2 => by go_simp) ?_
        refine flow1h (r := .int .i64 x) TOK rfl (.inn rfl) rfl (fun ev W he hW e1 => by have q0 := hlx W hW; go_simp) ?_
        refine flow_move_out TOK rfl rfl rfl ?_
        refine flow_calld (doneFD k s1 (.bool bb)) (keeps_doneD _) (.inr (keeps_doneDH _)) (by kernel_rfl) rfl (.cons (.inn rfl) (.cons (.inn rfl) (.cons (.inn rfl) (.cons (.inn rfl) .nil)))) (fun W hW => (HA1.out W hW).mono ?_) ?_
        · rintro e w' ⟨rfl, h1, h2⟩; exact ⟨_, rfl, h2, rfl, h1⟩
        refine flow_move_out TOK rfl rfl rfl ?_
        refine flow1h (r := rootV L P ep) TOK rfl (.out rfl rfl) rfl (fun ev W he hW e1 => by obtain ⟨c0, c1, c2, _, _, _⟩ := hld W hW; go_simp) ?_
        refine flow_move_out TOK rfl rfl rfl ?_
        refine flow_move_out TOK rfl rfl rfl ?_
        refine flow2 (r := .pointer (some ⟨bA, oA + i, none⟩)) TOK rfl (.inn rfl) (.inn rfl) rfl (fun ev W he e1 e2 => by go_simp) ?_
        refine flow1h (r := .int .i64 x) TOK rfl (.inn rfl) rfl (fun ev W he hW e1 => by have q0 := hlx W hW; go_simp) ?_
        refine flow_move_out TOK rfl rfl rfl ?_
        refine flow_calld (doneFR k rL rN s1 (.bool bb)) (keeps_doneR _) (.inr (keeps_doneRH _)) (by kernel_rfl) rfl (.cons (.inn rfl) (.cons (.inn rfl) (.cons (.inn rfl) (.cons (.inn rfl) .nil)))) (fun W hW => (HA2.out W hW).mono ?_) ?_
        · rintro e w' ⟨rfl, h1, h2⟩; exact ⟨_, rfl, h2, rfl, h1⟩
        refine flow_op (doneF k rL rN s1 (.bool false)) (keeps_done _) (.inr (keeps_doneH _)) rfl (fun ev W he hW hf => ?_) ?_
        · have f1 : doneFD k s1 (.bool bb) (ev (.tmp 54)) W := hf.1
          have f2 : doneFR k rL rN s1 (.bool bb) (ev (.tmp 62)) W := hf.2.1
          have e1 := f1.1
          have e2 := f2.1
          go_simp
          exact ⟨Chg.refl _ _, by simp, f1.2, f2.2⟩
        refine flow_move TOK rfl (keeps_done _) (.inr (keeps_doneH _)) rfl ?_
        refine flow_opg (doneF k rL rN s1 (.pointer (some ⟨k.p, 0, none⟩))) (doneF k rL rN s1 (.bool false)) (keeps_done _) (.inr (keeps_doneH _)) ⟨rfl, fun _ _ h => h.1⟩ (fun ev W gv he hW hg hf => ?_) ?_
        · have f1 : ev (.tmp 7) = .pointer (some ⟨k.p, 0, none⟩) := hf.1
          go_simp
          exact ⟨Chg.refl _ _, rfl, hg.2⟩
        refine flow_opg (doneF k rL rN s1 (.pointer (some ⟨k.q, 0, none⟩))) (doneF k rL rN s1 (.bool false)) (keeps_done _) (.inr (keeps_doneH _)) ⟨rfl, fun _ _ h => h.1⟩ (fun ev W gv he hW hg hf => ?_) ?_
        · have f1 : ev (.tmp 8) = .pointer (some ⟨k.q, 0, none⟩) := hf.1
          go_simp
          exact ⟨Chg.refl _ _, rfl, hg.2⟩
        refine flow_opg (doneF k rL rN s1 (.bool true)) (doneF k rL rN s1 (.bool false)) (keeps_done _) (.inr (keeps_doneH _)) ⟨rfl, fun _ _ h => h.1⟩ (fun ev W gv he hW hg hf => ?_) ?_
        · rw [run_call he (f := 72) (show callsB Try.prog 72 = true by kernel_rfl)]
          have f1 : doneF k rL rN s1 (.pointer (some ⟨k.p, 0, none⟩)) (ev (.tmp 65)) W := hf.2.1
          have f2 : doneF k rL rN s1 (.pointer (some ⟨k.q, 0, none⟩)) (ev (.tmp 66)) W := hf.2.2.1
          have e1 := f1.1
          have e2 := f2.1
          obtain ⟨m9, hr9⟩ := f1.2.2
          simp only [List.map_toArray, List.map_cons, List.map_nil, Leaves]
          rw [e1, e2]
          refine (alikeR_yes f1.2.1 hr9).mono ?_
          rintro e w' ⟨rfl, hc⟩
          exact ⟨_, rfl, hc, rfl, f1.2.1.keep hc, f1.2.2.keep hc⟩
        refine flow_opg (doneF k rL rN s1 (.bool false)) (doneF k rL rN s1 (.bool false)) (keeps_done _) (.inr (keeps_doneH _)) ⟨rfl, fun _ _ h => h.1⟩ (fun ev W gv he hW hg hf => ?_) ?_
        · have f1 : doneF k rL rN s1 (.bool true) (ev (.tmp 67)) W := hf.1
          have e1 := f1.1
          go_simp
          exact ⟨Chg.refl _ _, rfl, f1.2⟩
        refine flow_op (doneF k rL rN s1 (.bool false)) (keeps_done _) (.inr (keeps_doneH _)) rfl (fun ev W he hW hf => ?_) ?_
        · have f1 : doneF k rL rN s1 (.bool false) (ev (.tmp 64)) W := hf.1
          have f2 : doneF k rL rN s1 (.bool false) (ev (.tmp 68)) W := hf.2.2.1
          have e1 := f1.1
          have e2 := f2.1
          go_simp
          exact ⟨Chg.refl _ _, rfl, f1.2⟩
        refine flow_move TOK rfl (keeps_done _) (.inr (keeps_doneH _)) rfl ?_
        refine flow_opg (doneF k rL rN s1 (.pointer (some ⟨k.p, 0, none⟩))) (doneF k rL rN s1 (.bool false)) (keeps_done _) (.inr (keeps_doneH _)) ⟨rfl, fun _ _ h => h.1⟩ (fun ev W gv he hW hg hf => ?_) ?_
        · have f1 : ev (.tmp 7) = .pointer (some ⟨k.p, 0, none⟩) := hf.1
          go_simp
          exact ⟨Chg.refl _ _, rfl, hg.2⟩
        refine flow_opg (doneF k rL rN s1 (.pointer (some ⟨k.q, 0, none⟩))) (doneF k rL rN s1 (.bool false)) (keeps_done _) (.inr (keeps_doneH _)) ⟨rfl, fun _ _ h => h.1⟩ (fun ev W gv he hW hg hf => ?_) ?_
        · have f1 : ev (.tmp 8) = .pointer (some ⟨k.q, 0, none⟩) := hf.1
          go_simp
          exact ⟨Chg.refl _ _, rfl, hg.2⟩
        refine flow_opg (isV (rootV L P ep)) (doneF k rL rN s1 (.bool false)) (keeps_isV _) (.inr (keeps_isV _)) ⟨rfl, fun _ _ h => h.1⟩ (fun ev W gv he hW hg hf => ?_) ?_
        · have f1 : ev (.tmp 3) = .pointer (some ⟨g, 0, none⟩) := hf.1
          obtain ⟨c0, c1, c2, _, _, _⟩ := hld W hW
          go_simp
          exact ⟨Chg.refl _ _, rfl⟩
        refine flow_opg (doneF k rL rN s1 (.bool true)) (doneF k rL rN s1 (.bool false)) (keeps_done _) (.inr (keeps_doneH _)) ⟨rfl, fun _ _ h => h.1⟩ (fun ev W gv he hW hg hf => ?_) ?_
        · rw [run_call he (f := 73) (show callsB Try.prog 73 = true by kernel_rfl)]
          have f1 : doneF k rL rN s1 (.pointer (some ⟨k.p, 0, none⟩)) (ev (.tmp 71)) W := hf.2.1
          have f2 : doneF k rL rN s1 (.pointer (some ⟨k.q, 0, none⟩)) (ev (.tmp 72)) W := hf.2.2.1
          have e3 : ev (.tmp 73) = rootV L P ep := hf.2.2.2.1
          have e1 := f1.1
          have e2 := f2.1
          obtain ⟨m9, hr9⟩ := f1.2.2
          simp only [List.map_toArray, List.map_cons, List.map_nil, Leaves]
          rw [e1, e2, e3]
          refine (lrecords_yes f1.2.1 hr9 L P ep).mono ?_
          rintro e w' ⟨rfl, hc⟩
          exact ⟨_, rfl, hc, rfl, f1.2.1.keep hc, f1.2.2.keep hc⟩
        refine flow_opg (doneF k rL rN s1 (.bool false)) (doneF k rL rN s1 (.bool false)) (keeps_done _) (.inr (keeps_doneH _)) ⟨rfl, fun _ _ h => h.1⟩ (fun ev W gv he hW hg hf => ?_) ?_
        · have f1 : doneF k rL rN s1 (.bool true) (ev (.tmp 74)) W := hf.1
          have e1 := f1.1
          go_simp
          exact ⟨Chg.refl _ _, rfl, f1.2⟩
        refine flow_op (doneF k rL rN s1 (.bool false)) (keeps_done _) (.inr (keeps_doneH _)) rfl (fun ev W he hW hf => ?_) ?_
        · have f1 : doneF k rL rN s1 (.bool false) (ev (.tmp 70)) W := hf.1
          have f2 : doneF k rL rN s1 (.bool false) (ev (.tmp 75)) W := hf.2.2.1
          have e1 := f1.1
          have e2 := f2.1
          go_simp
          exact ⟨Chg.refl _ _, rfl, f1.2⟩
        intro ws W hW hF
        have f76 : doneF k rL rN s1 (.bool false) (ws 76) W := hF 76 _ rfl rfl
        have e76 := f76.1
        obtain ⟨m9, hr9⟩ := f76.2.2
        simp only [putAll, Act.put, List.setIfInBounds_toArray, List.set_cons_zero, List.set_cons_succ, e76]
        have HTz := Lib.hid (Two.mk f76.2.1 hr9)
        have HRz := Lib.hid (HW.out W hW).2.2.1
        have HCz := Lib.hid (show Chg [] w W from HCr.out.then_ (HW.out W hW).1.chg fun j hj hlt => by
          have n1 := hap.low
          have n2 := hap.low2
          have n3 := HBz.out
          simp only [List.mem_cons, List.not_mem_nil, or_false] at hj
          omega)
        clear hW hF f76 e76 hr9 hld hlx hap HA1 HA2 HW d0 d1 d2 ckA hd0 hr0 TOK
        go_wp2_with fail
        go_roundw
        case rel => exact ⟨⟨i + 1, by omega, by omega, by omega, by go_num⟩, ⟨_, _, HTz⟩, HRz, HCz⟩
        case measure => simp [intOf]; omega
    · obtain ⟨d0, d1, d2, _, _, _⟩ := root_cells HRr.out
      by_cases h1 : i < n
      · have h1I : (i : Int) < (n : Int) := by omega
        by_cases h2 : i < m
        · have h2I : (i : Int) < (m : Int) := by omega
          have h3I : ¬ (i : Int) < 12 := by omega
          go_wp2_with fail
          refine (lrecords_yes HTr.out.d HTr.out.r L P ep).mono ?_
          rintro e w9 ⟨rfl, hc9⟩
          have HC9 := Lib.hid (HCr.out.new hc9)
          clear hc9 d0 d1 d2
          go_wp2_with fail
          go_ret
          exact ⟨rfl, HC9.out⟩
        · have h2I : ¬ (i : Int) < (m : Int) := by omega
          go_wp2_with fail
          refine (lrecords_yes HTr.out.d HTr.out.r L P ep).mono ?_
          rintro e w9 ⟨rfl, hc9⟩
          have HC9 := Lib.hid (HCr.out.new hc9)
          clear hc9 d0 d1 d2
          go_wp2_with fail
          go_ret
          exact ⟨rfl, HC9.out⟩
      · have h1I : ¬ (i : Int) < (n : Int) := by omega
        go_wp2_with fail
        refine (lrecords_yes HTr.out.d HTr.out.r L P ep).mono ?_
        rintro e w9 ⟨rfl, hc9⟩
        have HC9 := Lib.hid (HCr.out.new hc9)
        clear hc9 d0 d1 d2
        go_wp2_with fail
        go_ret
        exact ⟨rfl, HC9.out⟩
end
end Go.Proofs.Ytlhkmbcjgdjegaa
namespace Go.Proofs.Ytlhkmbcjgdjegaa
open Go.RowKit
section
variable {w : World} {A : Option Addr} {n c : Nat}
set_option maxHeartbeats 8000000 in
set_option maxRecDepth 100000 in
theorem rdelta_any {l : List ChV} (h : Chs w A l) (hs : ∀ a ∈ l, Small a) (hl : l.length = n) (hn : n ≤ 1000) :
    Calls Try.prog 76 #[.slice A n c] w (BytesPost w (bytesD l)) := by
  obtain ⟨i0, hi, hz, hs1, hb⟩ := info_parts info_byte
  have H := Lib.hid h
  have HL := Lib.hid hl
  have HS := Lib.hid hs
  have hbe := Lib.hid (bts_be2 n (by omega))
  clear h hl hs
  go_enter Try.func76, Try.ntmps76
  go_wp2_with fail
  have ho1 : (w.alloc (.cells #[.int .u8 ((n : Int) / 256), .int .u8 ((n : Int) % 256)] 5)).ownsRow w.heap.size 5 1 (.slice (some ⟨w.heap.size, 0, none⟩) 2 2) 2 (bts (be2 n)) := by
    have := own_of_whole (B := w.heap.size) (n := 2) (c := 2) (Whole.new w 5 [.int .u8 ((n : Int) / 256), .int .u8 ((n : Int) % 256)]) (Nat.le_refl _) rfl (by omega) (by unfold maxLen; omega)
    rw [hbe.out]
    exact this
  have hc1 : Chg [] w (w.alloc (.cells #[.int .u8 ((n : Int) / 256), .int .u8 ((n : Int) % 256)] 5)) := (Chg.refl [] w).alloc _
  go_loopw [3, 15] (fun t i wr => ∃ k : Nat, k ≤ n ∧ i = .int .i64 (k : Int) ∧ wr.ownsRow w.heap.size 5 1 t (2 + k * 66) (bts (be2 n ++ chsB (l.take k))) ∧ Chg [] w wr) (fun _ i _ => n - (intOf i).toNat)
  case atStart => exact ⟨0, Nat.zero_le _, rfl, by simpa [chsB] using ho1, hc1⟩
  case round =>
    obtain ⟨k, hk, rfl, hown, hcr⟩ := hrel
    have hwr := hcr.size
    clear ho1 hc1
    by_cases hlt : k < n
    · obtain ⟨a, ha⟩ : ∃ a, l[k]? = some a := ⟨_, List.getElem?_eq_getElem (by have := HL.out; omega)⟩
      have ham := List.mem_of_getElem? ha
      obtain ⟨g, o, rfl, hg, hce⟩ := (H.out.keep hcr).cells (by have := HL.out; omega)
      obtain ⟨c0, c1⟩ := hce k a ha
      have hbs := (H.out.ok a ham).bs
      obtain ⟨hp0, hp1, hbn⟩ := HS.out a ham
      have HT := Lib.hid (chsB_next l k a ha)
      have HC := Lib.hid hcr
      have HA := Lib.hid ha
      clear hce ha ham hcr
      obtain ⟨page, bA, bn, bc, Bb⟩ := a
      simp only at c0 c1 hbs hp0 hp1 hbn
      subst hbn
      obtain ⟨q, rfl⟩ := Int.eq_ofNat_of_zero_le hp0
      have hbq := Lib.hid (bts_be2 q (by omega))
      have HBS := Lib.hid hbs
      clear hbs
      obtain ⟨A3, c3, rfl, _, _, _, _⟩ := own_slice hown
      obtain ⟨X, hX⟩ : ∃ X, X = be2 n ++ chsB (l.take k) := ⟨_, rfl⟩
      rw [← hX] at hown
      have HX := Lib.hid hX
      clear hX
      have hkI : (k : Int) < (n : Int) := by omega
      have HOW := Lib.hid (fun o => own_keep hown ((Chg.refl [] wr).alloc o).drew)
      have hm1 : IntKind.u8.wrap ((q : Int) / 256) = (q : Int) / 256 := by rw [IntKind.wrap_u8]; omega
      have hm2 : IntKind.u8.wrap (q : Int) = (q : Int) % 256 := by rw [IntKind.wrap_u8]
      have hx1 := Lib.hid (show 2 + k * 66 + 2 ≤ maxLen by unfold maxLen; omega)
      have hx2 := Lib.hid (show (2 + k * 66 + 2) * 1 ≤ 140737488355328 by omega)
      have hx3 := Lib.hid (show 2 + k * 66 + 2 + 64 ≤ maxLen by unfold maxLen; omega)
      have hx4 := Lib.hid (show (2 + k * 66 + 2 + 64) * 1 ≤ 140737488355328 by omega)
      have HGW := Lib.hid hg
      have C1 := Lib.hid c1
      go_wp2_with fail
      go_region_law (first
        | (refine step_append_src rfl (.tmp 33) (.tmp 38) 22 rfl w.heap.size 5 i0 _ 1 Try.underlying22 hi hz hs1 hb cells_u8 v5 (2 + k * 66 + 2) (bts (X ++ be2 q)) rfl ho5 bA 64 bc (bts Bb) rfl hbl hsB (bts_one _) hx3.out hx4.out hc5.size ?_
           intro v6 w6 ho6 hg6)
        | (refine step_append_src rfl (.tmp 18) (.tmp 32) 22 rfl w.heap.size 5 i0 _ 1 Try.underlying22 hi hz hs1 hb cells_u8 (.slice A3 (2 + k * 66) c3) (2 + k * 66) (bts X) rfl (HOW.out _) (some ⟨wr.heap.size, 0, none⟩) 2 2 [.int .u8 ((q : Int) / 256), .int .u8 ((q : Int) % 256)] rfl rfl ((Src.of_all (Whole.new wr 5 [.int .u8 ((q : Int) / 256), .int .u8 ((q : Int) % 256)])).drew) (by simp [Value.oneCell']) hx1.out hx2.out (by simp; omega) ?_
           intro v5 w5 ho5' hg5
           have hc5 : Chg [] w w5 := ((Low.of_chg (B := w.heap.size) (HC.out.alloc _).drew).trans (Low.of_own (HOW.out _) hg5)).chg (Nat.le_refl _)
           have ho5 : w5.ownsRow w.heap.size 5 1 v5 (2 + k * 66 + 2) (bts (X ++ be2 q)) := by
             have e : bts (X ++ be2 q) = bts X ++ [.int .u8 ((q : Int) / 256), .int .u8 ((q : Int) % 256)] := by rw [← hbq.out]; simp [bts]
             rw [e]; exact ho5'
           have hB5 := HBS.out.keep hc5
           have hbl : (bts Bb).length = 64 := by rw [bts_len]; exact hB5.len
           have hsB : Src w5 bA (bts Bb) := hB5.src
           have d1 : w5.cell? ⟨g, o + k * 2 + 1, none⟩ = some (.slice bA 64 bc) := by
             obtain ⟨g2, o2, e2, _, hx2⟩ := (H.out.keep hc5).cells (by have := HL.out; omega)
             injection e2 with e2
             injection e2 with e21 e22
             subst e21 e22
             exact (hx2 k _ HA.out).2
           clear ho5'))
      all_goals
        have hL6 : Low w.heap.size w5 w6 := Low.of_own ho5 hg6
        have hc6 : Chg [] w w6 := ((Low.of_chg hc5).trans hL6).chg (Nat.le_refl _)
        clear hg6 hg5 d1
        go_wp2_with fail
        go_roundw
        case rel =>
          refine ⟨k + 1, by omega, by go_num, ?_, hc6⟩
          have e1 : bts (be2 n ++ chsB (l.take (k + 1))) = bts (X ++ be2 q) ++ bts Bb := by
            rw [HT.out, ← List.append_assoc, ← HX.out]
            simp [chB, bts]
          rw [e1, show 2 + (k + 1) * 66 = 2 + k * 66 + 2 + 64 by omega]
          exact ho6
        case measure => simp [intOf]; omega
    · obtain rfl : n = k := by omega
      have HK := Lib.hid (show l.take n = l by rw [List.take_of_length_le (by rw [HL.out]; exact Nat.le_refl _)])
      rw [HK.out] at hown
      have e1 : be2 n ++ chsB l = bytesD l := by unfold bytesD; rw [HL.out]
      rw [e1] at hown
      have e2 : 2 + n * 66 = (bytesD l).length := by have := hown.1; rw [bts_len] at this; omega
      rw [e2] at hown
      have HO := Lib.hid hown
      clear e1 e2 hown
      go_wp2_with fail
      go_ret
      exact ⟨_, rfl, HO.out, hcr⟩
end
end Go.Proofs.Ytlhkmbcjgdjegaa
namespace Go.Proofs.Ytlhkmbcjgdjegaa
open Go.RowKit
def nochg : List UInt8 := [110, 111, 32, 99, 104, 97, 110, 103, 101, 115]
/-- The tape goes on, rows of that constant are marked from B on, all else stays. -/
structure TapeR (p B : Nat) (A : Option Addr) (n c : Nat) (l : List Int) (a b : World) : Prop where
  os : b.os = a.os
  tape : b.tape = a.tape
  output : b.output = a.output
  size : a.heap.size ≤ b.heap.size
  block : ∀ k, k < a.heap.size → k ≠ p → b.heap[k]? = a.heap[k]? ∨ (B ≤ k ∧ ∃ fz fz', a.heap[k]? = some (.cells (bts nochg).toArray 5 fz) ∧ b.heap[k]? = some (.cells (bts nochg).toArray 5 fz'))
  tp : ∀ i, Tp a p A n c l i → ∃ j, Tp b p A n c l j
/-- What lies below B stays, but for the tape. -/
structure TapeH (p B : Nat) (A : Option Addr) (n c : Nat) (l : List Int) (a b : World) : Prop where
  os : b.os = a.os
  tape : b.tape = a.tape
  output : b.output = a.output
  size : a.heap.size ≤ b.heap.size
  block : ∀ k, k < B → k < a.heap.size → k ≠ p → b.heap[k]? = a.heap[k]?
  tp : ∀ i, Tp a p A n c l i → ∃ j, Tp b p A n c l j
section
variable {p B B3 n c : Nat} {A : Option Addr} {l : List Int}
theorem TapeR.of_chg {a b : World} (h : Chg [] a b) : TapeR p B A n c l a b := ⟨h.os, h.tape, h.output, h.size, fun k hk _ => .inl (h.block k hk (by simp)), fun i hi => ⟨i, hi.keep h⟩⟩
theorem TapeR.next {a b : World} (h : Chg [p] a b) {j : Nat} (ht : Tp b p A n c l j) : TapeR p B A n c l a b := ⟨h.os, h.tape, h.output, h.size, fun k hk hp => .inl (h.block k hk (by simpa using hp)), fun _ _ => ⟨j, ht⟩⟩
theorem TapeR.refl (a : World) : TapeR p B A n c l a a := .of_chg (Chg.refl _ _)
theorem TapeR.trans {a b d : World} (h : TapeR p B A n c l a b) (k : TapeR p B A n c l b d) : TapeR p B A n c l a d := by
  refine ⟨k.os.trans h.os, k.tape.trans h.tape, k.output.trans h.output, Nat.le_trans h.size k.size, fun i hi hp => ?_, fun i hi => by obtain ⟨j, hj⟩ := h.tp i hi; exact k.tp j hj⟩
  rcases h.block i hi hp with h1 | ⟨hB, fz, fz', h1, h2⟩
  · rcases k.block i (Nat.lt_of_lt_of_le hi h.size) hp with k1 | ⟨hB, fz, fz', k1, k2⟩
    · exact .inl (k1.trans h1)
    · exact .inr ⟨hB, fz, fz', by rw [← h1]; exact k1, k2⟩
  · rcases k.block i (Nat.lt_of_lt_of_le hi h.size) hp with k1 | ⟨_, fz2, fz3, k1, k2⟩
    · exact .inr ⟨hB, fz, fz', h1, k1.trans h2⟩
    · exact .inr ⟨hB, fz, fz3, h1, k2⟩
theorem TapeR.h {a b : World} (h : TapeR p B A n c l a b) (hB : B3 ≤ B) : TapeH p B3 A n c l a b :=
  ⟨h.os, h.tape, h.output, h.size, fun k h3 hk hp => (h.block k hk hp).elim id fun ⟨hb, _⟩ => by omega, h.tp⟩
theorem TapeH.trans {a b d : World} (h : TapeH p B A n c l a b) (k : TapeH p B A n c l b d) : TapeH p B A n c l a d :=
  ⟨k.os.trans h.os, k.tape.trans h.tape, k.output.trans h.output, Nat.le_trans h.size k.size, fun i hB hi hp => (k.block i hB (Nat.lt_of_lt_of_le hi h.size) hp).trans (h.block i hB hi hp), fun i hi => by obtain ⟨j, hj⟩ := h.tp i hi; exact k.tp j hj⟩
theorem TapeH.whole {a b : World} (h : TapeH p B A n c l a b) {g t : Nat} {cs : List Value} (hW : Whole a g t cs) (hg : g < B) (hp : g ≠ p) : Whole b g t cs := (h.block g hg hW.lt hp).trans hW
theorem TapeH.chg {a b : World} (h : TapeH p B A n c l a b) (hB : a.heap.size ≤ B) : Chg [p] a b := ⟨h.os, h.tape, h.output, h.size, fun k hk hn => h.block k (by omega) hk (by simpa using hn)⟩
theorem TapeH.after {a b W : World} (h1 : Chg [p] a b) (h2 : TapeH p B A n c l b W) (hB : a.heap.size ≤ B) : Chg [p] a W :=
  ⟨h2.os.trans h1.os, h2.tape.trans h1.tape, h2.output.trans h1.output, Nat.le_trans h1.size h2.size, fun k hk hn => (h2.block k (by omega) (Nat.lt_of_lt_of_le hk h1.size) (by simpa using hn)).trans (h1.block k hk hn)⟩
def tapeT (p B B3 : Nat) (A : Option Addr) (n c : Nat) (l : List Int) (hard soft : List Nat) : Turns := ⟨TapeR p B A n c l, TapeH p B3 A n c l, hard, soft⟩
theorem tapeT_ok (hB : B3 ≤ B) (hard soft : List Nat) : (tapeT p B B3 A n c l hard soft).Ok := ⟨TapeR.refl, fun _ _ h => h.h hB, fun _ _ _ h h2 => h.trans h2⟩
theorem tape_by {hard soft : List Nat} (hB : B3 ≤ B) (k : Nat) {W W' : World} (h : TapeR p B A n c l W W') : (tapeT p B B3 A n c l hard soft).by_ k W W' := by
  unfold Turns.by_
  split
  · exact h.h hB
  · exact h
theorem tape_hard {hard soft : List Nat} {k : Nat} (hk : hard.contains k = true) {W W' : World} (h : TapeH p B3 A n c l W W') : (tapeT p B B3 A n c l hard soft).by_ k W W' := by
  unfold Turns.by_
  rw [if_pos (show (tapeT p B B3 A n c l hard soft).hard.contains k = true from hk)]
  exact h
theorem tape_star {a b : World} (h : Star (TapeR p B A n c l) a b) : TapeR p B A n c l a b := h.fold TapeR.refl fun _ _ _ h k => h.trans k
theorem tf_lt {W : World} {g : Nat} {o : Obj} (h : W.heap[g]? = some o) : g < W.heap.size := by
  rcases Nat.lt_or_ge g W.heap.size with hlt | hge
  · exact hlt
  · rw [Array.getElem?_eq_none hge] at h; cases h
/-- The constant's row. -/
def noF (B : Nat) : Fact := fun v W => ∃ g fz, v = .slice (some ⟨g, 0, none⟩) 10 10 ∧ B ≤ g ∧ W.heap[g]? = some (.cells (bts nochg).toArray 5 fz)
theorem keeps_noF (hpB : p < B) : Keeps (TapeR p B A n c l) (noF B) := fun v W W' ⟨g, fz, e, hB, hg⟩ hR => by
  rcases hR.block g (tf_lt hg) (by omega) with h | ⟨_, f1, f2, h1, h2⟩
  · exact ⟨g, fz, e, hB, h.trans hg⟩
  · exact ⟨g, f2, e, hB, h2⟩
theorem noF_bs {W : World} {v : Value} (h : noF B v W) : ∃ g, v = .slice (some ⟨g, 0, none⟩) 10 10 ∧ Bs W (some ⟨g, 0, none⟩) 10 10 nochg := by
  obtain ⟨g, fz, rfl, _, hg⟩ := h
  refine ⟨g, rfl, rfl, fun _ => ⟨_, rfl, tf_lt hg, fun j v hj => ?_⟩, Nat.le_refl _, by omega, fun _ ad e => by injection e with e; subst e; rfl⟩
  rw [add_plain, Nat.zero_add, cell_of_row _ _ _ _ _ _ hg]
  simpa using hj
/-- A longer row of the call's own. -/
def bigF (B : Nat) (X : List UInt8) : Fact := fun v W => 11 ≤ X.length ∧ W.ownsRow B 5 1 v X.length (bts X)
theorem keeps_bigF {B' : Nat} (hpB : p < B') (X : List UInt8) : Keeps (TapeR p B A n c l) (bigF B' X) := fun v W W' ⟨h8, h⟩ hR => by
  refine ⟨h8, h.1, h.2.imp id ?_⟩
  rintro ⟨g, cap, cur, rfl, hb, hg, hn, hc, hs, ht⟩
  refine ⟨g, cap, cur, rfl, hb, ?_, hn, hc, hs, ht⟩
  rcases hR.block g (tf_lt hg) (by omega) with h | ⟨_, f1, f2, h1, h2⟩
  · exact h.trans hg
  · exfalso
    rw [hg] at h1
    injection h1 with h1
    injection h1 with h3 _ _
    rw [h3] at hs
    have : (bts nochg).toArray.size = 10 := rfl
    omega
theorem run_convert_no {P : Program} (W : World) (t e : TypeId) (C : Array Value) (fz : Nat × Nat) (g n c : Nat) (ht : P.underlying t = some (.slice e)) (he : P.underlying e = some (.int .u8)) (hg : W.heap[g]? = some (.cells C e fz)) :
    ∃ fz', (convert t t (.slice (some ⟨g, 0, none⟩) n c)).run P W = .ok (.slice (some ⟨g, 0, none⟩) n c) { W with heap := W.heap.modify g fun _ => .cells C e fz' } := by
  have hsh : W.shape? g = some (e, C.size) := by
    unfold World.shape?
    rw [hg]
  obtain ⟨lo, hi⟩ := fz
  refine ⟨if lo = hi then (C.size, C.size + 1) else (min lo C.size, max hi (C.size + 1)), ?_⟩
  have hfr : W.freeze ⟨g, C.size, none⟩ 1 = { W with heap := W.heap.modify g fun _ => .cells C e (if lo = hi then (C.size, C.size + 1) else (min lo C.size, max hi (C.size + 1))) } := by
    unfold World.freeze
    rw [if_neg (by decide)]
    congr 1
    apply Array.ext
    · simp
    · intro i h1 h2
      simp only [Array.getElem_modify]
      by_cases h : g = i
      · subst h
        have hgl := tf_lt hg
        rw [Array.getElem?_eq_getElem hgl] at hg
        injection hg with hg
        simp [hg]
      · simp [h]
  simp [convert, run_underlying ht, run_underlying he, markStringish, hsh]
  exact hfr
end
section
variable {w0 : World} {a0 : Act} {ops : List Oper} {Q : Exit → Act → World → Prop} {F : Said} {k : Nat} {rest : List Oper}
  {d : Option Tmp} {ty : TypeId} {pos : String} {af : Array Edge} {g : Option (Nat × Bool)} {p B B3 n c : Nat} {A : Option Addr} {l : List Int} {hard soft : List Nat}
set_option maxRecDepth 100000 in
theorem flow_build_no {t : TypeId} {m : Nat} {xs : Array (Nat × Operand)} (h3 : B3 ≤ B) (hpB : p < B) (hB : B ≤ w0.heap.size) (hs : soft.contains k = true) (hrun : ∀ ev W, EvOk ev → (execOp ev ⟨d, .buildSlice t m xs, ty, pos, af, g⟩).run Try.prog W = .ok (.value (.slice (some ⟨W.heap.size, 0, none⟩) 10 10)) (W.alloc (.cells (bts nochg).toArray 5)))
    (hg : guardIs ops F true ⟨d, .buildSlice t m xs, ty, pos, af, g⟩) (h : Flow Try.prog (tapeT p B B3 A n c l hard soft) w0 a0 ops Q ((d, noF B) :: F) (k + 1) rest) : Flow Try.prog (tapeT p B B3 A n c l hard soft) w0 a0 ops Q F k (⟨d, .buildSlice t m xs, ty, pos, af, g⟩ :: rest) := by
  refine flow_op (noF B) (keeps_noF hpB) (.inl hs) hg (fun ev W he hW _ => ?_) h
  rw [hrun ev W he]
  have hs : w0.heap.size ≤ W.heap.size := TapeH.size hW
  exact ⟨tape_by h3 k (.of_chg ((Chg.refl _ _).alloc _)), _, _, rfl, Nat.le_trans hB hs, heap_alloc_new W _⟩
set_option maxRecDepth 100000 in
theorem flow_convert_no {st : Tmp} (hst : look F st = some (noF B)) (h3 : B3 ≤ B) (hpB : p < B) (hs : soft.contains k = true)
    (hg : guardIs ops F true ⟨d, .convert 22 22 (.tmp st), ty, pos, af, g⟩) (h : Flow Try.prog (tapeT p B B3 A n c l hard soft) w0 a0 ops Q ((d, noF B) :: F) (k + 1) rest) : Flow Try.prog (tapeT p B B3 A n c l hard soft) w0 a0 ops Q F k (⟨d, .convert 22 22 (.tmp st), ty, pos, af, g⟩ :: rest) := by
  refine flow_op (noF B) (keeps_noF hpB) (.inl hs) hg (fun ev W he hW hf => ?_) h
  have hf1 : factOf a0 F (.tmp st) (ev (.tmp st)) W := hf.1
  simp only [factOf, hst] at hf1
  obtain ⟨b, fz, e1, hB, hb⟩ := hf1
  obtain ⟨fz', hr⟩ := run_convert_no (P := Try.prog) W 22 5 _ fz b 10 10 Try.underlying22 Try.underlying5 hb
  have hbl := tf_lt hb
  have hnew : (W.heap.modify b fun _ => Obj.cells (bts nochg).toArray 5 fz')[b]? = some (.cells (bts nochg).toArray 5 fz') := by
    rw [Array.getElem?_modify, if_pos rfl, hb]; rfl
  have hoth : ∀ i, b ≠ i → (W.heap.modify b fun _ => Obj.cells (bts nochg).toArray 5 fz')[i]? = W.heap[i]? := fun i hib => by rw [Array.getElem?_modify, if_neg hib]
  simp only [execOp, e1, Sem.run_bind, hr, Result.andThen_ok, Sem.run_pure]
  refine ⟨tape_by h3 k ⟨rfl, rfl, rfl, by simp, fun i hi _ => ?_, fun i hi => ⟨i, ?_⟩⟩, b, fz', rfl, hB, hnew⟩
  · by_cases hib : b = i
    · subst hib
      exact .inr ⟨hB, fz, fz', hb, hnew⟩
    · exact .inl (hoth i hib)
  · have hbp : b ≠ p := by omega
    refine ⟨(hoth p hbp).trans hi.rec_, hi.len, fun hp => ?_, hi.spot, hi.rng, hi.le, hi.max⟩
    obtain ⟨ad, e, hbk, hx⟩ := hi.src hp
    refine ⟨ad, e, by simpa using hbk, fun j v hj => ?_⟩
    have h1 := hx j v hj
    rw [← h1]
    have hn : 0 < n := by have := hi.len; simp [nms] at hp; omega
    refine World.cell?_of_block (w := W) (hoth _ ?_)
    have e2 : (ad.add j).block = ad.block := by unfold Addr.add; split <;> rfl
    rw [e2]
    have := (hi.spot hn ad e).2
    omega
end
end Go.Proofs.Ytlhkmbcjgdjegaa
