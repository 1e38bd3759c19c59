/-
  N: DeltaRefC.
-/
import Derived.Test.YtddjgncdjdjgeaaGreatZN5
import Derived.Test.YtddjgncdjdjgeaaGreatZN19
import Derived.Outline
namespace Go.Proofs.YtddjgncdjdjgeaaGreat
open Go.RowKit
/-- What Undelta has made so far. -/
def UndSo (b : List UInt8) (w wr : World) (v : Value) (k : Nat) : Prop :=
  ∃ ls : List ChV, wr.ownsRow w.heap.size 51 2 v k (chCs ls) ∧ (∀ a ∈ ls, RMade wr w.heap.size a) ∧ asC ls (chsOf b k) ∧ Chg [] w wr
theorem num2_at (l : List UInt8) (k : Nat) (h : k + 1 < l.length) : num2 (l.drop k) = (l[k]'(by omega)).toNat * 256 + (l[k + 1]).toNat := by
  unfold num2
  rw [List.drop_eq_getElem_cons (by omega), List.drop_eq_getElem_cons (show k + 1 < l.length from h)]
  rfl
section
variable {w : World} {A : Option Addr} {n c : Nat}
set_option maxHeartbeats 8000000 in
set_option maxRecDepth 100000 in
theorem rundelta_own {b : List UInt8} (h : Bs w A n c b) (P : Int) :
    Calls Tryz.prog 104 #[.slice A n c, .int .i64 P] w (DReadOwn b P w) := by
  obtain ⟨i0, hi, hz0, hz1, hz2⟩ := info_parts info_change
  obtain ⟨iu, hiu, hzu, hsu, hbu⟩ := info_parts info_byte
  have hlen := h.len
  have hcap := h.cap
  have hmax := h.max
  have H := Lib.hid h
  have HLN := Lib.hid hlen
  clear h hlen
  by_cases h2 : n < 2
  · have HNO := Lib.hid (show ¬ (2 ≤ b.length ∧ b.length = 2 + num2 b * 66 ∧ rightB P (chsOf b (num2 b)) = true) from fun h => by have := HLN.out; omega)
    have hd : decide ((n : Int) < 2) = true := by simp; omega
    go_enter Tryz.func104, Tryz.ntmps104
    go_wp2_with fail
    go_ret2
    exact .inr ⟨HNO.out, rfl, Chg.refl _ _⟩
  have hd : decide ((n : Int) < 2) = false := by simp; omega
  by_cases hP : 64 < P
  · have hd2 : decide (64 < P) = true := by simpa using hP
    have HNO := Lib.hid (show ¬ (2 ≤ b.length ∧ b.length = 2 + num2 b * 66 ∧ rightB P (chsOf b (num2 b)) = true) from fun h => by
      have h3 := h.2.2
      unfold rightB at h3
      rw [decide_eq_false (by omega)] at h3
      cases h3)
    go_enter Tryz.func104, Tryz.ntmps104
    go_wp2_with fail
    go_ret2
    exact .inr ⟨HNO.out, rfl, Chg.refl _ _⟩
  have hd2 : decide (64 < P) = false := by simpa using hP
  obtain ⟨N, hN⟩ : ∃ N, N = num2 b := ⟨_, rfl⟩
  have hN6 : N < 65536 := by rw [hN]; exact num2_lt b
  obtain ⟨ad, rfl, hbw, hx⟩ := H.out.src (by rw [bts_len, HLN.out]; omega)
  obtain ⟨b0, o0, s0⟩ := ad
  obtain rfl : s0 = none := H.out.spot (by omega) _ rfl
  have x0 := hx 0 _ (bts_get b 0 (by rw [HLN.out]; omega))
  have x1 := hx 1 _ (bts_get b 1 (by rw [HLN.out]; omega))
  have hor := or_two (b[0]'(by rw [HLN.out]; omega)) (b[1]'(by rw [HLN.out]; omega))
  rw [show (b[0]'(by rw [HLN.out]; omega)).toNat * 256 + (b[1]'(by rw [HLN.out]; omega)).toNat = N by rw [hN, ← num2_at b 0 (by rw [HLN.out]; omega), List.drop_zero]] at hor
  rw [add_plain] at x0 x1
  rw [Nat.add_zero] at x0
  unfold B8 at x0 x1
  have HN := Lib.hid hN
  have HOR := Lib.hid hor
  clear hN hx hor
  have hq0 := (b[0]'(by rw [HLN.out]; omega)).toNat_lt
  have hq1 := (b[1]'(by rw [HLN.out]; omega)).toNat_lt
  generalize b[0]'(by rw [HLN.out]; omega) = q0 at x0 HOR hq0
  generalize b[1]'(by rw [HLN.out]; omega) = q1 at x1 HOR hq1
  have hn0 : (0 : Int) < (n : Int) := by omega
  have hn1 : (1 : Int) < (n : Int) := by omega
  go_enter Tryz.func104, Tryz.ntmps104
  go_wp2_with fail
  go_quiet (fail)
  rw [HOR.out]
  clear x0 x1 hq0 hq1 HOR
  have HC1 := Lib.hid ((Chg.refl [] w).drewN nq)
  by_cases h66 : n = 2 + N * 66
  · have hb1 : ((n : Int) == 2 + (N : Int) * 66) = true := by simp; omega
    have hb2 : (!((n : Int) == 2 + (N : Int) * 66)) = false := by rw [hb1]; rfl
    have hb3 : ((n : Int) != 2 + (N : Int) * 66) = false := by simp; omega
    have H66 := Lib.hid h66
    clear h66
    go_wp2_with fail
    go_loopw [7, 8] (fun v i wr => ∃ k : Nat, k ≤ N ∧ i = .int .i64 (k : Int) ∧ UndSo b w wr v k) (fun _ i _ => N - (intOf i).toNat)
    case atStart => exact ⟨0, Nat.zero_le _, rfl, [], World.ownsRow_nil _ _ _ _, fun a ha => by simp at ha, asC_nil, HC1.out⟩
    case round =>
      obtain ⟨k, hk, rfl, ls, hown, hmade, has, hcr⟩ := hrel
      have hwr := hcr.size
      have HM := Lib.hid hmade
      have HAS := Lib.hid has
      have HC := Lib.hid hcr
      clear hmade has hcr
      by_cases hlt : k < N
      · have ht66 : 2 + k * 66 + 66 ≤ n := by have := H66.out; omega
        have htI : (k : Int) < (N : Int) := by omega
        have htc : ¬ c = 2 + k * 66 := by omega
        obtain ⟨t, ht⟩ : ∃ t, t = 2 + k * 66 := ⟨_, rfl⟩
        have hcut := H.out.cut (lo := t + 2) (hi := t + 2 + 64) (by omega) (by omega)
        rw [if_neg (by omega), Option.map_some, add_plain] at hcut
        obtain ⟨Y, hY⟩ : ∃ Y, Y = (b.drop (t + 2)).take 64 := ⟨_, rfl⟩
        rw [show t + 2 + 64 - (t + 2) = 64 by omega, ← hY] at hcut
        have hYl : Y.length = 64 := hcut.len
        have HSY := Lib.hid hcut.src
        obtain ⟨_, e1, _, hx⟩ := H.out.src (by rw [bts_len, HLN.out]; omega)
        injection e1 with e1
        subst e1
        have x0 := hx t _ (bts_get b t (by rw [HLN.out]; omega))
        have x1 := hx (t + 1) _ (bts_get b (t + 1) (by rw [HLN.out]; omega))
        rw [add_plain] at x0 x1
        unfold B8 at x0 x1
        have hpg := num2_lt (b.drop t)
        have hor := or_two (b[t]'(by rw [HLN.out]; omega)) (b[t + 1]'(by rw [HLN.out]; omega))
        rw [← num2_at b t (by rw [HLN.out]; omega)] at hor
        obtain ⟨pg, hpq⟩ : ∃ pg, pg = num2 (b.drop t) := ⟨_, rfl⟩
        rw [← hpq] at hor hpg
        have hq0 := (b[t]'(by rw [HLN.out]; omega)).toNat_lt
        have hq1 := (b[t + 1]'(by rw [HLN.out]; omega)).toNat_lt
        generalize b[t]'(by rw [HLN.out]; omega) = q0 at x0 hor hq0
        generalize b[t + 1]'(by rw [HLN.out]; omega) = q1 at x1 hor hq1
        have HX0 := Lib.hid x0
        have HX1 := Lib.hid x1
        have HY := Lib.hid hY
        have HYL := Lib.hid hYl
        have HPG := Lib.hid hpq
        have HT := Lib.hid ht
        have HOR := Lib.hid hor
        have y0 : wr.cell? ⟨b0, o0 + (2 + k * 66), none⟩ = some (.int .u8 (q0.toNat : Int)) := by
          rw [← ht, ← x0]; exact World.cell?_of_block (w := w) (HC.out.block b0 hbw (by simp))
        have y1 : wr.cell? ⟨b0, o0 + (2 + k * 66) + 1, none⟩ = some (.int .u8 (q1.toNat : Int)) := by
          rw [← ht, Nat.add_assoc, ← x1]; exact World.cell?_of_block (w := w) (HC.out.block b0 hbw (by simp))
        have hbr : b0 < wr.heap.size := by omega
        have htn : (2 + (k : Int) * 66).toNat = 2 + k * 66 := by omega
        obtain ⟨A3, c3, rfl, _, _, _, _⟩ := chs_own' hown (fun a ha => (HM.out a ha).ok)
        obtain ⟨X, hX⟩ : ∃ X, X = chCs ls := ⟨_, rfl⟩
        rw [← hX] at hown
        have HXX := Lib.hid hX
        have HOW := Lib.hid hown
        have hYb := Lib.hid (show (bts Y).length = 64 by rw [bts_len, hYl])
        have hl1 : (1 : Int) < (n : Int) - (2 + (k : Int) * 66) := by omega
        have hsl : Src wr (some ⟨b0, o0 + t + 2, none⟩) (bts Y) := by
          have := HSY.out.keep HC.out
          rwa [← Nat.add_assoc] at this
        have HSL := Lib.hid hsl
        clear hcut hY hYl x0 x1 hx hpq ht hX hown hsl
        go_wp2_with fail
        rw [← HT.out]
        rw [← HT.out] at y0 y1
        obtain ⟨m, hm⟩ : ∃ m, m = n - t := ⟨_, rfl⟩
        obtain ⟨d, hd5⟩ : ∃ d, d = c - t := ⟨_, rfl⟩
        have hm66 : 66 ≤ m := by have := HT.out; omega
        have hmd : m ≤ d := by omega
        rw [← hm, ← hd5]
        have HMD := Lib.hid (And.intro hm hd5)
        clear hm hd5
        have ho0 : ((wr.alloc (.cells #[] 5)).drew).ownsRow wr.heap.size 5 1 (.slice (some ⟨wr.heap.size, 0, none⟩) 0 0) 0 [] :=
          own_of_whole (B := wr.heap.size) (n := 0) (c := 0) (Whole.new wr 5 []) (Nat.le_refl _) rfl (by omega) (by unfold maxLen; omega)
        have hd2' : ¬ d = 2 := by omega
        have hdI : (66 : Int) ≤ (d : Int) := by omega
        have hmI : (1 : Int) < (m : Int) := by omega
        have hmJ : 0 < m := by omega
        have hmK : 1 < m := by omega
        have hsh : IntKind.i64.wrap ((q0.toNat : Int) * 256) = (q0.toNat : Int) * 256 := IntWalk.i64_in _ (by omega)
        have hsi : IntKind.i64.wrap (q0.toNat : Int) = (q0.toNat : Int) := IntWalk.i64_in _ (by omega)
        have hsj : IntKind.i64.wrap (q1.toNat : Int) = (q1.toNat : Int) := IntWalk.i64_in _ (by omega)
        have hx1 := Lib.hid (show 0 + 64 ≤ maxLen by unfold maxLen; omega)
        have hx3 := Lib.hid (show k + 1 ≤ maxLen by unfold maxLen; omega)
        have hx4 := Lib.hid (show (k + 1) * 32 ≤ 140737488355328 by omega)
        go_region_law (first
          | (refine step_append_src rfl (.tmp 54) (.tmp 56) 30 rfl wr.heap.size 5 iu _ 1 Tryz.underlying30 hiu hzu hsu hbu cells_u8 (.slice (some ⟨wr.heap.size, 0, none⟩) 0 0) 0 [] rfl ho0 (some ⟨b0, o0 + t + 2, none⟩) 64 (d - 2) (bts Y) rfl hYb.out (HSL.out.keep ((Chg.refl [] wr).alloc _).drew) (bts_one _) hx1.out (by omega) (by simp) ?_
             intro v5 w5 ho5 hg5
             have hc5 : Chg [] wr w5 := (((Chg.refl [] wr).alloc _).drew).own ho0 (Nat.le_refl _) hg5
             rw [Nat.zero_add, List.nil_append] at ho5
             obtain ⟨g5, r5, rfl, hb5, hW5, hm5⟩ := own_whole ho5 (by omega)
             have e0 : w5.cell? ⟨b0, o0 + t, none⟩ = some (.int .u8 (q0.toNat : Int)) := (World.cell?_of_block (w := wr) (hc5.block b0 hbr (by simp))).trans y0
             have e1 : w5.cell? ⟨b0, o0 + t + 1, none⟩ = some (.int .u8 (q1.toNat : Int)) := (World.cell?_of_block (w := wr) (hc5.block b0 hbr (by simp))).trans y1
             have HW5 := Lib.hid hW5
             have HM5 := Lib.hid hm5
             clear ho5 hg5 hW5 hm5)
          | (refine step_append_n rfl (.tmp 43) (.tmp 59) 52 rfl w.heap.size 51 i0 _ 2 32 Tryz.underlying52 hi hz0 hz1 hz2 rfl (by decide) (.slice A3 k c3) k X rfl (rown_chg (rown_chg HOW.out hc5 (by simp)) ((Chg.refl [] w5).alloc _) (by simp)) ⟨w5.heap.size, 0, none⟩ 1 1 [.int .i64 (pg : Int), .slice (some ⟨g5, 0, none⟩) 64 (64 + r5.length)] rfl rfl (cells_page w5 _ _) (by simp [Value.oneCell']) hx3.out hx4.out (by have := hc5.size; simp; omega) ?_
             intro v6 w6 ho6 hg6))
        all_goals
          have HAL6 := Lib.hid (rown_chg (rown_chg HOW.out hc5 (by simp)) ((Chg.refl [] w5).alloc (.cells #[.int .i64 (pg : Int), .slice (some ⟨g5, 0, none⟩) 64 (64 + r5.length)] 51)) (by simp))
          have HC5 := Lib.hid hc5
          have HG6 := Lib.hid hg6
          have HO6 := Lib.hid ho6
          clear e0 e1 y0 y1 hg6 hc5 ho6 hor hsh hsi hsj ho0
          go_wp2_with fail
          go_roundw
          case rel =>
            have hsz5 := HC5.out.size
            refine ⟨k + 1, by omega, by go_num, ls ++ [⟨(pg : Int), some ⟨g5, 0, none⟩, 64, 64 + r5.length, Y⟩], ?_, ?_, ?_, ?_⟩
            · rw [chCs_app, chCs_one, ← HXX.out]
              exact HO6.out
            · intro a ha
              rcases List.mem_append.1 ha with h | h
              · exact (((HM.out a h).chg HC5.out (by simp)).chg ((Chg.refl [] w5).alloc _) (by simp)).grown HAL6.out HG6.out
              · simp only [List.mem_cons, List.not_mem_nil, or_false] at h
                subst h
                have hnew : RMade w5 w.heap.size ⟨(pg : Int), some ⟨g5, 0, none⟩, 64, 64 + r5.length, Y⟩ := ⟨⟨g5, r5, rfl, by omega, HW5.out, rfl, by have := HM5.out; unfold maxLen at this; omega⟩, HYL.out, rfl, by simp only; omega⟩
                exact (hnew.chg ((Chg.refl [] w5).alloc _) (by simp)).grown HAL6.out HG6.out
            · rw [chsOf_next]
              refine asC_snoc HAS.out ?_ rfl
              unfold keyC chOf
              rw [HY.out, HT.out, HPG.out, HT.out]
            · exact chg_grown2 ((HC.out.new HC5.out).alloc _) HG6.out fun g hgg => (HAL6.out.lt g hgg).1
          case measure => simp [intOf]; omega
      · obtain rfl : N = k := by omega
        have htI : (N : Int) ≤ (N : Int) := by omega
        have HOWN := Lib.hid hown
        obtain ⟨A5, c5, rfl, hll, hch, hm5, hnc5, _⟩ := chs_own' hown (fun a ha => (HM.out a ha).ok)
        have HLL := Lib.hid hll
        have HCH := Lib.hid hch
        clear hll hch hown
        cases hr : rightB P (chsOf b N) with
        | true =>
          have HR := Lib.hid hr
          have hrr : rightB P ls = true := by rw [asC_rightB HAS.out P, hr]
          clear hr
          go_wp2_with fail
          refine (rchanges_any HCH.out HLL.out hm5 P).mono ?_
          rintro e w7 ⟨rfl, hc7⟩
          rw [hrr]
          clear hrr
          go_wp2_with fail
          go_ret2
          refine .inl ⟨by have := HLN.out; omega, by have := HLN.out; have := H66.out; have := HN.out; omega, ?_, _, ls, rfl, ?_, fun a ha => (HM.out a ha).chg hc7 (by simp), ?_, ?_, HC.out.new hc7⟩
          · rw [← HN.out]; exact HR.out
          · rw [← HN.out]; exact rown_chg HOWN.out hc7 (by simp)
          · rw [← HN.out]; exact HLL.out
          · rw [← HN.out]; exact HAS.out
        | false =>
          have HR := Lib.hid hr
          have hrr : rightB P ls = false := by rw [asC_rightB HAS.out P, hr]
          clear hr
          go_wp2_with fail
          refine (rchanges_any HCH.out HLL.out hm5 P).mono ?_
          rintro e w7 ⟨rfl, hc7⟩
          rw [hrr]
          clear hrr
          go_wp2_with fail
          go_ret2
          refine .inr ⟨fun h => ?_, rfl, HC.out.new hc7⟩
          have := h.2.2
          rw [← HN.out, HR.out] at this
          cases this
  · have HNO := Lib.hid (show ¬ (2 ≤ b.length ∧ b.length = 2 + num2 b * 66 ∧ rightB P (chsOf b (num2 b)) = true) from fun h => by have := HLN.out; have := h.2.1; have := HN.out; omega)
    have hb1 : ((n : Int) == 2 + (N : Int) * 66) = false := by simp; omega
    have hb2 : (!((n : Int) == 2 + (N : Int) * 66)) = true := by rw [hb1]; rfl
    go_wp2_with fail
    go_ret2
    exact .inr ⟨HNO.out, rfl, HC1.out⟩
end
end Go.Proofs.YtddjgncdjdjgeaaGreat
