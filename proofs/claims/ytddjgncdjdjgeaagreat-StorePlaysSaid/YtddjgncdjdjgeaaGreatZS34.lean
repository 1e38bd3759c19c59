/-
  S: FrmRefScan, RedoRefR, Sto19, Made1, Sto20.
-/
import Derived.Test.YtddjgncdjdjgeaaGreatZS6
import Derived.Test.YtddjgncdjdjgeaaGreatZS19
import Derived.Test.YtddjgncdjdjgeaaGreatZS22
import Derived.Test.YtddjgncdjdjgeaaGreatZS24
import Derived.Test.YtddjgncdjdjgeaaGreatZS30
import Derived.Test.YtddjgncdjdjgeaaGreatZS33
namespace Go.Proofs.YtddjgncdjdjgeaaGreat
open Go.RowKit
section
variable {w : World} {A : Option Addr} {n c : Nat} {l : List UInt8}
set_option maxHeartbeats 1000000 in
set_option maxRecDepth 100000 in
theorem rscan_any (h : Bs w A n c l) (ep : Nat) (hn : n ≤ 2147483648) :
    Calls Tryz.prog 102 #[.slice A n c, .int .u32 (ep : Int)] w (ScanPost w l ep) := by
  obtain ⟨i, hi, hz, hs1, hb⟩ := info_parts info_bytes
  go_enter Tryz.func102, Tryz.ntmps102
  go_wp2_with fail
  go_loopw [6, 7] (fun v a wr => ∃ k : Nat, ∃ m : Nat, ∃ rs vs, At l ep k rs m ∧ a = .int .i64 (m : Int) ∧ wr.ownsRow w.heap.size 30 1 v k vs ∧ Rows w.heap.size wr vs rs ∧ Chg [] w wr) (fun _ a _ => n - (intOf a).toNat)
  case atStart => exact ⟨0, 0, [], [], At.zero l ep, rfl, own_nil _ _ _, Rows.nil _ _, Chg.refl _ _⟩
  case round =>
    obtain ⟨k, m, rs, vs, hat, rfl, hown, hrows, hcr⟩ := hrel
    obtain ⟨Av, cv, rfl, hvl, hvc, _⟩ := own_slice hown
    have hm := hat.top
    have hk := hat.low
    have hl := h.len
    have hcap := h.cap
    rw [hl] at hm
    have hB := (h.keep hcr).cut (lo := m) (hi := n) hm (Nat.le_refl _)
    have hdr : (l.drop m).take (n - m) = l.drop m := List.take_of_length_le (by rw [List.length_drop]; omega)
    rw [hdr] at hB
    have e1 : (k : Int) % 4294967296 = (k : Int) := by omega
    have e2 : ¬ n < m := by omega
    have e3 : ¬ c < n := by omega
    have hnx : readOk (l.drop m) ep k → m + (16 + getI (l.drop m) 8) ≤ n := fun hr => by have := (hat.next hr).top; omega
    clear hdr hl
    rcases Decidable.em (m = c) with hcm | hcm
    · have hok : ¬ readOk (l.drop m) ep k := fun hr => by have := hnx hr; omega
      have hnm : n = m := by omega
      rw [if_pos hcm.symm] at hB
      subst hcm
      subst hnm
      rw [Nat.sub_self] at hB
      clear hnx
      go_wp2_with fail
      refine (rread_any' hB ep k (by omega)).mono ?_
      rintro e w2 (⟨hyes, _⟩ | ⟨_, rfl, hc2⟩)
      · exact absurd hyes hok
      go_wp2_with fail
      go_ret2
      rw [ScanPost, hat.last hok]
      exact ⟨_, vs, rfl, by rw [hat.len]; exact own_keep hown hc2, hrows.keep hc2, hcr.new hc2⟩
    · rw [if_neg (Ne.symm hcm)] at hB
      have e4 : ¬ c = m := Ne.symm hcm
      by_cases hok : readOk (l.drop m) ep k
      · have hnk := hnx hok
        go_wp2_with fail
        refine (rread_any' hB ep k (by omega)).mono ?_
        rintro e w2 (⟨_, v2, rfl, ho2, hc2⟩ | ⟨hno, _⟩)
        rotate_left
        · exact absurd hok hno
        obtain ⟨A2, c2, rfl, _⟩ := own_slice ho2
        have how := own_keep hown hc2
        have hrw := hrows.keep hc2
        have hx1 := Lib.hid (show k + 1 ≤ maxLen by unfold maxLen; omega)
        have hx2 := Lib.hid (show (k + 1) * 24 ≤ 140737488355328 by omega)
        have hx3 := Lib.hid (show w.heap.size ≤ w2.heap.size from Nat.le_trans hcr.size hc2.size)
        go_wp2_with (at_builtin
                     refine wpList_append_src rfl (.tmp 27) (.tmp 29) 66 rfl w.heap.size 30 i _ 24 Tryz.underlying66 hi hz hs1 hb cells_slice (.slice Av k cv) k vs rfl (own_keep how ((Chg.refl _ _).alloc _)) (some ⟨w2.heap.size, 0, none⟩) 1 1 [.slice A2 (recL (l.drop m)).length c2] rfl rfl (Src.of_all (Whole.new w2 30 [.slice A2 (recL (l.drop m)).length c2])) (fun u hu => by simp at hu; rw [hu]; rfl) hx1.out hx2.out (by simp; have := hx3.out; omega) ?_
                     intro v4 w4 ho4 hg4 _)
        have hch4 : Chg [] w w4 := ((hcr.new hc2).alloc _).own (own_keep how ((Chg.refl _ _).alloc _)) (Nat.le_refl _) hg4
        go_roundw
        case rel =>
          refine ⟨k + 1, m + (16 + getI (l.drop m) 8), _, _, hat.next hok, by go_num, ho4, ?_, hch4⟩
          exact ((hrw.keep ((Chg.refl _ _).alloc _)).snoc (own_more (own_keep ho2 ((Chg.refl _ _).alloc _)) hcr.size)).grown (own_keep how ((Chg.refl _ _).alloc _)) hg4
        case measure => simp [intOf]; omega
      · go_wp2_with fail
        refine (rread_any' hB ep k (by omega)).mono ?_
        rintro e w2 (⟨hyes, _⟩ | ⟨_, rfl, hc2⟩)
        · exact absurd hyes hok
        go_wp2_with fail
        go_ret2
        rw [ScanPost, hat.last hok]
        exact ⟨_, vs, rfl, by rw [hat.len]; exact own_keep hown hc2, hrows.keep hc2, hcr.new hc2⟩
end
end Go.Proofs.YtddjgncdjdjgeaaGreat
namespace Go.Proofs.YtddjgncdjdjgeaaGreat
open Go.RowKit
section
variable {w : World} {p gL gN gW : Nat} {rL rN : List Value} {lf m0 : Int} {s : St}
set_option maxHeartbeats 2000000 in
set_option maxRecDepth 100000 in
theorem rrec_any (h : Rfx w p gL gN gW rL rN lf m0 s) (L P : Int) (ep : Nat) :
    Calls Tryz.prog 61 #[.pointer (some ⟨p, 0, none⟩), rootV L P (ep : Int)] w (RecPost w (recsS s L P ep)) := by
  obtain ⟨i, hi, hz, hs1, hb⟩ := info_parts info_chs
  have hr0 : rootV L P (ep : Int) = .agg #[.int .i64 L, .int .i64 P, .int .u32 (ep : Int)] := rfl
  have H := Lib.hid h
  clear h
  rw [hr0]
  go_enter Tryz.func61, Tryz.ntmps61
  go_wp2_with fail
  have hR := Whole.new w 58 [.int .i64 L, .int .i64 P, .int .u32 (ep : Int)]
  have hc1 : Chg [] w (w.alloc (.cells #[.int .i64 L, .int .i64 P, .int .u32 (ep : Int)] 58)) := (Chg.refl [] w).alloc _
  obtain ⟨g, hg⟩ : ∃ g, g = w.heap.size := ⟨_, rfl⟩
  rw [← hg] at hR ⊢
  generalize w.alloc (.cells #[.int .i64 L, .int .i64 P, .int .u32 (ep : Int)] 58) = w1 at hc1 hR ⊢
  clear hg
  have hld := fun (W : World) (hW : Chg [] w1.drew W) => root_cells (hR.drew.keep hW)
  have kd : ∀ W, Chg [] w1.drew W → Rfx W p gL gN gW rL rN lf m0 s := fun W hW => (H.out.keep hc1.drew).keep hW
  obtain ⟨lg, hlg⟩ : ∃ lg, lg = logL s L P ep := ⟨_, rfl⟩
  obtain ⟨X, hX⟩ : ∃ X, X = scanS lg ep := ⟨_, rfl⟩
  have hll : lg.length ≤ 4096 := by rw [hlg]; exact logL_small s L P ep
  have hXs := scanS_small lg ep
  rw [← hX] at hXs
  have HRS := Lib.hid (show recsS s L P ep = recF P X.1 by unfold recsS; rw [← hlg, ← hX])
  have hwz : w1.drew.heap.size = w1.heap.size := rfl
  refine wp_flow (by kernel_rfl) plainT plainT_ok (by kernel_rfl) ?_
  refine flow_move_out plainT_ok rfl rfl rfl ?_
  refine flow1h (r := rootV L P ep) plainT_ok rfl (.out rfl rfl) rfl (fun ev W he hW e1 => by obtain ⟨c0, c1, c2, _, _, _⟩ := hld W hW; go_simp) ?_
  refine flow_calld (ownF w1.drew.heap.size 5 (bts lg)) (keeps_own _ _ _) (.inr (keeps_own _ _ _)) (by kernel_rfl) rfl (.cons (.inn rfl) (.cons (.inn rfl) .nil)) (fun W hW => (rlog_any (kd W hW) L P ep).mono ?_) ?_
  · rintro e w' ⟨v, rfl, ho, hc⟩
    rw [← hlg] at ho
    exact ⟨_, rfl, hc, by rw [ownF, bts_len]; exact own_more ho hW.size⟩
  refine flow1 (r := .pointer (some ⟨g, 2, none⟩)) plainT_ok rfl (.out rfl rfl) rfl (fun ev W he e1 => by go_simp) ?_
  refine flow1h (r := .int .u32 (ep : Int)) plainT_ok rfl (.inn rfl) rfl (fun ev W he hW e1 => by obtain ⟨c0, c1, c2, _, _, _⟩ := hld W hW; go_simp) ?_
  refine flow_call (scanF w1.drew.heap.size X) (keeps_scan _ _) (.inr (keeps_scan _ _)) (by kernel_rfl) rfl (fun ev W he hW hf => ?_) ?_
  · have h1 : (ownF w1.drew.heap.size 5 (bts lg)) (ev (.tmp 17)) W := hf.1
    have h2 : ev (.tmp 19) = .int .u32 (ep : Int) := hf.2.1
    rw [ownF, bts_len] at h1
    obtain ⟨A, c, e1, hB, _⟩ := Bs.of_own h1
    show Calls _ _ #[ev (.tmp 17), ev (.tmp 19)] W _
    rw [e1, h2]
    refine (rscan_any hB ep (by omega)).mono ?_
    rintro e w' ⟨v, vs, rfl, ho, hr, hc⟩
    rw [← hX] at ho hr ⊢
    exact ⟨_, rfl, hc, v, vs, rfl, own_more ho hW.size, rows_more hr hW.size⟩
  refine flow_move plainT_ok rfl (keeps_scan _ _) (.inr (keeps_scan _ _)) rfl ?_
  refine flow_scan0 plainT_ok (keeps_frm _ _) (.inr (keeps_frm _ _)) rfl rfl ?_
  refine flow_scan1 plainT_ok rfl rfl ?_
  refine flow_assign plainT_ok rfl (keeps_frm _ _) (.inr (keeps_frm _ _)) rfl ?_
  refine flow_assign plainT_ok rfl (keeps_isV _) (.inr (keeps_isV _)) rfl ?_
  intro vs W hW hF
  obtain ⟨rs, ho, hrows⟩ := hF 6 _ rfl rfl
  have e7 : vs 7 = .int .i64 (X.2 : Int) := hF 7 _ rfl rfl
  generalize hFv : vs 6 = Fv at ho
  simp only [putAll, Act.put, List.setIfInBounds_toArray, List.set_cons_zero, List.set_cons_succ, e7, hFv]
  obtain ⟨Y, z⟩ := X
  simp only at ho hrows HRS hXs ⊢
  obtain ⟨n, hn⟩ : ∃ n, n = Y.length := ⟨_, rfl⟩
  rw [← hn] at ho hXs
  have HN := Lib.hid hn
  obtain ⟨A6, c6, rfl, hl6, _, hs6, hp6⟩ := own_slice ho
  have HCW := Lib.hid (hc1.new (wdrew hW))
  have HRW := Lib.hid (hR.drew.keep hW)
  have HS6 := Lib.hid hs6
  have HP6 := Lib.hid hp6
  have HROW := Lib.hid hrows
  have HYL := Lib.hid hXs.2
  have hn4 : n ≤ 4097 := by omega
  have HL6 := Lib.hid hl6
  have HLG := Lib.hid hll
  clear hW hF hld hR hc1 kd e7 hFv hs6 hp6 hrows ho hXs hlg hX hn hl6 hwz hll
  go_wp2_with fail
  go_loopw [8, 9, 25] (fun v a i wr => ∃ k : Nat, k ≤ n ∧ i = .int .i64 (k : Int) ∧ (∃ m : Nat, a = .int .i64 (m : Int) ∧ Hid (m = lenS (Y.take k))) ∧ (∃ vs, wr.ownsRow W.heap.size 52 1 v k vs ∧ Hid (Recs W.heap.size wr vs ((Y.take k).map recM))) ∧ Hid (∀ (j : Nat) b, j < k → Y[j]? = some b → okR P b) ∧ Hid (Chg [] W wr)) (fun _ _ i _ => n - (intOf i).toNat)
  case atStart => exact ⟨0, Nat.zero_le _, rfl, ⟨0, rfl, Lib.hid rfl⟩, ⟨[], own_nil _ _ _, Lib.hid (by rw [List.take_zero]; exact Recs.nil _ _)⟩, Lib.hid (fun j b hj => absurd hj (by omega)), Lib.hid (Chg.refl _ _)⟩
  case round =>
    obtain ⟨k, hk, rfl, ⟨m, rfl, HM⟩, ⟨vs, hown, HRC⟩, HOK, HCr⟩ := hrel
    obtain ⟨Av, cv, rfl, hvl, hvc, _⟩ := own_slice hown
    have HCa := Lib.hid (HCW.out.new HCr.out)
    by_cases hlt : k < n
    · have hkI : (k : Int) < (n : Int) := by omega
      have HS := Lib.hid ((HS6.out).keep HCr.out)
      obtain ⟨ad, rfl, _, hcell⟩ := HS.out (by rw [HL6.out]; omega)
      obtain ⟨b6, o6, s6⟩ := ad
      obtain rfl : s6 = none := (HP6.out _ rfl).1
      have hkl : k < rs.length := by rw [HL6.out]; exact hlt
      have hkY : k < Y.length := by rw [← HN.out]; exact hlt
      have hc := hcell k rs[k] (List.getElem?_eq_getElem hkl)
      have hfr := HROW.out.2 k _ _ (List.getElem?_eq_getElem hkl) (List.getElem?_eq_getElem hkY)
      have hyl := HYL.out _ (List.getElem_mem hkY)
      have hYk := Lib.hid (List.getElem?_eq_getElem hkY)
      generalize Y[k] = b at hfr hyl hYk
      generalize rs[k] = fv at hc hfr
      obtain ⟨Ab, cb, rfl, hB, _⟩ := Bs.of_own (own_keep hfr HCr.out)
      rw [add_plain] at hc
      obtain ⟨c0, c1, c2, _, _, _⟩ := root_cells (HRW.out.keep HCr.out)
      obtain ⟨q, hq⟩ : ∃ q, q = b.length := ⟨_, rfl⟩
      rw [← hq] at hB hyl hc
      have HB := Lib.hid hB
      have HQ := Lib.hid hq
      have HLN := Lib.hid (lenS_next Y k b hYk.out)
      have HMN := Lib.hid (recM_next Y k b hYk.out)
      have hq5 : q ≤ 4096 := by have := HLG.out; omega
      clear hfr hB hq hcell hyl
      go_wp2_with fail
      refine (rundelta_own HB.out P).mono ?_
      rintro e w2 (⟨h1, h2, h3, v2, ls, rfl, ho2, hm2, hl2, ha2, hc2⟩ | ⟨hno, rfl, hc2⟩)
      · have HOKb := Lib.hid (show okR P b from ⟨h1, h2, h3⟩)
        have how := own_keep hown hc2
        have HOV := Lib.hid (show w2.ownsRow W.heap.size 51 2 v2 (recM b).length (chCs ls) by rw [recM_len]; exact rown_more' ho2 HCr.out.size)
        have HM2 := Lib.hid (show ∀ a ∈ ls, RMade w2 W.heap.size a from fun a ha => (hm2 a ha).more HCr.out.size)
        have HL2 := Lib.hid (show ls.length = (recM b).length by rw [recM_len]; exact hl2)
        have HA2 := Lib.hid (show asC ls (recM b) from ha2)
        have HC2 := Lib.hid hc2
        have hc2c := cell_keep c0 hc2
        have hx1 := Lib.hid (show k + 1 ≤ maxLen by unfold maxLen; omega)
        have hx2 := Lib.hid (show (k + 1) * 24 ≤ 140737488355328 by omega)
        have hx3 := Lib.hid (show W.heap.size ≤ w2.heap.size from Nat.le_trans HCr.out.size hc2.size)
        have hm4 : m ≤ 17000000 := by
          have h := lenS_le (Y.take k) 4096 (fun r hr => Nat.le_trans (HYL.out r (List.mem_of_mem_take hr)) HLG.out)
          rw [List.length_take] at h
          have := HM.out
          have h5 : min k Y.length * (16 + 4096) ≤ 4097 * 4112 := Nat.mul_le_mul (by omega) (by omega)
          omega
        clear h1 h2 h3 ho2 hm2 hl2 ha2 hc2 c0 c1 c2 hown hc2c
        obtain ⟨A2, q2, rfl, _⟩ : ∃ A2 q2, v2 = .slice A2 (recM b).length q2 ∧ True := by
          rcases HOV.out.2 with ⟨e, h0⟩ | ⟨g, cap, cur, e, _⟩
          · exact ⟨_, _, by rw [e, h0], trivial⟩
          · exact ⟨_, _, e, trivial⟩
        obtain ⟨z2, hz2⟩ : ∃ z, z = (recM b).length := ⟨_, rfl⟩
        rw [← hz2] at HOV HL2 ⊢
        have HZ2 := Lib.hid hz2
        clear hz2
        go_wp2_with (at_builtin
                     refine wpList_append_src rfl (.tmp 38) (.tmp 40) 95 rfl W.heap.size 52 i _ 24 Tryz.underlying95 hi hz hs1 hb cells_chs (.slice Av k cv) k vs rfl (own_keep how ((Chg.refl _ _).alloc _)) (some ⟨w2.heap.size, 0, none⟩) 1 1 [.slice A2 z2 q2] rfl rfl (Src.of_all (Whole.new w2 52 [.slice A2 z2 q2])) (fun u hu => by simp at hu; rw [hu]; rfl) hx1.out hx2.out (by simp; have := hx3.out; omega) ?_
                     intro v4 w4 ho4 hg4 _)
        have hal : Chg [] w2 (w2.alloc (.cells #[.slice A2 z2 q2] 52)) := (Chg.refl [] w2).alloc _
        go_roundw
        case rel =>
          refine ⟨k + 1, by omega, by go_num, ⟨m + (16 + q), by go_num, Lib.hid (by rw [HLN.out, HM.out, HQ.out])⟩, ⟨_, ho4, Lib.hid ?_⟩, Lib.hid (fun j c hj hcx => ?_), Lib.hid (((HCr.out.new HC2.out).alloc _).own (own_keep how hal) ?_ hg4)⟩
          · rw [HMN.out]
            refine ((HRC.out.keep HC2.out).keep hal |>.snoc ?_ (fun a ha => (HM2.out a ha).chg hal (by simp)) ?_ HA2.out).grown (own_keep how hal) hg4
            · rw [← HZ2.out]; exact rown_chg HOV.out hal (by simp)
            · rw [← HZ2.out]; exact HL2.out
          · rcases Nat.lt_or_ge j k with h | h
            · exact HOK.out j c h hcx
            · obtain rfl : j = k := by omega
              rw [hYk.out] at hcx
              cases hcx
              exact HOKb.out
          · exact Nat.le_refl _
        case measure => simp [intOf]; omega
      · have HNO := Lib.hid hno
        have HC2 := Lib.hid hc2
        have how := own_keep hown hc2
        clear hno hc2 c0 c1 c2
        go_wp2_with fail
        go_ret2
        rw [HRS.out, recF_stop P Y k (Nat.le_of_lt hkY) HOK.out (fun c hc => by rw [hYk.out] at hc; cases hc; exact HNO.out), ← HM.out]
        exact ⟨_, vs, rfl, by simpa [(Nat.le_of_lt hkY)] using own_more how HCW.out.size, (HRC.out.keep HC2.out).more HCW.out.size, HCa.out.new HC2.out⟩
    · have hkI : ¬ (k : Int) < (n : Int) := by omega
      have hkn : k = Y.length := by rw [← HN.out]; omega
      have HKN := Lib.hid hkn
      clear hkn
      go_wp2_with fail
      go_ret2
      rw [HRS.out, recF_stop P Y k (by rw [HKN.out]; exact Nat.le_refl _) HOK.out (fun c hc => by rw [List.getElem?_eq_none (by rw [HKN.out]; exact Nat.le_refl _)] at hc; cases hc), ← HM.out]
      exact ⟨_, vs, rfl, by simpa [HKN.out] using own_more hown HCW.out.size, HRC.out.more HCW.out.size, HCa.out⟩
end
end Go.Proofs.YtddjgncdjdjgeaaGreat
namespace Go.Proofs.YtddjgncdjdjgeaaGreat
open Go.RowKit
/-- The pages' bytes behind the first i records. -/
def stA (H : SV) (ms : List (List ChV)) (i : Nat) : List UInt8 := ((ms.take i).foldl turnV H).pages.flatten
def stsL (H : SV) (ms : List (List ChV)) : List (List UInt8) := (List.range (ms.length + 1)).map (stA H ms)
/-- Texts as cells hold them. -/
def sts (l : List (List UInt8)) : List Value := l.map fun x => .string (strOf x)
/-- A row of our own: its block is told. -/
theorem own_blk_lt {w : World} {B n : Nat} {e : TypeId} {v : Value} {xs : List Value} (h : w.ownsRow B e 1 v n xs) : ∀ g, v.ownBlock = some g → B ≤ g ∧ g < w.heap.size := by
  intro g hg
  rcases h.2 with ⟨rfl, _⟩ | ⟨q, cap, cur, rfl, hb, hh, _⟩
  · simp [Value.ownBlock] at hg
  · simp [Value.ownBlock] at hg
    subst hg
    refine ⟨hb, ?_⟩
    rcases Nat.lt_or_ge q w.heap.size with hlt | hge
    · exact hlt
    · rw [Array.getElem?_eq_none hge] at hh; cases hh
end Go.Proofs.YtddjgncdjdjgeaaGreat
namespace Go.Proofs.YtddjgncdjdjgeaaGreat
open Go.RowKit
/-- .. with the roots that lie there, and how the log begins. -/
structure KeptM (s : St) (x : SV) (ms : List (List ChV)) (u : Nat) : Prop where
  k : KeptS s x ms u
  z4 : (∀ j : Nat, j < 4 → s.L[128 + j]? = some 0) ∨ 4 ≤ u
  r1 : secV s 1 = rootL x.L x.P 1
  r0 : secV s 0 = rootL x.L x.P 2
  e : x.E = 2
theorem flA_L {s : St} (h : Sa s) : (flA s).L = s.S := by rw [flA_is h]
theorem KeptM.flA {s : St} {x : SV} {ms : List (List ChV)} {u : Nat} (h : KeptM s x ms u) : KeptM (flA s) x ms x.used := by
  refine ⟨h.k.flA, ?_, (secV_flA _ _).trans h.r1, (secV_flA _ _).trans h.r0, h.e⟩
  have hz := h.k.k.z.z
  have h1 := rightR_true.1 h.k.k.z.k.rt
  cases ms with
  | nil =>
    refine .inl fun j hj => ?_
    rw [flA_L h.k.sa]
    have hl := hz.log
    have h3 : (frsL x.E 0 []).length = 0 := rfl
    have hl2 : (logB s x.L)[j]? = some 0 := by
      rw [hl]
      show ([] ++ zeros (x.L * 64 - x.used))[j]? = _
      have h4 := hz.len
      rw [h3] at h4
      rw [List.nil_append, zeros, List.getElem?_replicate, if_pos (by omega)]
    unfold logB at hl2
    rw [List.getElem?_take, if_pos (by omega), List.getElem?_drop] at hl2
    exact hl2
  | cons m ms =>
    have h3 := frsL_ge x.E (m :: ms) 0
    have h4 := hz.len
    rw [List.length_cons] at h3
    exact .inr (by omega)
theorem KeptM.com {s : St} {x : SV} {ms : List (List ChV)} {u : Nat} {m : List ChV} (h : KeptM s x ms u) (hm : InL x.P m) (hf : x.used + (18 + 66 * m.length) ≤ x.L * 64) : KeptM (comS s x m) (comV x m) (ms ++ [m]) u := by
  have h1 := rightR_true.1 h.k.k.z.k.rt
  have hl : (comL x m).length = 18 + 66 * m.length := by unfold comL; rw [frameL_len, back_len hm.1]; omega
  have h2 := h.k.k.eq.lenS
  exact ⟨h.k.com hm hf, h.z4, (secV_apS (by omega) 1 (by omega)).trans h.r1, (secV_apS (by omega) 0 (by omega)).trans h.r0, h.e⟩
end Go.Proofs.YtddjgncdjdjgeaaGreat
namespace Go.Proofs.YtddjgncdjdjgeaaGreat
open Go.RowKit
def UB (E k j u : Nat) (ms : List (List ChV)) : Prop := k < j → (frsL E 0 (ms.take k)).length = u
theorem Rows.chg {B : Nat} {w w' : World} {vs : List Value} {rs : List (List UInt8)} {T : List Nat} (h : Rows B w vs rs) (hc : Chg T w w') (hT : ∀ i ∈ T, i < B ∨ w.heap.size ≤ i) : Rows B w' vs rs := ⟨h.1, fun i v l hv hl => rown_chg (h.2 i v l hv hl) hc hT⟩
theorem Rows.lists {B : Nat} {w : World} {vs : List Value} {rs : List (List UInt8)} (h : Rows B w vs rs) : Lists w vs rs := ⟨h.1, fun i v X hv hX => by
  obtain ⟨A, c, e, hB, _⟩ := Bs.of_own (h.2 i v X hv hX)
  exact ⟨A, _, c, e, hB⟩⟩
theorem grown_T {w w' : World} {b : Option Nat} {B : Nat} (hg : w.grownBy w' b) (hb : ∀ q, b = some q → B ≤ q) : ∃ T, Chg T w w' ∧ ∀ i ∈ T, B ≤ i := by
  cases b with
  | none => exact ⟨[], Chg.of_grown hg (fun q h _ => by cases h), fun i h => by cases h⟩
  | some q => exact ⟨[q], Chg.of_grown hg (fun q' h _ => by injection h with h; subst h; exact List.mem_cons_self), fun i h => by simp only [List.mem_singleton] at h; subst h; exact hb i rfl⟩
theorem Tp.chg {T : List Nat} {w w' : World} {p n c a : Nat} {A : Option Addr} {l : List Int} (h : Tp w p A n c l a) (hc : Chg T w w') (hp : p ∉ T) (hA : 0 < n → ∀ ad, A = some ad → ad.block ∉ T) : Tp w' p A n c l a :=
  { h with rec_ := h.rec_.chg hc hp, src := h.src.chg hc (fun h0 ad e => hA (by rw [nms_len, h.len] at h0; exact h0) ad e) }
/-- A tape, a row of texts, a row of rows of bytes. -/
structure Mt (w wr : World) (B pt : Nat) (A : Option Addr) (n c : Nat) (xs : List Int) (a : Nat) (vs : Value) (ns : Nat) (ts : List (List UInt8)) (vw : Value) (nw : Nat) (us : List Value) (rs : List (List UInt8)) : Prop where
  tp : Tp wr pt A n c xs a
  rs_ : wr.ownsRow B 9 1 vs ns (sts ts)
  rw_ : wr.ownsRow B 30 1 vw nw us
  rows : Rows B wr us rs
  chg : Chg [] w wr
  low : w.heap.size ≤ B
  siz : B ≤ wr.heap.size
  pl : pt < B
  al : 0 < n → ∀ ad, A = some ad → ad.block < w.heap.size
section
variable {w wr wx : World} {B pt n c a ns nw : Nat} {A : Option Addr} {xs : List Int} {vs vw : Value} {ts rs : List (List UInt8)} {us : List Value}
theorem Mt.on {T : List Nat} (h : Mt w wr B pt A n c xs a vs ns ts vw nw us rs) (hc : Chg T wr wx) (hT : ∀ i ∈ T, i < B ∧ i ≠ pt ∧ w.heap.size ≤ i) : Mt w wx B pt A n c xs a vs ns ts vw nw us rs := by
  have h1 : ∀ i ∈ T, i < B ∨ wr.heap.size ≤ i := fun i hi => .inl (hT i hi).1
  exact { tp := h.tp.chg hc (fun hm => (hT _ hm).2.1 rfl) (fun h0 ad e hm => by have := h.al h0 ad e; have := (hT _ hm).2.2; omega), rs_ := rown_chg h.rs_ hc h1, rw_ := rown_chg h.rw_ hc h1, rows := h.rows.chg hc h1, chg := h.chg.then_ hc (fun i hi hw => by have := (hT i hi).2.2; omega), low := h.low, siz := Nat.le_trans h.siz hc.size, pl := h.pl, al := h.al }
theorem Mt.keep (h : Mt w wr B pt A n c xs a vs ns ts vw nw us rs) (hc : Chg [] wr wx) : Mt w wx B pt A n c xs a vs ns ts vw nw us rs := h.on hc (fun i hi => by cases hi)
/-- The tape goes on. -/
theorem Mt.tape {a' : Nat} (h : Mt w wr B pt A n c xs a vs ns ts vw nw us rs) (hc : Chg [pt] wr wx) (ht : Tp wx pt A n c xs a') (hpt : w.heap.size ≤ pt) : Mt w wx B pt A n c xs a' vs ns ts vw nw us rs := by
  have h1 : ∀ i ∈ [pt], i < B ∨ wr.heap.size ≤ i := fun i hi => by simp only [List.mem_singleton] at hi; subst hi; exact .inl h.pl
  exact { tp := ht, rs_ := rown_chg h.rs_ hc h1, rw_ := rown_chg h.rw_ hc h1, rows := h.rows.chg hc h1, chg := h.chg.then_ hc (fun i hi hw => by simp only [List.mem_singleton] at hi; omega), low := h.low, siz := Nat.le_trans h.siz hc.size, pl := h.pl, al := h.al }
/-- A row of bytes more. -/
theorem Mt.more {v' u : Value} {l : List UInt8} (h : Mt w wr B pt A n c xs a vs ns ts vw nw us rs) (hu : wr.ownsRow B 5 1 u l.length (bts l)) (ho : wx.ownsRow B 30 1 v' (nw + 1) (us ++ [u])) (hg : wr.grownBy wx vw.ownBlock) : Mt w wx B pt A n c xs a vs ns ts v' (nw + 1) (us ++ [u]) (rs ++ [l]) := by
  obtain ⟨T, hc, hT⟩ := grown_T (B := B) hg (fun q hq => (own_blk_lt h.rw_ q hq).1)
  have hp := h.pl
  have hl := h.low
  exact { tp := h.tp.chg hc (fun hm => by have := hT _ hm; omega) (fun h0 ad e hm => by have := h.al h0 ad e; have := hT _ hm; omega), rs_ := own_grown h.rs_ h.rw_ (by decide) hg, rw_ := ho, rows := (h.rows.grown h.rw_ hg).snoc (own_grown hu h.rw_ (by decide) hg), chg := Chg.own h.chg h.rw_ h.low hg, low := h.low, siz := Nat.le_trans h.siz hc.size, pl := h.pl, al := h.al }
end
/-- Blocks that a store lets be written. -/
structure ExB (p bL bS bW g gN pt : Nat) (ex : List Nat) (vs vw : Value) : Prop where
  tp : pt ∈ ex ∧ ∀ i ∈ [p, bL, bS, bW, g, gN], i ≠ pt
  s : ∀ q, vs.ownBlock = some q → q ∈ ex ∧ ∀ i ∈ [p, bL, bS, bW, g, gN], i ≠ q
  w : ∀ q, vw.ownBlock = some q → q ∈ ex ∧ ∀ i ∈ [p, bL, bS, bW, g, gN], i ≠ q
/-- What StoreKeeps' first loop keeps. -/
structure SKI (w wr : World) (B p bL bS bW g gN pt : Nat) (A : Option Addr) (n c : Nat) (xs : List Int) (H : SV) (K j jj : Nat) (vs vw : Value) (s : St) (x : SV) (v : Value) (a u : Nat) (ms : List (List ChV)) (us : List Value) (ex : List Nat) : Prop where
  sto : Sto wr ⟨p, bL, bS, bW, g, gN, ex⟩ s x v
  ex : ExB p bL bS bW g gN pt ex vs vw
  k : KeptS s x ms u
  home : homeV s ⟨x.L, x.P, x.E⟩ = H
  L : x.L = 24
  P : x.P = 6
  E : x.E = 2
  V : s.V.length = 40
  len : ms.length = j
  ub : UB 2 K jj u ms
  mt : Mt w wr B pt A n c xs a vs (j + 1) (stsL H ms) vw j us (ms.map bytesD)
end Go.Proofs.YtddjgncdjdjgeaaGreat
