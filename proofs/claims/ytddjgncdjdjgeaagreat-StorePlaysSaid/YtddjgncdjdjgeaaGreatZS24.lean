/-
  S: RedoRecA, FrmRef.
-/
import Derived.Test.YtddjgncdjdjgeaaGreatZS10
import Derived.Test.YtddjgncdjdjgeaaGreatZS16
namespace Go.Proofs.YtddjgncdjdjgeaaGreat
open Go.RowKit
section
variable {P0 : Program} {T : Turns} {w0 : World} {a0 : Act} {ops : List Oper} {Q : Exit → Act → World → Prop} {F : Said} {k : Nat} {rest : List Oper}
  {d : Option Tmp} {ty : TypeId} {pos : String} {af : Array Go.Edge} {g : Option (Nat × Bool)}
/-- The frames out of the pair. -/
def frmF (B : Nat) (ls : List (List UInt8)) : Fact := fun v W => ∃ vs, W.ownsRow B 30 1 v ls.length vs ∧ Rows B W vs ls
theorem rows_more {B B' : Nat} {w : World} {vs : List Value} {rs : List (List UInt8)} (h : Rows B w vs rs) (hB : B' ≤ B) : Rows B' w vs rs := ⟨h.1, fun i v l hv hl => own_more (h.2 i v l hv hl) hB⟩
theorem keeps_frm (B : Nat) (ls : List (List UInt8)) : Keeps (Chg []) (frmF B ls) := fun _ _ _ ⟨vs, h2, h3⟩ hc => ⟨vs, own_keep h2 hc, h3.keep hc⟩
theorem flow_scan0 {t : Tmp} {B : Nat} {x : List (List UInt8) × Nat} (hT : T.Ok) (hk : Keeps T.R (frmF B x.1)) (hf : T.soft.contains k = true ∨ Keeps T.H (frmF B x.1)) (hs : look F t = some (scanF B x))
    (hg : guardIs ops F true ⟨d, .extract (.tmp t) 0, ty, pos, af, g⟩) (h : Flow P0 T w0 a0 ops Q ((d, frmF B x.1) :: F) (k + 1) rest) :
    Flow P0 T w0 a0 ops Q F k (⟨d, .extract (.tmp t) 0, ty, pos, af, g⟩ :: rest) := by
  refine flow_op _ hk hf hg (fun ev W he hW hf => ?_) h
  have hf1 : factOf a0 F (.tmp t) (ev (.tmp t)) W := hf.1
  simp only [factOf, hs] at hf1
  obtain ⟨v1, vs, e1, h1, h2⟩ := hf1
  have : (execOp ev ⟨d, .extract (.tmp t) 0, ty, pos, af, g⟩).run P0 W = .ok (.value v1) W := by go_simp
  rw [this]
  exact ⟨hT.by_refl k W, vs, h1, h2⟩
theorem flow_scan1 {t : Tmp} {B : Nat} {x : List (List UInt8) × Nat} (hT : T.Ok) (hs : look F t = some (scanF B x))
    (hg : guardIs ops F true ⟨d, .extract (.tmp t) 1, ty, pos, af, g⟩) (h : Flow P0 T w0 a0 ops Q ((d, isV (.int .i64 (x.2 : Int))) :: F) (k + 1) rest) :
    Flow P0 T w0 a0 ops Q F k (⟨d, .extract (.tmp t) 1, ty, pos, af, g⟩ :: rest) := by
  refine flow_op _ (keeps_isV _) (.inr (keeps_isV _)) hg (fun ev W he hW hf => ?_) h
  have hf1 : factOf a0 F (.tmp t) (ev (.tmp t)) W := hf.1
  simp only [factOf, hs] at hf1
  obtain ⟨v1, vs, e1, h1, h2⟩ := hf1
  have : (execOp ev ⟨d, .extract (.tmp t) 1, ty, pos, af, g⟩).run P0 W = .ok (.value (.int .i64 (x.2 : Int))) W := by go_simp
  rw [this]
  exact ⟨hT.by_refl k W, rfl⟩
end
theorem lenS_le : ∀ (rs : List (List UInt8)) (N : Nat), (∀ r ∈ rs, r.length ≤ N) → lenS rs ≤ rs.length * (16 + N)
  | [], N, _ => by simp [lenS]
  | r :: rs, N, h => by
    have h1 := h r (by simp)
    have h2 := lenS_le rs N (fun x hx => h x (by simp [hx]))
    have e : lenS (r :: rs) = 16 + r.length + lenS rs := by simp [lenS]
    rw [e, List.length_cons, Nat.add_mul]
    omega
theorem cells_chs : (Value.slice none 0 0).cells.size = 1 := rfl
section
variable {w : World} {p bL bS bW : Nat} {s : St}
set_option maxHeartbeats 2000000 in
set_option maxRecDepth 100000 in
theorem rec_any (h : DskS w p bL bS bW s) (L P : Int) (ep : Nat) :
    Calls Tryz.prog 57 #[.pointer (some ⟨p, 0, none⟩), rootV L P (ep : Int)] w (RecPost w (recsS s L P ep)) := by
  obtain ⟨i, hi, hz, hs1, hb⟩ := info_parts info_chs
  have hr0 : rootV L P (ep : Int) = .agg #[.int .i64 L, .int .i64 P, .int .u32 (ep : Int)] := rfl
  have H := Lib.hid h
  clear h
  rw [hr0]
  go_enter Tryz.func57, Tryz.ntmps57
  go_wp2_with fail
  have hR := Whole.new w 58 [.int .i64 L, .int .i64 P, .int .u32 (ep : Int)]
  have hc1 : Chg [] w (w.alloc (.cells #[.int .i64 L, .int .i64 P, .int .u32 (ep : Int)] 58)) := (Chg.refl [] w).alloc _
  obtain ⟨g, hg⟩ : ∃ g, g = w.heap.size := ⟨_, rfl⟩
  rw [← hg] at hR ⊢
  generalize w.alloc (.cells #[.int .i64 L, .int .i64 P, .int .u32 (ep : Int)] 58) = w1 at hc1 hR ⊢
  clear hg
  have hld := fun (W : World) (hW : Chg [] w1.drew W) => root_cells (hR.drew.keep hW)
  have kd : ∀ W, Chg [] w1.drew W → DskS W p bL bS bW s := fun W hW => (Dsk.keep H.out hc1.drew).keep hW
  obtain ⟨lg, hlg⟩ : ∃ lg, lg = logL s L P ep := ⟨_, rfl⟩
  obtain ⟨X, hX⟩ : ∃ X, X = scanS lg ep := ⟨_, rfl⟩
  have hll : lg.length ≤ 4096 := by rw [hlg]; exact logL_small s L P ep
  have hXs := scanS_small lg ep
  rw [← hX] at hXs
  have HRS := Lib.hid (show recsS s L P ep = recF P X.1 by unfold recsS; rw [← hlg, ← hX])
  have hwz : w1.drew.heap.size = w1.heap.size := rfl
  refine wp_flow (by kernel_rfl) plainT plainT_ok (by kernel_rfl) ?_
  refine flow_move_out plainT_ok rfl rfl rfl ?_
  refine flow1h (r := rootV L P ep) plainT_ok rfl (.out rfl rfl) rfl (fun ev W he hW e1 => by obtain ⟨c0, c1, c2, _, _, _⟩ := hld W hW; go_simp) ?_
  refine flow_calld (ownF w1.drew.heap.size 5 (bts lg)) (keeps_own _ _ _) (.inr (keeps_own _ _ _)) (by kernel_rfl) rfl (.cons (.inn rfl) (.cons (.inn rfl) .nil)) (fun W hW => (rbytes_any (kd W hW) L P ep).mono ?_) ?_
  · rintro e w' ⟨v, rfl, ho, hc⟩
    rw [← hlg] at ho
    exact ⟨_, rfl, hc, by rw [ownF, bts_len]; exact own_more ho hW.size⟩
  refine flow1 (r := .pointer (some ⟨g, 2, none⟩)) plainT_ok rfl (.out rfl rfl) rfl (fun ev W he e1 => by go_simp) ?_
  refine flow1h (r := .int .u32 (ep : Int)) plainT_ok rfl (.inn rfl) rfl (fun ev W he hW e1 => by obtain ⟨c0, c1, c2, _, _, _⟩ := hld W hW; go_simp) ?_
  refine flow_call (scanF w1.drew.heap.size X) (keeps_scan _ _) (.inr (keeps_scan _ _)) (by kernel_rfl) rfl (fun ev W he hW hf => ?_) ?_
  · have h1 : (ownF w1.drew.heap.size 5 (bts lg)) (ev (.tmp 17)) W := hf.1
    have h2 : ev (.tmp 19) = .int .u32 (ep : Int) := hf.2.1
    rw [ownF, bts_len] at h1
    obtain ⟨A, c, e1, hB, _⟩ := Bs.of_own h1
    show Calls _ _ #[ev (.tmp 17), ev (.tmp 19)] W _
    rw [e1, h2]
    refine (scan_any hB ep (by omega)).mono ?_
    rintro e w' ⟨v, vs, rfl, ho, hr, hc⟩
    rw [← hX] at ho hr ⊢
    exact ⟨_, rfl, hc, v, vs, rfl, own_more ho hW.size, rows_more hr hW.size⟩
  refine flow_move plainT_ok rfl (keeps_scan _ _) (.inr (keeps_scan _ _)) rfl ?_
  refine flow_scan0 plainT_ok (keeps_frm _ _) (.inr (keeps_frm _ _)) rfl rfl ?_
  refine flow_scan1 plainT_ok rfl rfl ?_
  refine flow_assign plainT_ok rfl (keeps_frm _ _) (.inr (keeps_frm _ _)) rfl ?_
  refine flow_assign plainT_ok rfl (keeps_isV _) (.inr (keeps_isV _)) rfl ?_
  intro vs W hW hF
  obtain ⟨rs, ho, hrows⟩ := hF 6 _ rfl rfl
  have e7 : vs 7 = .int .i64 (X.2 : Int) := hF 7 _ rfl rfl
  generalize hFv : vs 6 = Fv at ho
  simp only [putAll, Act.put, List.setIfInBounds_toArray, List.set_cons_zero, List.set_cons_succ, e7, hFv]
  obtain ⟨Y, z⟩ := X
  simp only at ho hrows HRS hXs ⊢
  obtain ⟨n, hn⟩ : ∃ n, n = Y.length := ⟨_, rfl⟩
  rw [← hn] at ho hXs
  have HN := Lib.hid hn
  obtain ⟨A6, c6, rfl, hl6, _, hs6, hp6⟩ := own_slice ho
  have HCW := Lib.hid (hc1.new (wdrew hW))
  have HRW := Lib.hid (hR.drew.keep hW)
  have HS6 := Lib.hid hs6
  have HP6 := Lib.hid hp6
  have HROW := Lib.hid hrows
  have HYL := Lib.hid hXs.2
  have hn4 : n ≤ 4097 := by omega
  have HL6 := Lib.hid hl6
  have HLG := Lib.hid hll
  clear hW hF hld hR hc1 kd e7 hFv hs6 hp6 hrows ho hXs hlg hX hn hl6 hwz hll
  go_wp2_with fail
  go_loopw [8, 9, 25] (fun v a i wr => ∃ k : Nat, k ≤ n ∧ i = .int .i64 (k : Int) ∧ (∃ m : Nat, a = .int .i64 (m : Int) ∧ Hid (m = lenS (Y.take k))) ∧ (∃ vs, wr.ownsRow W.heap.size 52 1 v k vs ∧ Hid (Recs W.heap.size wr vs ((Y.take k).map recM))) ∧ Hid (∀ (j : Nat) b, j < k → Y[j]? = some b → okR P b) ∧ Hid (Chg [] W wr)) (fun _ _ i _ => n - (intOf i).toNat)
  case atStart => exact ⟨0, Nat.zero_le _, rfl, ⟨0, rfl, Lib.hid rfl⟩, ⟨[], own_nil _ _ _, Lib.hid (by rw [List.take_zero]; exact Recs.nil _ _)⟩, Lib.hid (fun j b hj => absurd hj (by omega)), Lib.hid (Chg.refl _ _)⟩
  case round =>
    obtain ⟨k, hk, rfl, ⟨m, rfl, HM⟩, ⟨vs, hown, HRC⟩, HOK, HCr⟩ := hrel
    obtain ⟨Av, cv, rfl, hvl, hvc, _⟩ := own_slice hown
    have HCa := Lib.hid (HCW.out.new HCr.out)
    by_cases hlt : k < n
    · have hkI : (k : Int) < (n : Int) := by omega
      have HS := Lib.hid ((HS6.out).keep HCr.out)
      obtain ⟨ad, rfl, _, hcell⟩ := HS.out (by rw [HL6.out]; omega)
      obtain ⟨b6, o6, s6⟩ := ad
      obtain rfl : s6 = none := (HP6.out _ rfl).1
      have hkl : k < rs.length := by rw [HL6.out]; exact hlt
      have hkY : k < Y.length := by rw [← HN.out]; exact hlt
      have hc := hcell k rs[k] (List.getElem?_eq_getElem hkl)
      have hfr := HROW.out.2 k _ _ (List.getElem?_eq_getElem hkl) (List.getElem?_eq_getElem hkY)
      have hyl := HYL.out _ (List.getElem_mem hkY)
      have hYk := Lib.hid (List.getElem?_eq_getElem hkY)
      generalize Y[k] = b at hfr hyl hYk
      generalize rs[k] = fv at hc hfr
      obtain ⟨Ab, cb, rfl, hB, _⟩ := Bs.of_own (own_keep hfr HCr.out)
      rw [add_plain] at hc
      obtain ⟨c0, c1, c2, _, _, _⟩ := root_cells (HRW.out.keep HCr.out)
      obtain ⟨q, hq⟩ : ∃ q, q = b.length := ⟨_, rfl⟩
      rw [← hq] at hB hyl hc
      have HB := Lib.hid hB
      have HQ := Lib.hid hq
      have HLN := Lib.hid (lenS_next Y k b hYk.out)
      have HMN := Lib.hid (recM_next Y k b hYk.out)
      have hq5 : q ≤ 4096 := by have := HLG.out; omega
      clear hfr hB hq hcell hyl
      go_wp2_with fail
      refine (dread_own HB.out P).mono ?_
      rintro e w2 (⟨h1, h2, h3, v2, ls, rfl, ho2, hm2, hl2, ha2, hc2⟩ | ⟨hno, rfl, hc2⟩)
      · have HOKb := Lib.hid (show okR P b from ⟨h1, h2, h3⟩)
        have how := own_keep hown hc2
        have HOV := Lib.hid (show w2.ownsRow W.heap.size 51 2 v2 (recM b).length (chCs ls) by rw [recM_len]; exact rown_more' ho2 HCr.out.size)
        have HM2 := Lib.hid (show ∀ a ∈ ls, RMade w2 W.heap.size a from fun a ha => (hm2 a ha).more HCr.out.size)
        have HL2 := Lib.hid (show ls.length = (recM b).length by rw [recM_len]; exact hl2)
        have HA2 := Lib.hid (show asC ls (recM b) from ha2)
        have HC2 := Lib.hid hc2
        have hc2c := cell_keep c0 hc2
        have hx1 := Lib.hid (show k + 1 ≤ maxLen by unfold maxLen; omega)
        have hx2 := Lib.hid (show (k + 1) * 24 ≤ 140737488355328 by omega)
        have hx3 := Lib.hid (show W.heap.size ≤ w2.heap.size from Nat.le_trans HCr.out.size hc2.size)
        have hm4 : m ≤ 17000000 := by
          have h := lenS_le (Y.take k) 4096 (fun r hr => Nat.le_trans (HYL.out r (List.mem_of_mem_take hr)) HLG.out)
          rw [List.length_take] at h
          have := HM.out
          have h5 : min k Y.length * (16 + 4096) ≤ 4097 * 4112 := Nat.mul_le_mul (by omega) (by omega)
          omega
        clear h1 h2 h3 ho2 hm2 hl2 ha2 hc2 c0 c1 c2 hown hc2c
        obtain ⟨A2, q2, rfl, _⟩ : ∃ A2 q2, v2 = .slice A2 (recM b).length q2 ∧ True := by
          rcases HOV.out.2 with ⟨e, h0⟩ | ⟨g, cap, cur, e, _⟩
          · exact ⟨_, _, by rw [e, h0], trivial⟩
          · exact ⟨_, _, e, trivial⟩
        obtain ⟨z2, hz2⟩ : ∃ z, z = (recM b).length := ⟨_, rfl⟩
        rw [← hz2] at HOV HL2 ⊢
        have HZ2 := Lib.hid hz2
        clear hz2
        go_wp2_with (at_builtin
                     refine wpList_append_src rfl (.tmp 38) (.tmp 40) 95 rfl W.heap.size 52 i _ 24 Tryz.underlying95 hi hz hs1 hb cells_chs (.slice Av k cv) k vs rfl (own_keep how ((Chg.refl _ _).alloc _)) (some ⟨w2.heap.size, 0, none⟩) 1 1 [.slice A2 z2 q2] rfl rfl (Src.of_all (Whole.new w2 52 [.slice A2 z2 q2])) (fun u hu => by simp at hu; rw [hu]; rfl) hx1.out hx2.out (by simp; have := hx3.out; omega) ?_
                     intro v4 w4 ho4 hg4 _)
        have hal : Chg [] w2 (w2.alloc (.cells #[.slice A2 z2 q2] 52)) := (Chg.refl [] w2).alloc _
        go_roundw
        case rel =>
          refine ⟨k + 1, by omega, by go_num, ⟨m + (16 + q), by go_num, Lib.hid (by rw [HLN.out, HM.out, HQ.out])⟩, ⟨_, ho4, Lib.hid ?_⟩, Lib.hid (fun j c hj hcx => ?_), Lib.hid (((HCr.out.new HC2.out).alloc _).own (own_keep how hal) ?_ hg4)⟩
          · rw [HMN.out]
            refine ((HRC.out.keep HC2.out).keep hal |>.snoc ?_ (fun a ha => (HM2.out a ha).chg hal (by simp)) ?_ HA2.out).grown (own_keep how hal) hg4
            · rw [← HZ2.out]; exact rown_chg HOV.out hal (by simp)
            · rw [← HZ2.out]; exact HL2.out
          · rcases Nat.lt_or_ge j k with h | h
            · exact HOK.out j c h hcx
            · obtain rfl : j = k := by omega
              rw [hYk.out] at hcx
              cases hcx
              exact HOKb.out
          · exact Nat.le_refl _
        case measure => simp [intOf]; omega
      · have HNO := Lib.hid hno
        have HC2 := Lib.hid hc2
        have how := own_keep hown hc2
        clear hno hc2 c0 c1 c2
        go_wp2_with fail
        go_ret2
        rw [HRS.out, recF_stop P Y k (Nat.le_of_lt hkY) HOK.out (fun c hc => by rw [hYk.out] at hc; cases hc; exact HNO.out), ← HM.out]
        exact ⟨_, vs, rfl, by simpa [(Nat.le_of_lt hkY)] using own_more how HCW.out.size, (HRC.out.keep HC2.out).more HCW.out.size, HCa.out.new HC2.out⟩
    · have hkI : ¬ (k : Int) < (n : Int) := by omega
      have hkn : k = Y.length := by rw [← HN.out]; omega
      have HKN := Lib.hid hkn
      clear hkn
      go_wp2_with fail
      go_ret2
      rw [HRS.out, recF_stop P Y k (by rw [HKN.out]; exact Nat.le_refl _) HOK.out (fun c hc => by rw [List.getElem?_eq_none (by rw [HKN.out]; exact Nat.le_refl _)] at hc; cases hc), ← HM.out]
      exact ⟨_, vs, rfl, by simpa [HKN.out] using own_more hown HCW.out.size, HRC.out.more HCW.out.size, HCa.out⟩
end
end Go.Proofs.YtddjgncdjdjgeaaGreat
namespace Go.Proofs.YtddjgncdjdjgeaaGreat
open Go.RowKit
section
variable {w : World} {A : Option Addr} {n c : Nat} {l : List UInt8}
set_option maxHeartbeats 1000000 in
set_option maxRecDepth 100000 in
theorem rframe_any (h : Bs w A n c l) (ep sq : Nat) (he : ep < 4294967296) (hs : sq < 4294967296) (hn : n + 16 ≤ 140737488355328) :
    Calls Tryz.prog 75 #[.int .u32 (ep : Int), .int .u32 (sq : Int), .slice A n c] w (BytesPost w (frameL ep sq l)) := by
  obtain ⟨i, hi, hz, hs1, hb⟩ := info_parts info_byte
  obtain ⟨q, hqe, hmi, hm32⟩ : ∃ q : Nat, q = n % 4294967296 ∧ (n : Int) % 4294967296 = (q : Int) ∧ q < 4294967296 := ⟨n % 4294967296, rfl, by omega, by omega⟩
  have HQ := Lib.hid hqe
  clear hqe
  go_enter Tryz.func75, Tryz.ntmps75
  go_wp2_with fail
  refine (rput_b (Bs.nil w) ep he (by omega)).mono ?_
  rintro e w1 ⟨v1, rfl, ho1, hc1⟩
  obtain ⟨A1, c1, rfl, hB1, _⟩ := Bs.of_own ho1
  go_wp2_with fail
  refine (rput_b hB1 sq hs (by simp [be4_len])).mono ?_
  rintro e w2 ⟨v2, rfl, ho2, hc2⟩
  obtain ⟨A2, c2, rfl, hB2, _⟩ := Bs.of_own ho2
  go_wp2_with fail
  refine (rput_b hB2 q hm32 (by simp [be4_len])).mono ?_
  rintro e w3 ⟨v3, rfl, ho3, hc3⟩
  have e3 : ([] ++ be4 ep ++ be4 sq ++ be4 q) ++ l = headL ep sq l := by rw [headL, h.len, HQ.out]; rfl
  generalize hP : [] ++ be4 ep ++ be4 sq ++ be4 q = P3 at ho3 e3
  have hPl : P3.length = 12 := by rw [← hP]; rfl
  clear hP
  rw [hPl] at ho3
  have hc03 : Chg [] w w3 := (hc1.new hc2).new hc3
  obtain ⟨A3, c3, rfl, hB3, _⟩ := Bs.of_own ho3
  have hl3 := h.keep hc03
  have ho3' := own_more ho3 (hc1.new hc2).size
  have hlb := Lib.hid (show (bts l).length = n by rw [bts_len, h.len])
  have hx1 := Lib.hid (show 12 + n ≤ maxLen by unfold maxLen; omega)
  have hx2 := Lib.hid (show (12 + n) * 1 ≤ 140737488355328 by omega)
  have HE3 := Lib.hid e3
  clear e3
  go_wp2_with (at_builtin
               refine wpList_append_src rfl (.tmp 15) (.tmp 16) 30 rfl w.heap.size 5 i _ 1 Tryz.underlying30 hi hz hs1 hb cells_u8 (.slice A3 12 c3) 12 (bts P3) rfl ho3' A n c (bts l) rfl hlb.out hl3.src (bts_one l) hx1.out hx2.out hc03.size ?_
               intro v4 w4 ho4 hg4 _
               have hc4 : Chg [] w w4 := hc03.own ho3' (Nat.le_refl _) hg4
               clear hg4
               rw [← bts_app, HE3.out] at ho4
               obtain ⟨A4, c4, rfl, hB4, _⟩ := Bs.of_own ho4)
  refine (rsumk_b hB4).mono ?_
  rintro e w' ⟨rfl, rfl⟩
  go_wp2_with fail
  refine (rput_b hB4 (sumK (headL ep sq l)) (sumK_lt _) (by omega)).mono ?_
  rintro e w5 ⟨v5, rfl, ho5, hc5⟩
  go_wp2_with fail
  go_ret
  exact ⟨v5, rfl, own_more ho5 hc4.size, hc4.new hc5⟩

set_option maxHeartbeats 2000000 in
set_option maxRecDepth 100000 in
theorem rread_any' (h : Bs w A n c l) (ep sq : Nat) (hn : n ≤ 140737488355328) :
    Calls Tryz.prog 125 #[.slice A n c, .int .u32 (ep : Int), .int .u32 (sq : Int)] w (ReadPost w l ep sq) := by
  have hl := h.len
  by_cases h16 : n < 16
  · have hno : ¬ readOk l ep sq := fun hr => by have := hr.1; omega
    have HNO := Lib.hid hno
    clear hno hl
    go_enter Tryz.func125, Tryz.ntmps125
    go_wp2_with fail
    go_ret3
    exact .inr ⟨HNO.out, rfl, Chg.refl _ _⟩
  have hd16 : decide ((n : Int) < 16) = false := by simp; omega
  have HL := Lib.hid hl
  clear hl
  by_cases h0 : getI l 0 = ep
  rotate_left
  · have HNO := Lib.hid (show ¬ readOk l ep sq from fun hr => h0 hr.2.1)
    have hb := bne_t (show ((getI l 0 : Nat) : Int) ≠ (ep : Int) by omega)
    clear h0
    go_enter Tryz.func125, Tryz.ntmps125
    go_wp2_with fail
    refine (rget_b h 0 (by omega)).mono ?_
    rintro e w1 ⟨rfl, hc1⟩
    go_wp2_with fail
    go_ret3
    exact .inr ⟨HNO.out, rfl, hc1⟩
  by_cases h4 : getI l 4 = sq
  rotate_left
  · have HNO := Lib.hid (show ¬ readOk l ep sq from fun hr => h4 hr.2.2.1)
    have hb := bne_t (show ((getI l 4 : Nat) : Int) ≠ (sq : Int) by omega)
    have hb0 := bne_f (show ((getI l 0 : Nat) : Int) = (ep : Int) by omega)
    clear h4 h0
    go_enter Tryz.func125, Tryz.ntmps125
    go_wp2_with fail
    refine (rget_b h 0 (by omega)).mono ?_
    rintro e w1 ⟨rfl, hc1⟩
    go_wp2_with fail
    refine (rget_b (h.keep hc1) 4 (by omega)).mono ?_
    rintro e w2 ⟨rfl, hc2⟩
    go_wp2_with fail
    go_ret3
    exact .inr ⟨HNO.out, rfl, hc1.new hc2⟩
  have hb0 := bne_f (show ((getI l 0 : Nat) : Int) = (ep : Int) by omega)
  have hb4 := bne_f (show ((getI l 4 : Nat) : Int) = (sq : Int) by omega)
  have H0 := Lib.hid h0
  have H4 := Lib.hid h4
  clear h0 h4
  have hq := getI_lt l 8
  by_cases h8 : getI l 8 ≤ n - 16
  rotate_left
  · have HNO := Lib.hid (show ¬ readOk l ep sq from fun hr => h8 (by have := hr.2.2.2.1; rw [HL.out] at this; exact this))
    have hgt : (n : Int) - 16 < ((getI l 8 : Nat) : Int) := by omega
    go_enter Tryz.func125, Tryz.ntmps125
    go_wp2_with fail
    refine (rget_b h 0 (by omega)).mono ?_
    rintro e w1 ⟨rfl, hc1⟩
    go_wp2_with fail
    refine (rget_b (h.keep hc1) 4 (by omega)).mono ?_
    rintro e w2 ⟨rfl, hc2⟩
    go_wp2_with fail
    refine (rget_b ((h.keep hc1).keep hc2) 8 (by omega)).mono ?_
    rintro e w3 ⟨rfl, hc3⟩
    go_wp2_with fail
    go_ret3
    exact .inr ⟨HNO.out, rfl, (hc1.new hc2).new hc3⟩
  have hle : ((getI l 8 : Nat) : Int) ≤ (n : Int) - 16 := by omega
  go_enter Tryz.func125, Tryz.ntmps125
  go_wp2_with fail
  refine (rget_b h 0 (by omega)).mono ?_
  rintro e w1 ⟨rfl, hc1⟩
  go_wp2_with fail
  refine (rget_b (h.keep hc1) 4 (by omega)).mono ?_
  rintro e w2 ⟨rfl, hc2⟩
  go_wp2_with fail
  refine (rget_b ((h.keep hc1).keep hc2) 8 (by omega)).mono ?_
  rintro e w3 ⟨rfl, hc3⟩
  go_wp2_with fail
  refine (rget_b (((h.keep hc1).keep hc2).keep hc3) 8 (by omega)).mono ?_
  rintro e w4 ⟨rfl, hc4⟩
  go_wp2_with fail
  have h5 := (((h.keep hc1).keep hc2).keep hc3).keep hc4
  have hc14 : Chg [] w w4 := ((hc1.new hc2).new hc3).new hc4
  clear hc1 hc2 hc3 hc4
  obtain ⟨i0, hi, hz, hs1, hb⟩ := info_parts info_byte
  obtain ⟨q, hqe⟩ : ∃ q, q = getI l 8 := ⟨_, rfl⟩
  rw [← hqe] at hq h8 hle ⊢
  have ECAST := Lib.hid (show (12 : Int) + (q : Int) = ((12 + q : Nat) : Int) by omega)
  have e1 : ((12 : Int) + (q : Int)).toNat = 12 + q := by omega
  have e2 : (0 : Int) ≤ 12 + (q : Int) := by omega
  have hcap := h.cap
  have e3 : ¬ (c : Int) < 12 + (q : Int) := by omega
  have e4 : ¬ c < 12 + q := by omega
  have hA0 : Option.map (fun x : Addr => x.add 0) A = A := by cases A <;> simp [Addr.add]
  have HE := Lib.hid hqe
  have hT := h5.take (m := 12 + q) (by omega)
  have hwr : IntKind.i64.wrap (12 + (q : Int)) = 12 + (q : Int) := by rw [IntKind.wrap_i64]; omega
  clear hqe
  have kp : ∀ W, Chg [] w4.drew W → Chg [] w4 W := fun W hW => (Chg.refl [] w4).drew.new hW
  obtain ⟨b, hbt⟩ : ∃ b : Bool, b = (((getI l (12 + (q : Int)) : Nat) : Int) != ((sumK (l.take (12 + q)) : Nat) : Int)) := ⟨_, rfl⟩
  refine wp_flow (by kernel_rfl) plainT plainT_ok (by kernel_rfl) ?_
  refine flow_move_out plainT_ok rfl rfl rfl ?_
  refine flow_move_out plainT_ok rfl rfl rfl ?_
  refine flow2 (r := .int .i64 (12 + (q : Int))) plainT_ok rfl (.const _) (.inn rfl) rfl (fun ev W he e1 e2 => by go_simp) ?_
  refine flow_callv (.int .u32 ((getI l (12 + (q : Int)) : Nat) : Int)) (by kernel_rfl) rfl (.cons (.inn rfl) (.cons (.inn rfl) .nil)) (fun W hW => (rget_b (h5.keep (kp W hW)) (12 + (q : Int)) (by omega)).mono ?_) ?_
  · rintro e w' ⟨rfl, hc⟩; exact ⟨rfl, hc⟩
  refine flow_move_out plainT_ok rfl rfl rfl ?_
  refine flow_move_out plainT_ok rfl rfl rfl ?_
  refine flow2 (r := .int .i64 (12 + (q : Int))) plainT_ok rfl (.const _) (.inn rfl) rfl (fun ev W he e1 e2 => by go_simp) ?_
  refine flow_slice_hi (r := .slice A (12 + q) c) plainT_ok (.inn rfl) (.inn rfl) (fun ev W he e1 e2 => by go_simp) rfl ?_
  refine flow_callv (.int .u32 ((sumK (l.take (12 + q)) : Nat) : Int)) (by kernel_rfl) rfl (.cons (.inn rfl) .nil) (fun W hW => (rsumk_b (hT.keep (kp W hW))).mono ?_) ?_
  · rintro e w' ⟨rfl, rfl⟩; exact ⟨rfl, Chg.refl _ _⟩
  refine flow2 (r := .bool b) plainT_ok rfl (.inn rfl) (.inn rfl) rfl (fun ev W he e1 e2 => by rw [hbt]; go_simp) ?_
  intro vs W hW hF
  have e46 : vs 47 = .bool b := hF 47 _ rfl rfl
  have hcW := kp W hW
  simp only [putAll, Act.put, List.setIfInBounds_toArray, List.set_cons_zero, List.set_cons_succ, e46]
  cases b with
  | true =>
    have hne : getI l (12 + (q : Int)) ≠ sumK (l.take (12 + q)) := fun hc => by rw [hc] at hbt; simp at hbt
    have HNO := Lib.hid (show ¬ readOk l ep sq from fun hr => hne (by have := hr.2.2.2.2; rw [← HE.out, ← ECAST.out] at this; exact this))
    clear hbt hne
    go_wp2_with fail
    go_ret3
    exact .inr ⟨HNO.out, rfl, hc14.new hcW⟩
  | false =>
    have heq : getI l (12 + (q : Int)) = sumK (l.take (12 + q)) := by
      have h2 := hbt.symm
      simp only [bne_eq_false_iff_eq] at h2
      omega
    have HOK := Lib.hid (show readOk l ep sq from ⟨by rw [HL.out]; omega, H0.out, H4.out, by rw [← HE.out, HL.out]; exact h8, by rw [← HE.out, ← ECAST.out]; exact heq⟩)
    clear hbt heq
    have hC := (h5.keep hcW).cut (lo := 12) (hi := 12 + q) (by omega) (by omega)
    have hc12 : ¬ c = 12 := by omega
    rw [if_neg hc12, show 12 + q - 12 = q by omega] at hC
    have e5 : ¬ 12 + q < 12 := by omega
    have e6 : 12 + q - 12 = q := by omega
    obtain ⟨⟨b0, o0, s0⟩, rfl, _, _⟩ := h.src (by rw [bts_len, HL.out]; omega)
    obtain rfl : s0 = none := h.spot (by omega) _ rfl
    simp only [Option.map_some, add_plain] at hC
    obtain ⟨X, hX⟩ : ∃ X, X = (l.drop 12).take q := ⟨_, rfl⟩
    rw [← hX] at hC
    have HX := Lib.hid hX
    have hXq := Lib.hid hC.len
    clear hX
    have hlb := Lib.hid (show (bts X).length = q by rw [bts_len, hXq.out])
    have hx1 := Lib.hid (show 0 + q ≤ maxLen by unfold maxLen; omega)
    have hx2 := Lib.hid (show (0 + q) * 1 ≤ 140737488355328 by omega)
    have hsX := hC.src
    clear hC
    have ho0 : (W.alloc (.cells #[] 5)).ownsRow W.heap.size 5 1 (.slice (some ⟨W.heap.size, 0, none⟩) 0 0) 0 [] :=
      own_of_whole (B := W.heap.size) (n := 0) (c := 0) (Whole.new W 5 []) (Nat.le_refl _) rfl (by omega) (by unfold maxLen; omega)
    go_wp2_with (at_builtin
                 refine wpList_append_src rfl (.tmp 48) (.tmp 52) 30 rfl W.heap.size 5 i0 _ 1 Tryz.underlying30 hi hz hs1 hb cells_u8 (.slice (some ⟨W.heap.size, 0, none⟩) 0 0) 0 [] rfl ho0 (some ⟨b0, o0 + 12, none⟩) q (c - 12) (bts X) rfl hlb.out (hsX.keep ((Chg.refl _ _).alloc _)) (bts_one X) hx1.out hx2.out (by simp) ?_
                 intro v6 w6 ho6 hg6 _
                 have hc6 : Chg [] W w6 := ((Chg.refl [] W).alloc _).own ho0 (Nat.le_refl _) hg6
                 clear hg6
                 simp only [Nat.zero_add, List.nil_append] at ho6
                 obtain ⟨A6, c6, rfl, _⟩ := own_slice ho6)
    go_ret3
    refine .inl ⟨HOK.out, .slice A6 q c6, ?_, ?_, ?_⟩
    · rw [← HE.out]
      have e7 : (16 : Int) + (q : Int) = ((16 + q : Nat) : Int) := by omega
      rw [← e7]; rfl
    · have hr : recL l = X := by rw [recL, ← HE.out, HX.out]
      rw [hr, hXq.out]
      exact own_more ho6 ((hc14.new hcW).size)
    · exact (hc14.new hcW).new hc6
end
end Go.Proofs.YtddjgncdjdjgeaaGreat
