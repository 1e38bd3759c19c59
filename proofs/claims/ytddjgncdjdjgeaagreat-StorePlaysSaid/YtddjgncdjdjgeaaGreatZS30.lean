/-
  S: RootBestR.
-/
import Derived.Test.YtddjgncdjdjgeaaGreatZS6
import Derived.Test.YtddjgncdjdjgeaaGreatZS23
namespace Go.Proofs.YtddjgncdjdjgeaaGreat
open Go.RowKit
theorem run_append_fresh2 {P : Program} (w : World) (t ty e : TypeId) (i : TypeInfo) (z : Value) (bytes : Nat) (ht : P.underlying t = some (.slice e)) (hi : P.info? e = some i) (hz : i.zero = some z) (hs : i.size = 1) (hby : i.bytes = bytes) (hz1 : z.cells.size = 1)
    (b : Addr) (sp : Option Addr) (m c : Nat) (news : List Value) (hl : news.length = m) (hm : 0 < m) (hsrc : Src w sp news) (hb : m * bytes ≤ 140737488355328) (h63 : m ≤ maxLen) :
    ∃ r : List Value, m + r.length ≤ maxLen ∧ (Builtin.append_ #[t, t] ty #[.slice (some b) 0 0, .slice sp m c]).run P w = .ok (.slice (some ⟨w.heap.size, 0, none⟩) m (m + r.length)) (w.drew.alloc (.cells (news ++ r).toArray e)) := by
  subst hby
  obtain ⟨ad, rfl, _, hx⟩ := hsrc (by omega)
  have h63' : m ≤ 9223372036854775807 := by simpa [maxLen] using h63
  have h := run_append_grow (P := P) w t ty e i z ht hi hz b 0 0 [] (by simp) (by simp) ad m c news (by rw [hs, hl]; omega) hx (by omega) (by omega) (growslice_fits (by omega) (by simpa using hb))
  have hge := grownCap_ge w m 0 e
  have hle := grownCap_le_maxLen w m 0 e h63
  simp only [Nat.zero_add] at h
  refine ⟨(Builtin.zeroCells z.cells (grownCap w m 0 e - m)).toList, ?_⟩
  have hlen : m + (Builtin.zeroCells z.cells (grownCap w m 0 e - m)).toList.length = grownCap w m 0 e := by
    rw [Array.length_toList, size_zeroCells, hz1]; omega
  refine ⟨by rw [hlen]; exact hle, ?_⟩
  rw [h, hlen]
  congr 3
  apply Array.ext'
  simp

theorem wpList_append_fresh2 {P : Program} {w : World} {ops : Array Oper} {rest : List Oper} {o : Oper} {a : Act} {Q : Exit → Act → World → Prop} (hgd : o.guard = none) (s x : Operand) (t : TypeId)
    (ho : o.op = .call { callee := .builtin .append, args := #[s, x], argTypes := #[t, t] })
    (e : TypeId) (i : TypeInfo) (z : Value) (bytes : Nat) (ht : P.underlying t = some (.slice e)) (hi : P.info? e = some i) (hz : i.zero = some z) (hs : i.size = 1) (hby : i.bytes = bytes) (hz1 : z.cells.size = 1)
    (b : Addr) (hse : a.eval s = .slice (some b) 0 0) (sp : Option Addr) (m c : Nat) (hxe : a.eval x = .slice sp m c) (news : List Value) (hl : news.length = m) (hm : 0 < m) (hsrc : Src w sp news) (hb : m * bytes ≤ 140737488355328) (h63 : m ≤ maxLen)
    (h : ∀ r : List Value, m + r.length ≤ maxLen → wpList P ops Q rest (a.put o.dst (.slice (some ⟨w.heap.size, 0, none⟩) m (m + r.length))) (w.drew.alloc (.cells (news ++ r).toArray e))) : wpList P ops Q (o :: rest) a w := by
  refine wpList_plain hgd fun K hK => ?_
  obtain ⟨r, hrm, hrun⟩ := run_append_fresh2 (P := P) w t o.type e i z bytes ht hi hz hs hby hz1 b sp m c news hl hm hsrc hb h63
  unfold Oper.wp execOp
  simp only [ho, resolve, invoke, builtin, Sem.run_bind, Sem.run_pure, Result.andThen_ok, List.map_toArray, List.map_cons, List.map_nil, hse, hxe, hrun]
  exact hK _ _ (h r hrm)

section
variable {w : World} {p gL gN gW : Nat} {rL rN : List Value} {lf m : Int} {s : St}
set_option maxHeartbeats 1000000 in
set_option maxRecDepth 100000 in
theorem rread_yes2 (h : Rfx w p gL gN gW rL rN lf m s) (k : Nat) (hk : k < s.V.length) :
    Calls Tryz.prog 100 #[.pointer (some ⟨p, 0, none⟩), .int .i64 (k : Int)] w fun e w' => ∃ g c, e = .returned (.tuple #[.slice (some ⟨g, 0, none⟩) 64 c, .bool true]) ∧
      (∃ r, c = 64 + r.length ∧ c ≤ maxLen ∧ Whole w' g 5 (bts ((s.S.drop (k * 64)).take 64) ++ r)) ∧ Chg [] w w' := by
  obtain ⟨i0, hi, hz0, hz1, hz2⟩ := info_parts info_u8
  have hd : decide ((k : Int) < 0) = false := by simp
  have hd1 : decide ((s.V.length : Int) ≤ (k : Int)) = false := by simp; omega
  have c1 := fun o => (h.keep ((Chg.refl [] w).alloc o)).rec_.cell 1
  have hS := h.lenS
  have hv := h.le
  have s1 : 64 * (k + 1) ≤ s.S.length := by omega
  have s2 : s.S.length ≤ 1000000 := by omega
  have hne : ¬ (s.S.length + rN.length = k * 64) := by omega
  have hu : (k + 1) * 64 ≤ s.S.length + rN.length := by omega
  clear hS
  have Hl := Lib.hid (show (bts ((s.S.drop (k * 64)).take 64)).length = 64 by rw [bts_len, List.length_take, List.length_drop]; omega)
  have hsr : Src w (some ⟨gN, k * 64, none⟩) (bts ((s.S.drop (k * 64)).take 64)) := by
    have := Src.of_whole h.now (k * 64) 64
    rwa [List.drop_append_of_le_length (by rw [bts_len]; omega), List.take_append_of_le_length (by rw [List.length_drop, bts_len]; omega), bts_cut] at this
  obtain ⟨Y, hY⟩ : ∃ Y, Y = bts ((s.S.drop (k * 64)).take 64) := ⟨_, rfl⟩
  rw [← hY] at Hl hsr
  rw [← hY]
  clear hY
  go_enter Tryz.func100, Tryz.ntmps100
  have Hm := Lib.hid (show Y.length = (k + 1) * 64 - k * 64 by rw [Hl.out]; omega)
  have Hpos : 0 < (k + 1) * 64 - k * 64 := by omega
  have Hb : ((k + 1) * 64 - k * 64) * 1 ≤ 140737488355328 := by omega
  have Hb2 : (k + 1) * 64 - k * 64 ≤ maxLen := by unfold maxLen; omega
  have H64 := Lib.hid (show (k + 1) * 64 - k * 64 = 64 by omega)
  go_wp2_with (first
    | (go_at_call 53; refine (rlen_any h).mono ?_; rintro e w' ⟨rfl, rfl⟩)
    | (at_builtin
       refine wpList_append_fresh2 rfl (.tmp 14) (.tmp 24) _ rfl 5 i0 (.int .u8 0) 1 Tryz.underlying30 hi hz0 hz1 hz2 rfl ⟨w.heap.size, 0, none⟩ rfl (some ⟨gN, k * 64, none⟩) ((k + 1) * 64 - k * 64) (s.S.length + rN.length - k * 64) rfl Y Hm.out Hpos (hsr.keep ((Chg.refl _ _).alloc _)) Hb Hb2 ?_
       intro r hrm))
  go_ret2
  rw [H64.out] at hrm ⊢
  refine ⟨_, _, rfl, ⟨r, rfl, hrm, ?_⟩, (((Chg.refl [] w).alloc _).drew).alloc _⟩
  exact whole_at (Whole.new _ _ _) (by simp)
/-- Read of a sector, or of none. -/
theorem rreadS_any (h : Rfx w p gL gN gW rL rN lf m s) (k : Nat) :
    Calls Tryz.prog 100 #[.pointer (some ⟨p, 0, none⟩), .int .i64 (k : Int)] w fun e w' => ∃ A n c b, e = .returned (.tuple #[.slice A n c, .bool b]) ∧ Bs w' A n c (sectL s.S s.V.length k) ∧ Chg [] w w' := by
  by_cases hk : k < s.V.length
  · refine (rread_yes2 h k hk).mono ?_
    rintro e w' ⟨g, c, rfl, ⟨r, rfl, hm, hW⟩, hc⟩
    have hs : sectL s.S s.V.length k = (s.S.drop (k * 64)).take 64 := by unfold sectL; rw [if_pos hk]
    have hl : ((s.S.drop (k * 64)).take 64).length = 64 := by have := h.lenS; rw [List.length_take, List.length_drop]; omega
    refine ⟨_, _, _, _, rfl, ?_, hc⟩
    rw [hs]
    unfold maxLen at hm
    exact Bs.of_whole hW hl (by rw [List.take_left' (by rw [bts_len, hl])]) (by omega) (by omega)
  · refine (rread_no h k (by omega)).mono ?_
    rintro e w' ⟨rfl, rfl⟩
    have hs : sectL s.S s.V.length k = [] := by unfold sectL; rw [if_neg hk]
    exact ⟨_, _, _, _, rfl, by rw [hs]; exact Bs.nil _, Chg.refl _ _⟩
end
theorem bestStep_pos {n : Int} {o : RV} {l : List UInt8} (h : isRoot l ∧ rightR (getI l 4) (getI l 8) (getI l 12) n = true) (h0 : o.epoch = 0) : bestStep n o l = ⟨getI l 4, getI l 8, getI l 12⟩ := by
  have he : o.epoch < getI l 12 := by
    have := (rightR_true.1 h.2).2.2.2.2.2
    omega
  unfold bestStep
  rw [if_pos ⟨h.1, h.2, he⟩]
theorem rright_e {L P E s : Int} (h : rightR L P E s = true) : 1 ≤ E := (rightR_true.1 h).2.2.2.2.2
section
variable {w : World} {p gL gN gW : Nat} {rL rN : List Value} {lf m : Int} {st : St}
set_option maxHeartbeats 8000000 in
set_option maxRecDepth 100000 in
theorem rbest_any (h : Rfx w p gL gN gW rL rN lf m st) : Calls Tryz.prog 59 #[.pointer (some ⟨p, 0, none⟩)] w (BestPost (bestK st.V.length st.S 2) w) := by
  have H := Lib.hid h
  have hVl := h.le
  clear h
  go_enter Tryz.func59, Tryz.ntmps59
  go_wp2_with fail
  have hc1 : Chg [] w (w.alloc (.cells #[.int .i64 0, .int .i64 0, .int .u32 0] 58)) := (Chg.refl [] w).alloc _
  have hR := Whole.new w 58 [.int .i64 0, .int .i64 0, .int .u32 0]
  have hz : (w.alloc (.cells #[.int .i64 0, .int .i64 0, .int .u32 0] 58)).heap.size = w.heap.size + 1 := by simp
  generalize w.alloc (.cells #[.int .i64 0, .int .i64 0, .int .u32 0] 58) = w1 at hc1 hR hz ⊢
  have hB := Whole.new w1 58 [.int .i64 0, .int .i64 0, .int .u32 0]
  have hR2 := hR.keep ((Chg.refl [] w1).alloc (.cells #[.int .i64 0, .int .i64 0, .int .u32 0] 58))
  have hc2 := hc1.alloc (.cells #[.int .i64 0, .int .i64 0, .int .u32 0] 58)
  rw [hz] at hB
  generalize w1.alloc (.cells #[.int .i64 0, .int .i64 0, .int .u32 0] 58) = w2 at hB hR2 hc2 ⊢
  obtain ⟨g, hg⟩ : ∃ g, g = w.heap.size := ⟨_, rfl⟩
  rw [← hg] at hR2 hB ⊢
  have hwg : w.heap.size ≤ g := by omega
  clear hg hc1 hR hz
  go_loopw [5, 6] (fun b i wr => ∃ k : Nat, k ≤ 2 ∧ i = .int .i64 (k : Int) ∧ (∃ bb : Bool, b = .bool bb ∧ Hid (bb = decide (0 < (bestK st.V.length st.S k).epoch))) ∧ Whole wr g 58 [.int .i64 0, .int .i64 0, .int .u32 0] ∧ Whole wr (g + 1) 58 (cellsV (bestK st.V.length st.S k)) ∧ Chg [] w wr) (fun _ i _ => 2 - (intOf i).toNat)
  case atStart => exact ⟨0, by omega, rfl, ⟨false, rfl, Lib.hid rfl⟩, hR2, hB, hc2⟩
  case round =>
    obtain ⟨k, hk, rfl, ⟨bb, rfl, HBB⟩, hR, hBest, hcr⟩ := hrel
    have hlt3 := bestK_lt st.V.length st.S k
    have HSt := Lib.hid (show bestK st.V.length st.S (k + 1) = bestStep st.V.length (bestK st.V.length st.S k) (sectL st.S st.V.length k) from rfl)
    clear hB hR2 hc2
    by_cases hlt : k < 2
    · generalize bestK st.V.length st.S k = o at hBest hlt3 HSt HBB
      have hkI : (k : Int) < 2 := by omega
      have HR := Lib.hid hR
      have HBe := Lib.hid hBest
      have HC := Lib.hid hcr
      clear hR hBest hcr
      go_wp2_with fail
      refine (rreadS_any (H.out.keep HC.out) k).mono ?_
      rintro e w3 ⟨A3, n3, c3, b3, rfl, hB3, hc3⟩
      have HR3 := Lib.hid (HR.out.keep hc3)
      have HBe3 := Lib.hid (HBe.out.keep hc3)
      have HC3 := Lib.hid (HC.out.new hc3)
      have HB3 := Lib.hid hB3
      generalize sectL st.S st.V.length k = s at HB3 HSt
      clear hB3 hc3
      go_wp2_with fail
      refine (unroot_any HB3.out).mono ?_
      intro e w4 hp
      have hc4 : Chg [] w3 w4 := by rcases hp with ⟨_, _, h⟩ | ⟨_, _, h⟩ <;> exact h
      have HR4 := Lib.hid (HR3.out.keep hc4)
      have HBe4 := Lib.hid (HBe3.out.keep hc4)
      have HC4 := Lib.hid (HC3.out.new hc4)
      clear hc4
      rcases hp with ⟨hyes, rfl, _⟩ | ⟨hno, rfl, _⟩
      · have h4 := getI_lt s 4
        have h8 := getI_lt s 8
        have h12 := getI_lt s 12
        have HY := Lib.hid hyes
        clear hyes
        unfold rootV
        go_wp2_with fail
        have hN := Whole.new w4 58 [.int .i64 ((getI s 4 : Nat) : Int), .int .i64 ((getI s 8 : Nat) : Int), .int .u32 ((getI s 12 : Nat) : Int)]
        have hal : Chg [] w4 (w4.alloc (.cells #[.int .i64 ((getI s 4 : Nat) : Int), .int .i64 ((getI s 8 : Nat) : Int), .int .u32 ((getI s 12 : Nat) : Int)] 58)) := (Chg.refl [] w4).alloc _
        have HR5 := Lib.hid (HR4.out.keep hal)
        have HBe5 := Lib.hid (HBe4.out.keep hal)
        have HC5 := Lib.hid (HC4.out.new hal)
        generalize w4.alloc (.cells #[.int .i64 ((getI s 4 : Nat) : Int), .int .i64 ((getI s 8 : Nat) : Int), .int .u32 ((getI s 12 : Nat) : Int)] 58) = w5 at hN HR5 HBe5 HC5 ⊢
        generalize w4.heap.size = g6 at hN ⊢
        have hld := fun (W : World) (hW : Chg [] w5.drew W) => root_cells (hN.drew.keep hW)
        have hlo := fun (W : World) (hW : Chg [] w5.drew W) => root_cells (HBe5.out.drew.keep hW)
        have HN5 := Lib.hid hN
        clear hN hal
        cases hrr : rightR (getI s 4 : Nat) (getI s 8 : Nat) (getI s 12 : Nat) st.V.length with
        | false =>
          have HN := Lib.hid (show bestStep st.V.length o s = o by unfold bestStep; rw [if_neg (fun h => by have := h.2.1; rw [hrr] at this; cases this)])
          refine wp_flow (by kernel_rfl) plainT plainT_ok (by kernel_rfl) ?_
          refine flow_move_out plainT_ok rfl rfl rfl ?_
          refine flow_move plainT_ok rfl (keeps_isV _) (.inr (keeps_isV _)) rfl ?_
          refine flow1h (r := rootV (getI s 4 : Nat) (getI s 8 : Nat) (getI s 12 : Nat)) plainT_ok rfl (.out rfl rfl) rfl (fun ev W he hW e1 => by obtain ⟨c0, c1, c2, _, _, _⟩ := hld W hW; go_simp; rfl) ?_
          refine flow_move_out plainT_ok rfl rfl rfl ?_
          refine flow_callv (.int .i64 (st.V.length : Int)) (by kernel_rfl) rfl (.cons (.inn rfl) .nil) (fun W hW => (rlen_any (H.out.keep (HC5.out.drew.new hW))).mono ?_) ?_
          · rintro e w' ⟨rfl, rfl⟩; exact ⟨rfl, Chg.refl _ _⟩
          refine flow_callv (.bool (rightR (getI s 4 : Nat) (getI s 8 : Nat) (getI s 12 : Nat) st.V.length)) (by kernel_rfl) rfl (.cons (.inn rfl) (.cons (.inn rfl) .nil)) (fun W hW => (rrright_any _ _ _ _).mono ?_) ?_
          · rintro e w' ⟨rfl, hc⟩; exact ⟨rfl, hc⟩
          rw [hrr]
          refine flow_and plainT_ok rfl rfl rfl ?_
          refine flow_move plainT_ok rfl (keeps_isV _) (.inr (keeps_isV _)) rfl ?_
          refine flow_skip rfl ?_
          refine flow_skip rfl ?_
          refine flow_skip rfl ?_
          refine flow_skip_un rfl ?_
          refine flow_skip_un rfl ?_
          refine flow_skip_un rfl ?_
          refine flow_skip_un rfl ?_
          refine flow_skip_un rfl ?_
          refine flow_skip rfl ?_
          refine flow_and_false plainT_ok rfl rfl rfl ?_
          intro vs W hW hF
          have e43 : vs 43 = .bool false := hF 43 _ rfl rfl
          simp only [putAll, Act.put, List.setIfInBounds_toArray, List.set_cons_zero, List.set_cons_succ, e43]
          have HRW := Lib.hid (HR5.out.drew.keep hW)
          have HBW := Lib.hid (HBe5.out.drew.keep hW)
          have HCW := Lib.hid (HC5.out.drew.new hW)
          clear hW hF hld hlo
          go_wp2_with fail
          go_roundw
          case rel => exact ⟨k + 1, by omega, by go_num, ⟨_, rfl, Lib.hid (by rw [HSt.out, HN.out]; exact HBB.out)⟩, HRW.out, by rw [HSt.out, HN.out]; exact HBW.out, HCW.out⟩
          case measure => simp [intOf]; omega
        | true =>
          cases bb with
          | false =>
            have HN := Lib.hid (show bestStep st.V.length o s = ⟨getI s 4, getI s 8, getI s 12⟩ from bestStep_pos ⟨HY.out, hrr⟩ (by have h1 := HBB.out; have h2 := of_decide_eq_false h1.symm; omega))
            refine wp_flow (by kernel_rfl) plainT plainT_ok (by kernel_rfl) ?_
            refine flow_move_out plainT_ok rfl rfl rfl ?_
            refine flow_move plainT_ok rfl (keeps_isV _) (.inr (keeps_isV _)) rfl ?_
            refine flow1h (r := rootV (getI s 4 : Nat) (getI s 8 : Nat) (getI s 12 : Nat)) plainT_ok rfl (.out rfl rfl) rfl (fun ev W he hW e1 => by obtain ⟨c0, c1, c2, _, _, _⟩ := hld W hW; go_simp; rfl) ?_
            refine flow_move_out plainT_ok rfl rfl rfl ?_
            refine flow_callv (.int .i64 (st.V.length : Int)) (by kernel_rfl) rfl (.cons (.inn rfl) .nil) (fun W hW => (rlen_any (H.out.keep (HC5.out.drew.new hW))).mono ?_) ?_
            · rintro e w' ⟨rfl, rfl⟩; exact ⟨rfl, Chg.refl _ _⟩
            refine flow_callv (.bool (rightR (getI s 4 : Nat) (getI s 8 : Nat) (getI s 12 : Nat) st.V.length)) (by kernel_rfl) rfl (.cons (.inn rfl) (.cons (.inn rfl) .nil)) (fun W hW => (rrright_any _ _ _ _).mono ?_) ?_
            · rintro e w' ⟨rfl, hc⟩; exact ⟨rfl, hc⟩
            rw [hrr]
            refine flow_and plainT_ok rfl rfl rfl ?_
            refine flow_move plainT_ok rfl (keeps_isV _) (.inr (keeps_isV _)) rfl ?_
            refine flow_move_out plainT_ok rfl rfl rfl ?_
            refine flow1 (r := .bool true) plainT_ok rfl (.inn rfl) rfl (fun ev W he e1 => by simp [execOp, e1, go_sem]) ?_
            refine flow_move plainT_ok rfl (keeps_isV _) (.inr (keeps_isV _)) rfl ?_
            refine flow_skip rfl ?_
            refine flow_skip rfl ?_
            refine flow_skip rfl ?_
            refine flow_skip rfl ?_
            refine flow_skip rfl ?_
            refine flow_or_true plainT_ok rfl rfl rfl ?_
            refine flow_and plainT_ok rfl rfl rfl ?_
            intro vs W hW hF
            have e43 : vs 43 = .bool true := hF 43 _ rfl rfl
            simp only [putAll, Act.put, List.setIfInBounds_toArray, List.set_cons_zero, List.set_cons_succ, e43]
            have HRW := Lib.hid (HR5.out.drew.keep hW)
            have HBW := Lib.hid (HBe5.out.drew.keep hW)
            have HCW := Lib.hid (HC5.out.drew.new hW)
            obtain ⟨c0, c1, c2, _, _, _⟩ := hld W hW
            obtain ⟨d0, d1, d2, f0, f1, f2⟩ := hlo W hW
            clear hW hF hld hlo
            go_wp2_with fail
            obtain ⟨hS, hCS⟩ := root_set HCW.out (by omega) HBW.out (.int .i64 ((getI s 4 : Nat) : Int)) (.int .i64 ((getI s 8 : Nat) : Int)) (.int .u32 ((getI s 12 : Nat) : Int))
            have hRS := ((HRW.out.far (p := ⟨g + 1, 0, none⟩) (by simp) (.int .i64 ((getI s 4 : Nat) : Int))).far (p := ⟨g + 1, 1, none⟩) (by simp) (.int .i64 ((getI s 8 : Nat) : Int))).far (p := ⟨g + 1, 2, none⟩) (by simp) (.int .u32 ((getI s 12 : Nat) : Int))
            have HS9 := Lib.hid (And.intro hS (And.intro hCS hRS))
            clear hS hCS hRS
            go_roundw
            case rel => exact ⟨k + 1, by omega, by go_num, ⟨_, rfl, Lib.hid (by rw [HSt.out, HN.out]; have := rright_e hrr; exact (decide_eq_true (by show 0 < getI s 12; omega)).symm)⟩, HS9.out.2.2, by rw [HSt.out, HN.out]; exact HS9.out.1, HS9.out.2.1⟩
            case measure => simp [intOf]; omega
          | true =>
            by_cases hep : o.epoch < getI s 12
            · have HN := Lib.hid (show bestStep st.V.length o s = ⟨getI s 4, getI s 8, getI s 12⟩ by unfold bestStep; rw [if_pos ⟨HY.out, hrr, hep⟩])
              have hd : decide ((o.epoch : Int) < ((getI s 12 : Nat) : Int)) = true := by simp; omega
              refine wp_flow (by kernel_rfl) plainT plainT_ok (by kernel_rfl) ?_
              refine flow_move_out plainT_ok rfl rfl rfl ?_
              refine flow_move plainT_ok rfl (keeps_isV _) (.inr (keeps_isV _)) rfl ?_
              refine flow1h (r := rootV (getI s 4 : Nat) (getI s 8 : Nat) (getI s 12 : Nat)) plainT_ok rfl (.out rfl rfl) rfl (fun ev W he hW e1 => by obtain ⟨c0, c1, c2, _, _, _⟩ := hld W hW; go_simp; rfl) ?_
              refine flow_move_out plainT_ok rfl rfl rfl ?_
              refine flow_callv (.int .i64 (st.V.length : Int)) (by kernel_rfl) rfl (.cons (.inn rfl) .nil) (fun W hW => (rlen_any (H.out.keep (HC5.out.drew.new hW))).mono ?_) ?_
              · rintro e w' ⟨rfl, rfl⟩; exact ⟨rfl, Chg.refl _ _⟩
              refine flow_callv (.bool (rightR (getI s 4 : Nat) (getI s 8 : Nat) (getI s 12 : Nat) st.V.length)) (by kernel_rfl) rfl (.cons (.inn rfl) (.cons (.inn rfl) .nil)) (fun W hW => (rrright_any _ _ _ _).mono ?_) ?_
              · rintro e w' ⟨rfl, hc⟩; exact ⟨rfl, hc⟩
              rw [hrr]
              refine flow_and plainT_ok rfl rfl rfl ?_
              refine flow_move plainT_ok rfl (keeps_isV _) (.inr (keeps_isV _)) rfl ?_
              refine flow_move_out plainT_ok rfl rfl rfl ?_
              refine flow1 (r := .bool false) plainT_ok rfl (.inn rfl) rfl (fun ev W he e1 => by simp [execOp, e1, go_sem]) ?_
              refine flow_move plainT_ok rfl (keeps_isV _) (.inr (keeps_isV _)) rfl ?_
              refine flow1 (r := .pointer (some ⟨g6, 2, none⟩)) plainT_ok rfl (.out rfl rfl) rfl (fun ev W he e1 => by go_simp) ?_
              refine flow1h (r := .int .u32 ((getI s 12 : Nat) : Int)) plainT_ok rfl (.inn rfl) rfl (fun ev W he hW e1 => by obtain ⟨c0, c1, c2, _, _, _⟩ := hld W hW; go_simp) ?_
              refine flow1 (r := .pointer (some ⟨g + 1, 2, none⟩)) plainT_ok rfl (.out rfl rfl) rfl (fun ev W he e1 => by go_simp) ?_
              refine flow1h (r := .int .u32 (o.epoch : Int)) plainT_ok rfl (.inn rfl) rfl (fun ev W he hW e1 => by obtain ⟨c0, c1, c2, _, _, _⟩ := hlo W hW; go_simp) ?_
              refine flow2 (r := .bool true) plainT_ok rfl (.inn rfl) (.inn rfl) rfl (fun ev W he e1 e2 => by go_simp) ?_
              refine flow_or_false plainT_ok rfl rfl rfl ?_
              refine flow_and plainT_ok rfl rfl rfl ?_
              intro vs W hW hF
              have e43 : vs 43 = .bool true := hF 43 _ rfl rfl
              simp only [putAll, Act.put, List.setIfInBounds_toArray, List.set_cons_zero, List.set_cons_succ, e43]
              have HRW := Lib.hid (HR5.out.drew.keep hW)
              have HBW := Lib.hid (HBe5.out.drew.keep hW)
              have HCW := Lib.hid (HC5.out.drew.new hW)
              obtain ⟨c0, c1, c2, _, _, _⟩ := hld W hW
              obtain ⟨d0, d1, d2, f0, f1, f2⟩ := hlo W hW
              clear hW hF hld hlo
              go_wp2_with fail
              obtain ⟨hS, hCS⟩ := root_set HCW.out (by omega) HBW.out (.int .i64 ((getI s 4 : Nat) : Int)) (.int .i64 ((getI s 8 : Nat) : Int)) (.int .u32 ((getI s 12 : Nat) : Int))
              have hRS := ((HRW.out.far (p := ⟨g + 1, 0, none⟩) (by simp) (.int .i64 ((getI s 4 : Nat) : Int))).far (p := ⟨g + 1, 1, none⟩) (by simp) (.int .i64 ((getI s 8 : Nat) : Int))).far (p := ⟨g + 1, 2, none⟩) (by simp) (.int .u32 ((getI s 12 : Nat) : Int))
              have HS9 := Lib.hid (And.intro hS (And.intro hCS hRS))
              clear hS hCS hRS
              go_roundw
              case rel => exact ⟨k + 1, by omega, by go_num, ⟨_, rfl, Lib.hid (by rw [HSt.out, HN.out]; have := rright_e hrr; exact (decide_eq_true (by show 0 < getI s 12; omega)).symm)⟩, HS9.out.2.2, by rw [HSt.out, HN.out]; exact HS9.out.1, HS9.out.2.1⟩
              case measure => simp [intOf]; omega
            · have HN := Lib.hid (show bestStep st.V.length o s = o by unfold bestStep; rw [if_neg (fun h => hep h.2.2)])
              have hd : decide ((o.epoch : Int) < ((getI s 12 : Nat) : Int)) = false := by simp; omega
              refine wp_flow (by kernel_rfl) plainT plainT_ok (by kernel_rfl) ?_
              refine flow_move_out plainT_ok rfl rfl rfl ?_
              refine flow_move plainT_ok rfl (keeps_isV _) (.inr (keeps_isV _)) rfl ?_
              refine flow1h (r := rootV (getI s 4 : Nat) (getI s 8 : Nat) (getI s 12 : Nat)) plainT_ok rfl (.out rfl rfl) rfl (fun ev W he hW e1 => by obtain ⟨c0, c1, c2, _, _, _⟩ := hld W hW; go_simp; rfl) ?_
              refine flow_move_out plainT_ok rfl rfl rfl ?_
              refine flow_callv (.int .i64 (st.V.length : Int)) (by kernel_rfl) rfl (.cons (.inn rfl) .nil) (fun W hW => (rlen_any (H.out.keep (HC5.out.drew.new hW))).mono ?_) ?_
              · rintro e w' ⟨rfl, rfl⟩; exact ⟨rfl, Chg.refl _ _⟩
              refine flow_callv (.bool (rightR (getI s 4 : Nat) (getI s 8 : Nat) (getI s 12 : Nat) st.V.length)) (by kernel_rfl) rfl (.cons (.inn rfl) (.cons (.inn rfl) .nil)) (fun W hW => (rrright_any _ _ _ _).mono ?_) ?_
              · rintro e w' ⟨rfl, hc⟩; exact ⟨rfl, hc⟩
              rw [hrr]
              refine flow_and plainT_ok rfl rfl rfl ?_
              refine flow_move plainT_ok rfl (keeps_isV _) (.inr (keeps_isV _)) rfl ?_
              refine flow_move_out plainT_ok rfl rfl rfl ?_
              refine flow1 (r := .bool false) plainT_ok rfl (.inn rfl) rfl (fun ev W he e1 => by simp [execOp, e1, go_sem]) ?_
              refine flow_move plainT_ok rfl (keeps_isV _) (.inr (keeps_isV _)) rfl ?_
              refine flow1 (r := .pointer (some ⟨g6, 2, none⟩)) plainT_ok rfl (.out rfl rfl) rfl (fun ev W he e1 => by go_simp) ?_
              refine flow1h (r := .int .u32 ((getI s 12 : Nat) : Int)) plainT_ok rfl (.inn rfl) rfl (fun ev W he hW e1 => by obtain ⟨c0, c1, c2, _, _, _⟩ := hld W hW; go_simp) ?_
              refine flow1 (r := .pointer (some ⟨g + 1, 2, none⟩)) plainT_ok rfl (.out rfl rfl) rfl (fun ev W he e1 => by go_simp) ?_
              refine flow1h (r := .int .u32 (o.epoch : Int)) plainT_ok rfl (.inn rfl) rfl (fun ev W he hW e1 => by obtain ⟨c0, c1, c2, _, _, _⟩ := hlo W hW; go_simp) ?_
              refine flow2 (r := .bool false) plainT_ok rfl (.inn rfl) (.inn rfl) rfl (fun ev W he e1 e2 => by go_simp) ?_
              refine flow_or_false plainT_ok rfl rfl rfl ?_
              refine flow_and plainT_ok rfl rfl rfl ?_
              intro vs W hW hF
              have e43 : vs 43 = .bool false := hF 43 _ rfl rfl
              simp only [putAll, Act.put, List.setIfInBounds_toArray, List.set_cons_zero, List.set_cons_succ, e43]
              have HRW := Lib.hid (HR5.out.drew.keep hW)
              have HBW := Lib.hid (HBe5.out.drew.keep hW)
              have HCW := Lib.hid (HC5.out.drew.new hW)
              clear hW hF hld hlo
              go_wp2_with fail
              go_roundw
              case rel => exact ⟨k + 1, by omega, by go_num, ⟨_, rfl, Lib.hid (by rw [HSt.out, HN.out]; exact HBB.out)⟩, HRW.out, by rw [HSt.out, HN.out]; exact HBW.out, HCW.out⟩
              case measure => simp [intOf]; omega
      · have HN := Lib.hid (show bestStep st.V.length o s = o by unfold bestStep; rw [if_neg (fun h => hno h.1)])
        clear hno
        unfold rootV
        go_wp2_with fail
        have hal : Chg [] w4 (w4.alloc (.cells #[.int .i64 0, .int .i64 0, .int .u32 0] 58)) := (Chg.refl [] w4).alloc _
        have HR5 := Lib.hid (HR4.out.keep hal)
        have HBe5 := Lib.hid (HBe4.out.keep hal)
        have HC5 := Lib.hid (HC4.out.new hal)
        have hld : True := trivial
        generalize w4.alloc (.cells #[.int .i64 0, .int .i64 0, .int .u32 0] 58) = w5 at HR5 HBe5 HC5 ⊢
        clear hal
        refine wp_flow (by kernel_rfl) plainT plainT_ok (by kernel_rfl) ?_
        refine flow_move_out plainT_ok rfl rfl rfl ?_
        refine flow_move plainT_ok rfl (keeps_isV _) (.inr (keeps_isV _)) rfl ?_
        refine flow_skip rfl ?_
        refine flow_skip rfl ?_
        refine flow_skip rfl ?_
        refine flow_skip rfl ?_
        refine flow_and_false plainT_ok rfl rfl rfl ?_
        refine flow_move plainT_ok rfl (keeps_isV _) (.inr (keeps_isV _)) rfl ?_
        refine flow_skip rfl ?_
        refine flow_skip rfl ?_
        refine flow_skip rfl ?_
        refine flow_skip_un rfl ?_
        refine flow_skip_un rfl ?_
        refine flow_skip_un rfl ?_
        refine flow_skip_un rfl ?_
        refine flow_skip_un rfl ?_
        refine flow_skip rfl ?_
        refine flow_and_false plainT_ok rfl rfl rfl ?_
        intro vs W hW hF
        have e43 : vs 43 = .bool false := hF 43 _ rfl rfl
        simp only [putAll, Act.put, List.setIfInBounds_toArray, List.set_cons_zero, List.set_cons_succ, e43]
        have HRW := Lib.hid (HR5.out.drew.keep hW)
        have HBW := Lib.hid (HBe5.out.drew.keep hW)
        have HCW := Lib.hid (HC5.out.drew.new hW)
        clear hW hF hld
        go_wp2_with fail
        go_roundw
        case rel => exact ⟨k + 1, by omega, by go_num, ⟨_, rfl, Lib.hid (by rw [HSt.out, HN.out]; exact HBB.out)⟩, HRW.out, by rw [HSt.out, HN.out]; exact HBW.out, HCW.out⟩
        case measure => simp [intOf]; omega
    · obtain rfl : k = 2 := by omega
      obtain ⟨o, ho⟩ : ∃ o, o = bestK st.V.length st.S 2 := ⟨_, rfl⟩
      rw [← ho] at hBest HBB
      have HO := Lib.hid ho
      have HR := Lib.hid hR
      have HBe := Lib.hid hBest
      have HC := Lib.hid hcr
      clear ho
      obtain ⟨c0, c1, c2, f0, f1, f2⟩ := root_cells hR
      obtain ⟨d0, d1, d2, _, _, _⟩ := root_cells hBest
      clear hR hBest hcr
      go_wp2_with fail
      obtain ⟨hS, hCS⟩ := root_set HC.out hwg HR.out (.int .i64 (o.log : Int)) (.int .i64 (o.pages : Int)) (.int .u32 (o.epoch : Int))
      generalize ((wr.setCell ⟨g, 0, none⟩ (.int .i64 (o.log : Int))).setCell ⟨g, 1, none⟩ (.int .i64 (o.pages : Int))).setCell ⟨g, 2, none⟩ (.int .u32 (o.epoch : Int)) = w9 at hS hCS ⊢
      obtain ⟨k0, k1, k2, _, _, _⟩ := root_cells hS
      exact bodyPost_ret (v := .tuple #[rootV o.log o.pages o.epoch, .bool bb]) (by simp [results, Tryz.results59, go_sem, rootV, k0, k1, k2]) rfl ⟨by rw [← HO.out, HBB.out], hCS⟩
end
end Go.Proofs.YtddjgncdjdjgeaaGreat
