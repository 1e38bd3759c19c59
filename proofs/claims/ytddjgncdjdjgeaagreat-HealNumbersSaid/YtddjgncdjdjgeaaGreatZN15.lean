/-
  N: Redo, RedoRefL, RedoRefA.
-/
import Derived.Test.YtddjgncdjdjgeaaGreatZN2
import Derived.Test.YtddjgncdjdjgeaaGreatZN3
import Derived.Test.YtddjgncdjdjgeaaGreatZN5
import Derived.Test.YtddjgncdjdjgeaaGreatZN6
import Derived.Test.YtddjgncdjdjgeaaGreatZN8
import Derived.Test.YtddjgncdjdjgeaaGreatZN11
import Derived.Test.YtddjgncdjdjgeaaGreatZN14
import Derived.Deep.DeepCutAuto
import Derived.Lib.SliceRun
namespace Go.Proofs.YtddjgncdjdjgeaaGreat
open Go.RowKit
/-- The log's bytes, or none. -/
def logL (s : St) (L P E : Int) : List UInt8 := if rightR L P E s.V.length = true then logB s L.toNat else []
section
variable {w : World} {p bL bS bW : Nat} {s : St}
set_option maxHeartbeats 1000000 in
set_option maxRecDepth 100000 in
theorem parts_any (h : DskS w p bL bS bW s) (L P E : Int) :
    Calls Tryz.prog 110 #[.pointer (some ⟨p, 0, none⟩), rootV L P E] w (BoolPost (rightR L P E s.V.length) w) := by
  have hr0 : rootV L P E = .agg #[.int .i64 L, .int .i64 P, .int .u32 E] := rfl
  rw [hr0]
  go_enter Tryz.func110, Tryz.ntmps110
  go_wp2_with fail
  have hR := Whole.new w 58 [.int .i64 L, .int .i64 P, .int .u32 E]
  have hc1 : Chg [] w (w.alloc (.cells #[.int .i64 L, .int .i64 P, .int .u32 E] 58)) := (Chg.refl [] w).alloc _
  obtain ⟨g, hg⟩ : ∃ g, g = w.heap.size := ⟨_, rfl⟩
  rw [← hg] at hR ⊢
  generalize w.alloc (.cells #[.int .i64 L, .int .i64 P, .int .u32 E] 58) = w1 at hc1 hR ⊢
  clear hg
  have hld := fun (W : World) (hW : Chg [] w1.drew W) => root_cells (hR.drew.keep hW)
  have kd : ∀ W, Chg [] w1.drew W → DskS W p bL bS bW s := fun W hW => (Dsk.keep h hc1.drew).keep hW
  refine wp_flow (by kernel_rfl) plainT plainT_ok (by kernel_rfl) ?_
  refine flow_move_out plainT_ok rfl rfl rfl ?_
  refine flow2 (r := .bool true) plainT_ok rfl (.inn rfl) (.const _) rfl (fun ev W he e1 e2 => by go_simp) ?_
  refine flow_move plainT_ok rfl (keeps_isV _) (.inr (keeps_isV _)) rfl ?_
  refine flow1h (r := rootV L P E) plainT_ok rfl (.out rfl rfl) rfl (fun ev W he hW e1 => by obtain ⟨c0, c1, c2, _, _, _⟩ := hld W hW; go_simp) ?_
  refine flow_move_out plainT_ok rfl rfl rfl ?_
  refine flow_callv (.int .i64 (s.V.length : Int)) (by kernel_rfl) rfl (.cons (.inn rfl) .nil) (fun W hW => (len_any (kd W hW)).mono ?_) ?_
  · rintro e w' ⟨rfl, rfl⟩; exact ⟨rfl, Chg.refl _ _⟩
  refine flow_callv (.bool (rightR L P E s.V.length)) (by kernel_rfl) rfl (.cons (.inn rfl) (.cons (.inn rfl) .nil)) (fun W hW => (rright_any _ _ _ _).mono ?_) ?_
  · rintro e w' ⟨rfl, hc⟩; exact ⟨rfl, hc⟩
  refine flow_and plainT_ok rfl rfl rfl ?_
  refine flow_assign plainT_ok rfl (keeps_isV _) (.inr (keeps_isV _)) rfl ?_
  intro vs W hW hF
  have e4 : vs 4 = .bool (rightR L P E s.V.length) := hF 4 _ rfl rfl
  simp only [putAll, Act.put, List.setIfInBounds_toArray, List.set_cons_zero, List.set_cons_succ, e4]
  have HCW := Lib.hid (hc1.new (wdrew hW))
  clear hW hF hld hR hc1 kd e4
  go_wp2_with fail
  go_ret
  exact ⟨rfl, HCW.out⟩
set_option maxHeartbeats 1000000 in
set_option maxRecDepth 100000 in
theorem rbytes_any (h : DskS w p bL bS bW s) (L P E : Int) :
    Calls Tryz.prog 97 #[.pointer (some ⟨p, 0, none⟩), rootV L P E] w (BytesPost w (logL s L P E)) := by
  obtain ⟨iu, hui, huz, hus, hub⟩ := info_parts info_byte
  have hr0 : rootV L P E = .agg #[.int .i64 L, .int .i64 P, .int .u32 E] := rfl
  have H := Lib.hid h
  clear h
  rw [hr0]
  go_enter Tryz.func97, Tryz.ntmps97
  go_wp2_with fail
  have hR := Whole.new w 58 [.int .i64 L, .int .i64 P, .int .u32 E]
  have hc1 : Chg [] w (w.alloc (.cells #[.int .i64 L, .int .i64 P, .int .u32 E] 58)) := (Chg.refl [] w).alloc _
  obtain ⟨g, hg⟩ : ∃ g, g = w.heap.size := ⟨_, rfl⟩
  rw [← hg] at hR ⊢
  generalize w.alloc (.cells #[.int .i64 L, .int .i64 P, .int .u32 E] 58) = w1 at hc1 hR ⊢
  clear hg
  obtain ⟨c0, c1, c2, _, _, _⟩ := root_cells hR
  go_wp2_with fail
  refine (parts_any (Dsk.keep H.out hc1) L P E).mono ?_
  rintro e w2 ⟨rfl, hc2⟩
  have HC2 := Lib.hid (hc1.new hc2)
  have HR2 := Lib.hid (hR.keep hc2)
  clear hc1 hc2 hR c0 c1 c2
  cases hrr : rightR L P E s.V.length with
  | false =>
    have HF := Lib.hid (show logL s L P E = [] by unfold logL; rw [if_neg (by rw [hrr]; simp)])
    go_wp2_with fail
    go_ret
    rw [HF.out]
    exact ⟨_, rfl, own_nil _ _ _, HC2.out⟩
  | true =>
    have hrt := rightR_true.1 hrr
    obtain ⟨l, rfl⟩ := Int.eq_ofNat_of_zero_le (show 0 ≤ L by omega)
    have hl1 : 1 ≤ l := by omega
    have hl64 : l ≤ 64 := by omega
    have hlV : 2 + l ≤ s.V.length := by omega
    have HF := Lib.hid (show logL s l P E = logB s l by unfold logL; rw [if_pos hrr, Int.toNat_natCast])
    have HS := Lib.hid H.out.lenS
    obtain ⟨N, hN⟩ : ∃ N, N = l * 64 := ⟨_, rfl⟩
    have hNm := Lib.hid hN
    have hN4 : N ≤ 4096 := by omega
    have hmk : ∀ W : World, (Instr.makeSlice 30 (.int .i64 0) (.int .i64 (N : Int))).run Tryz.prog W = .ok (.slice (some ⟨W.heap.size, 0, none⟩) 0 N) (W.alloc (.cells (bts (zeros N)).toArray 5)) := by
      intro W
      rw [bts_zeros]
      exact run_make0 (P := Tryz.prog) 30 5 iu _ rfl Tryz.underlying30 hui huz hus N (by rw [hub]; omega) (by omega) W
    have hsz : sizeI (l : Int) = (N : Int) := by unfold sizeI; rw [if_neg (by omega), hN]; omega
    obtain ⟨c0, c1, c2, _, _, _⟩ := root_cells HR2.out
    clear hN hrt
    go_wp2_with fail
    refine (size_any (l : Int) P E (by omega)).mono ?_
    rintro e w3 ⟨rfl, hc3⟩
    rw [hsz]
    have HC3 := Lib.hid (HC2.out.new hc3)
    have HR3 := Lib.hid (HR2.out.keep hc3)
    clear hc3 c0 c1 c2 hsz
    obtain ⟨c0, c1, c2, _, _, _⟩ := root_cells HR3.out
    have d0 := cell_keep c0 ((Chg.refl [] w3).alloc (.cells (bts (zeros N)).toArray 5))
    go_wp2_with fail
    have hW := Whole.new w3 5 (bts (zeros N))
    have hal : Chg [] w3 (w3.alloc (.cells (bts (zeros N)).toArray 5)) := (Chg.refl [] w3).alloc _
    have ho0 : (w3.alloc (.cells (bts (zeros N)).toArray 5)).ownsRow w3.heap.size 5 1 (.slice (some ⟨w3.heap.size, 0, none⟩) 0 N) 0 [] := by
      have := own_of_whole (B := w3.heap.size) (n := 0) (c := N) hW (Nat.le_refl _) (by rw [bts_len, zeros_len]) (by omega) (by unfold maxLen; omega)
      simpa using this
    have HAL := Lib.hid hal
    have HR4 := Lib.hid (HR3.out.keep hal)
    have HC4 := Lib.hid (HC3.out.new hal)
    generalize w3.alloc (.cells (bts (zeros N)).toArray 5) = w4 at ho0 HR4 HC4 HAL ⊢
    obtain ⟨B3, hB3⟩ : ∃ B, B = w3.heap.size := ⟨_, rfl⟩
    rw [← hB3] at ho0 ⊢
    have HB3 := Lib.hid (show B3 ≤ w4.heap.size ∧ w.heap.size ≤ B3 by rw [hB3]; exact ⟨HAL.out.size, HC3.out.size⟩)
    clear hW hal hB3 c0 c1 c2 d0 HAL hmk

    go_loopw [5, 18] (fun v i wr => ∃ k : Nat, k ≤ l ∧ i = .int .i64 (k : Int) ∧ (∃ n, Hid (n = k * 64) ∧ wr.ownsRow B3 5 1 v n (bts (logB s k))) ∧ Hid (B3 ≤ wr.heap.size) ∧ Hid (Chg [] w wr)) (fun _ i _ => l - (intOf i).toNat)
    case atStart => exact ⟨0, by omega, rfl, ⟨0, Lib.hid rfl, by unfold logB; simpa [bts] using ho0⟩, Lib.hid HB3.out.1, HC4⟩
    case round =>
      obtain ⟨k, hk, rfl, ⟨n, Hn, hown⟩, HBr, HCr⟩ := hrel
      obtain ⟨Av, cv, rfl, hvl, hvc, _⟩ := own_slice hown
      by_cases hlt : k < l
      · have hkI : (k : Int) < (l : Int) := by omega
        obtain ⟨q, hq⟩ : ∃ q : Nat, (2 : Int) + (k : Int) = (q : Int) := ⟨2 + k, by omega⟩
        have HQ := Lib.hid (show q = 2 + k by omega)
        have hqV : q < s.V.length := by omega
        go_wp2_with fail
        refine (read_yes (Dsk.keep H.out HCr.out) q hqV).mono ?_
        rintro e w5 ⟨rfl, hW5, hc5⟩
        have hl5 : ((s.S.drop (q * 64)).take 64).length = 64 := by rw [List.length_take, List.length_drop, HS.out]; omega
        have HNX := Lib.hid (show logB s (k + 1) = logB s k ++ (s.S.drop (q * 64)).take 64 by rw [logB_next, HQ.out])
        have HS5 := Lib.hid (Src.of_all hW5)
        have hx1 := Lib.hid (show (bts ((s.S.drop (q * 64)).take 64)).length = 64 by rw [bts_len, hl5])
        have how := own_keep hown hc5
        have hn4 : n ≤ 4096 := by rw [Hn.out]; omega
        have hx2 := Lib.hid (show n + 64 ≤ maxLen by unfold maxLen; omega)
        have hx3 := Lib.hid (show (n + 64) * 1 ≤ 140737488355328 by omega)
        have hx4 := Lib.hid (show B3 ≤ w5.heap.size by have := HBr.out; have := hc5.size; omega)
        have HC5 := Lib.hid (HCr.out.new hc5)
        have h1 := bts_one ((s.S.drop (q * 64)).take 64)
        generalize (s.S.drop (q * 64)).take 64 = Z at hW5 HNX HS5 hx1 h1
        obtain ⟨g5, hg5⟩ : ∃ g, g = wr.heap.size := ⟨_, rfl⟩
        rw [← hg5] at HS5 ⊢
        clear hg5 hW5 hl5 hc5 hown
        go_wp2_with (at_builtin
                     refine wpList_append_src rfl (.tmp 28) (.tmp 29) 30 rfl B3 5 iu _ 1 Tryz.underlying30 hui huz hus hub cells_u8 (.slice Av n cv) n (bts (logB s k)) rfl how (some ⟨g5, 0, none⟩) 64 64 (bts Z) rfl hx1.out HS5.out h1 hx2.out hx3.out hx4.out ?_
                     intro v6 w6 ho6 hg6 _)
        have hc6 := HC5.out.own how HB3.out.2 hg6
        go_roundw
        case rel => exact ⟨k + 1, by omega, by go_num, ⟨n + 64, Lib.hid (by rw [Hn.out]; omega), by rw [HNX.out, bts_app]; exact ho6⟩, Lib.hid (Nat.le_trans hx4.out hg6.size), Lib.hid hc6⟩
        case measure => simp [intOf]; omega
      · have hkI : ¬ (k : Int) < (l : Int) := by omega
        have HK := Lib.hid (show k = l by omega)
        have HLen := Lib.hid (show (logB s l).length = n by rw [logB_len (by rw [HS.out]; omega), Hn.out, HK.out])
        clear hlt hk
        go_wp2_with fail
        go_ret
        rw [HF.out]
        refine ⟨_, rfl, ?_, HCr.out⟩
        rw [HLen.out, ← HK.out]
        exact own_more hown HB3.out.2
/-- May so many bytes go in? -/
def canA (s : St) (L P E at_ : Int) (n : Nat) : Prop := rightR L P E s.V.length = true ∧ 0 ≤ at_ ∧ at_ ≤ L * 64 ∧ (n : Int) ≤ L * 64 - at_
end
end Go.Proofs.YtddjgncdjdjgeaaGreat
namespace Go.Proofs.YtddjgncdjdjgeaaGreat
open Go.RowKit
section
variable {w : World} {p gL gN gW : Nat} {rL rN : List Value} {lf m : Int} {s : St}
set_option maxHeartbeats 2000000 in
set_option maxRecDepth 100000 in
theorem rlog_nil (h : Rfx w p gL gN gW rL rN lf m s) (L P E : Int) :
    Calls Tryz.prog 103 #[.pointer (some ⟨p, 0, none⟩), rootV L P E] w fun e w' => BytesPost w (logL s L P E) e w' ∧ (rightR L P E s.V.length = false → e = .returned (.slice none 0 0)) := by
  obtain ⟨iu, hui, huz, hus, hub⟩ := info_parts info_byte
  have hr0 : rootV L P E = .agg #[.int .i64 L, .int .i64 P, .int .u32 E] := rfl
  have H := Lib.hid h
  clear h
  rw [hr0]
  go_enter Tryz.func103, Tryz.ntmps103
  go_wp2_with fail
  have hR := Whole.new w 58 [.int .i64 L, .int .i64 P, .int .u32 E]
  have hc1 : Chg [] w (w.alloc (.cells #[.int .i64 L, .int .i64 P, .int .u32 E] 58)) := (Chg.refl [] w).alloc _
  obtain ⟨g, hg⟩ : ∃ g, g = w.heap.size := ⟨_, rfl⟩
  rw [← hg] at hR ⊢
  generalize w.alloc (.cells #[.int .i64 L, .int .i64 P, .int .u32 E] 58) = w1 at hc1 hR ⊢
  clear hg
  have hld := fun (W : World) (hW : Chg [] w1.drew W) => root_cells (hR.drew.keep hW)
  cases hrr : rightR L P E s.V.length with
  | false =>
    have HF := Lib.hid (show logL s L P E = [] by unfold logL; rw [if_neg (by rw [hrr]; simp)])
    refine wp_flow (by kernel_rfl) plainT plainT_ok (by kernel_rfl) ?_
    refine flow1h (r := rootV L P E) plainT_ok rfl (.out rfl rfl) rfl (fun ev W he hW e1 => by obtain ⟨c0, c1, c2, _, _, _⟩ := hld W hW; go_simp) ?_
    refine flow_move_out plainT_ok rfl rfl rfl ?_
    refine flow_callv (.int .i64 (s.V.length : Int)) (by kernel_rfl) rfl (.cons (.inn rfl) .nil) (fun W hW => (rlen_any ((H.out.keep hc1.drew).keep hW)).mono ?_) ?_
    · rintro e w' ⟨rfl, rfl⟩; exact ⟨rfl, Chg.refl _ _⟩
    refine flow_callv (.bool false) (by kernel_rfl) rfl (.cons (.inn rfl) (.cons (.inn rfl) .nil)) (fun W hW => (rrright_any _ _ _ _).mono ?_) ?_
    · rintro e w' ⟨rfl, hc⟩; exact ⟨by rw [hrr], hc⟩
    refine flow1 (r := .bool true) plainT_ok rfl (.inn rfl) rfl (fun ev W he e1 => by go_simp) ?_
    intro vs W hW hF
    have e13 : vs 13 = .bool true := hF 13 _ rfl rfl
    simp only [putAll, Act.put, List.setIfInBounds_toArray, List.set_cons_zero, List.set_cons_succ, e13]
    have HCW := Lib.hid (hc1.drew.new hW)
    clear hF hld hW
    go_wp2_with fail
    go_ret
    rw [HF.out]
    exact ⟨⟨_, rfl, own_nil _ _ _, HCW.out⟩, fun _ => rfl⟩
  | true =>
    have hrt := rightR_true.1 hrr
    obtain ⟨l, rfl⟩ := Int.eq_ofNat_of_zero_le (show 0 ≤ L by omega)
    have hl1 : 1 ≤ l := by omega
    have hl64 : l ≤ 64 := by omega
    have hlV : 2 + l ≤ s.V.length := by omega
    have HF := Lib.hid (show logL s l P E = logB s l by unfold logL; rw [if_pos hrr, Int.toNat_natCast])
    have HS := Lib.hid H.out.lenS
    refine wp_flow (by kernel_rfl) plainT plainT_ok (by kernel_rfl) ?_
    refine flow1h (r := rootV l P E) plainT_ok rfl (.out rfl rfl) rfl (fun ev W he hW e1 => by obtain ⟨c0, c1, c2, _, _, _⟩ := hld W hW; go_simp) ?_
    refine flow_move_out plainT_ok rfl rfl rfl ?_
    refine flow_callv (.int .i64 (s.V.length : Int)) (by kernel_rfl) rfl (.cons (.inn rfl) .nil) (fun W hW => (rlen_any ((H.out.keep hc1.drew).keep hW)).mono ?_) ?_
    · rintro e w' ⟨rfl, rfl⟩; exact ⟨rfl, Chg.refl _ _⟩
    refine flow_callv (.bool true) (by kernel_rfl) rfl (.cons (.inn rfl) (.cons (.inn rfl) .nil)) (fun W hW => (rrright_any _ _ _ _).mono ?_) ?_
    · rintro e w' ⟨rfl, hc⟩; exact ⟨by rw [hrr], hc⟩
    refine flow1 (r := .bool false) plainT_ok rfl (.inn rfl) rfl (fun ev W he e1 => by go_simp) ?_
    intro vs W hW hF
    have e13 : vs 13 = .bool false := hF 13 _ rfl rfl
    simp only [putAll, Act.put, List.setIfInBounds_toArray, List.set_cons_zero, List.set_cons_succ, e13]
    have HRW := Lib.hid (hR.drew.keep hW)
    have HCW := Lib.hid (hc1.drew.new hW)
    clear hF hld hW hR hc1 hrt
    go_wp2_with fail
    go_loopw [5, 6] (fun v i wr => ∃ k : Nat, k ≤ l ∧ (∃ q : Nat, i = .int .i64 (q : Int) ∧ Hid (q = 2 + k)) ∧ (∃ n, Hid (n = k * 64) ∧ wr.ownsRow W.heap.size 5 1 v n (bts (logB s k))) ∧ Hid (Chg [] W wr)) (fun _ i _ => 2 + l - (intOf i).toNat)
    case atStart => exact ⟨0, by omega, ⟨2, rfl, Lib.hid rfl⟩, ⟨0, Lib.hid rfl, by unfold logB; simpa [bts] using own_nil _ _ _⟩, Lib.hid (Chg.refl _ _)⟩
    case round =>
      obtain ⟨k, hk, ⟨q, rfl, HQ⟩, ⟨n, Hn, hown⟩, HCr⟩ := hrel
      obtain ⟨Av, cv, rfl, hvl, hvc, _⟩ := own_slice hown
      have HCa := Lib.hid (HCW.out.new HCr.out)
      obtain ⟨c0, c1, c2, _, _, _⟩ := root_cells (HRW.out.keep HCr.out)
      by_cases hlt : k < l
      · have hkI : (q : Int) < 2 + (l : Int) := by have := HQ.out; omega
        have hqV : q < s.V.length := by have := HQ.out; omega
        have hq66 : q ≤ 66 := by have := HQ.out; omega
        go_wp2_with fail
        refine (rread_own (H.out.keep HCa.out) q hqV).mono ?_
        rintro e w5 ⟨v2, rfl, ho2, hc5⟩
        have hl5 : ((s.S.drop (q * 64)).take 64).length = 64 := by rw [List.length_take, List.length_drop, HS.out]; omega
        have HNX := Lib.hid (show logB s (k + 1) = logB s k ++ (s.S.drop (q * 64)).take 64 by rw [logB_next, HQ.out])
        obtain ⟨A2, c2', rfl, _, _, hs2, _⟩ := own_slice ho2
        have HS5 := Lib.hid hs2
        have hx1 := Lib.hid (show (bts ((s.S.drop (q * 64)).take 64)).length = 64 by rw [bts_len, hl5])
        have how := own_keep hown hc5
        have hn4 : n ≤ 4096 := by rw [Hn.out]; omega
        have hx2 := Lib.hid (show n + 64 ≤ maxLen by unfold maxLen; omega)
        have hx3 := Lib.hid (show (n + 64) * 1 ≤ 140737488355328 by omega)
        have hx4 := Lib.hid (show W.heap.size ≤ w5.heap.size from Nat.le_trans HCr.out.size hc5.size)
        have HC5 := Lib.hid (HCr.out.new hc5)
        have h1 := bts_one ((s.S.drop (q * 64)).take 64)
        generalize (s.S.drop (q * 64)).take 64 = Z at HNX HS5 hx1 h1
        clear hl5 hc5 hown hs2 ho2 c0 c1 c2
        go_wp2_with (at_builtin
                     refine wpList_append_src rfl (.tmp 27) (.tmp 28) 30 rfl W.heap.size 5 iu _ 1 Tryz.underlying30 hui huz hus hub cells_u8 (.slice Av n cv) n (bts (logB s k)) rfl how A2 64 c2' (bts Z) rfl hx1.out HS5.out h1 hx2.out hx3.out hx4.out ?_
                     intro v6 w6 ho6 hg6 _)
        have hc6 := HC5.out.own how (Nat.le_refl _) hg6
        go_roundw
        case rel => exact ⟨k + 1, by omega, ⟨q + 1, by go_num, Lib.hid (by have := HQ.out; omega)⟩, ⟨n + 64, Lib.hid (by rw [Hn.out]; omega), by rw [HNX.out, bts_app]; exact ho6⟩, Lib.hid hc6⟩
        case measure => have := HQ.out; simp [intOf]; omega
      · have hkI : ¬ (q : Int) < 2 + (l : Int) := by have := HQ.out; omega
        have HK := Lib.hid (show k = l by omega)
        have HLen := Lib.hid (show (logB s l).length = n by rw [logB_len (by rw [HS.out]; omega), Hn.out, HK.out])
        clear hlt hk
        go_wp2_with fail
        go_ret
        rw [HF.out]
        refine ⟨_, rfl, ?_, HCa.out⟩
        rw [HLen.out, ← HK.out]
        exact own_more hown HCW.out.size
theorem rlog_any (h : Rfx w p gL gN gW rL rN lf m s) (L P E : Int) :
    Calls Tryz.prog 103 #[.pointer (some ⟨p, 0, none⟩), rootV L P E] w (BytesPost w (logL s L P E)) := (rlog_nil h L P E).mono fun _ _ h => h.1
end
end Go.Proofs.YtddjgncdjdjgeaaGreat
namespace Go.Proofs.YtddjgncdjdjgeaaGreat
open Go.RowKit
/-- The log's sector i, behind b was copied in. -/
theorem log_sect {s : St} {L a i k' : Nat} {b : List UInt8} (hS : 128 + L * 64 ≤ s.S.length) (hab : a + b.length ≤ L * 64) (hi : i < L) (hk : k' = min b.length ((i + 1) * 64 - a)) :
    ((splice (logB s L) a b).drop (i * 64)).take 64 = ((splice s.S (128 + a) (b.take k')).drop ((2 + i) * 64)).take 64 := by
  have hl := logB_len (s := s) hS
  have lk : (b.take k').length = k' := by rw [List.length_take]; omega
  apply List.ext_getElem?
  intro j
  rcases Nat.lt_or_ge j 64 with hj | hj
  · rw [List.getElem?_take, List.getElem?_take, if_pos hj, if_pos hj, List.getElem?_drop, List.getElem?_drop, splice_get _ _ _ _ (by rw [hl]; exact hab), splice_get _ _ _ _ (by rw [lk]; omega), lk]
    by_cases h1 : a ≤ i * 64 + j ∧ i * 64 + j < a + b.length
    · rw [if_pos h1, if_pos (by omega), List.getElem?_take, if_pos (by omega)]
      congr 1; omega
    · rw [if_neg h1, if_neg (by omega)]
      unfold logB
      rw [List.getElem?_take, if_pos (by omega), List.getElem?_drop]
      congr 1; omega
  · rw [List.getElem?_take, List.getElem?_take, if_neg (by omega), if_neg (by omega)]
/-- What the reference's Append does. -/
def RAppPost (w : World) (p gL gN gW : Nat) (rL rN : List Value) (s : St) (L P E at_ : Int) (l : List UInt8) (e : Ending) (w' : World) : Prop :=
  (canA s L P E at_ l.length ∧ e = .returned (.bool true) ∧ (∃ m', Rfd w' p gL gN gW rL rN m' (apS s (128 + at_.toNat) l)) ∧ Chg [p, gN, gW] w w') ∨
  (¬ canA s L P E at_ l.length ∧ e = .returned (.bool false) ∧ Chg [] w w')
section
variable {w : World} {p gL gN gW : Nat} {rL rN : List Value} {m : Int} {s : St}
set_option maxHeartbeats 4000000 in
set_option maxRecDepth 100000 in
theorem rappend_any (h : Rfd w p gL gN gW rL rN m s) (L P E at_ : Int) (hL0 : -9223372036854775808 ≤ at_) (hL1 : at_ ≤ 9223372036854775807) {A : Option Addr} {n c : Nat} {l : List UInt8} (hx : Bs w A n c l) :
    Calls Tryz.prog 77 #[.pointer (some ⟨p, 0, none⟩), rootV L P E, .int .i64 at_, .slice A n c] w (RAppPost w p gL gN gW rL rN s L P E at_ l) := by
  have hr0 : rootV L P E = .agg #[.int .i64 L, .int .i64 P, .int .u32 E] := rfl
  have H := Lib.hid h
  have HX := Lib.hid hx
  have hln := hx.len
  have hnm := hx.le
  clear h hx
  rw [hr0]
  have hnl := fun W a n c => Lib.run_eql_slice_nil (P := Tryz.prog) W 30 5 a n c 0 0 Tryz.underlying30
  go_enter Tryz.func77, Tryz.ntmps77
  go_wp2_with fail
  have hR := Whole.new w 58 [.int .i64 L, .int .i64 P, .int .u32 E]
  have hc1 : Chg [] w (w.alloc (.cells #[.int .i64 L, .int .i64 P, .int .u32 E] 58)) := (Chg.refl [] w).alloc _
  obtain ⟨g, hg⟩ : ∃ g, g = w.heap.size := ⟨_, rfl⟩
  rw [← hg] at hR ⊢
  generalize w.alloc (.cells #[.int .i64 L, .int .i64 P, .int .u32 E] 58) = w1 at hc1 hR ⊢
  have HGg := Lib.hid (show g ≠ p ∧ g ≠ gN ∧ g ≠ gW ∧ w.heap.size ≤ g by have h1 := H.out.rec_.lt; have h2 := H.out.now.lt; have h3 := H.out.wait.lt; omega)
  clear hg
  obtain ⟨c0, c1, c2, _, _, _⟩ := root_cells hR
  go_wp2_with fail
  refine (rlog_nil (H.out.keep hc1) L P E).mono ?_
  rintro e w2 ⟨⟨v2, rfl, ho2, hc2⟩, hnil⟩
  have HC2 := Lib.hid (hc1.new hc2)
  have HR2 := Lib.hid (hR.keep hc2)
  have HLN := Lib.hid hln
  have HS1 := Lib.hid hc1.size
  clear hc1 hc2 hR c0 c1 c2 hln
  cases hrr : rightR L P E s.V.length with
  | false =>
    have HF := Lib.hid (show ¬ canA s L P E at_ l.length from fun h => by have := h.1; rw [hrr] at this; cases this)
    obtain ⟨rfl⟩ : v2 = .slice none 0 0 := by have := hnil hrr; injection this
    clear hnil ho2
    go_wp2_with fail
    go_ret
    exact .inr ⟨HF.out, rfl, HC2.out⟩
  | true =>
    have hrt := rightR_true.1 hrr
    obtain ⟨k, rfl⟩ := Int.eq_ofNat_of_zero_le (show 0 ≤ L by omega)
    have hl1 : 1 ≤ k := by omega
    have hl64 : k ≤ 64 := by omega
    have hlV := Lib.hid (show 2 + (k : Int) + P ≤ s.V.length ∧ 1 ≤ P from ⟨hrt.2.2.2.2.1, hrt.2.2.1⟩)
    have HS := Lib.hid (show 128 + k * 64 ≤ s.S.length ∧ s.S.length = 64 * s.V.length by have := H.out.lenS; have := hlV.out; omega)
    have hlog : logL s k P E = logB s k := by unfold logL; rw [if_pos hrr, Int.toNat_natCast]
    obtain ⟨N, hN, hN4, hN0⟩ : ∃ N, N = k * 64 ∧ N ≤ 4096 ∧ 0 < N := ⟨_, rfl, by omega, by omega⟩
    have hlen : (logB s k).length = N := by rw [logB_len HS.out.1, hN]
    rw [hlog, hlen] at ho2
    obtain ⟨gl, r, rfl, hgl, hW2, hcap⟩ := own_whole ho2 hN0
    obtain ⟨cN, hcN⟩ : ∃ c, c = N + r.length := ⟨_, rfl⟩
    rw [← hcN] at hcap ⊢
    have hcN1 : N ≤ cN := by omega
    have HCA := Lib.hid (show canA s k P E at_ l.length ↔ (0 ≤ at_ ∧ at_ ≤ (N : Int) ∧ (n : Int) ≤ (N : Int) - at_) by unfold canA; rw [hrr, HLN.out, show (k : Int) * 64 = (N : Int) by omega]; simp)
    have HNk := Lib.hid hN
    have HLB := Lib.hid hlen
    have HGL := Lib.hid (show w.heap.size ≤ gl by have := HS1.out; omega)
    have HW2 := Lib.hid hW2
    clear hnil hrt hlog hN hlen ho2 hcN hW2 hgl
    unfold maxLen at hcap
    by_cases ha0 : at_ < 0
    · have HF := Lib.hid (show ¬ canA s k P E at_ l.length from fun h => by have := (HCA.out.1 h).1; omega)
      go_wp2_with fail
      go_ret
      exact .inr ⟨HF.out, rfl, HC2.out⟩
    obtain ⟨a, rfl⟩ := Int.eq_ofNat_of_zero_le (show 0 ≤ at_ by omega)
    have ha0' : ¬ ((a : Int) < 0) := ha0
    clear ha0 hL0
    by_cases ha1 : (N : Int) < (a : Int)
    · have HF := Lib.hid (show ¬ canA s k P E a l.length from fun h => by have := (HCA.out.1 h).2.1; omega)
      go_wp2_with fail
      go_ret
      exact .inr ⟨HF.out, rfl, HC2.out⟩
    have haN : a ≤ N := by omega
    by_cases hn1 : (N : Int) - (a : Int) < (n : Int)
    · have HF := Lib.hid (show ¬ canA s k P E a l.length from fun h => by have := (HCA.out.1 h).2.2; omega)
      go_wp2_with fail
      go_ret
      exact .inr ⟨HF.out, rfl, HC2.out⟩
    have hnN : a + n ≤ N := by omega
    have HY := Lib.hid (HCA.out.2 ⟨by omega, by omega, by omega⟩)
    clear HCA
    go_upto_region 4 with fail
    have HNL := Lib.hid hnl
    clear hnl
    have hcsl := Lib.hid (show (bts l).length = Nat.min n (N - a) by rw [bts_len, HLN.out]; show n = min _ _; omega)
    have hfit : a + (bts l).length ≤ (bts (logB s k) ++ r).length := by rw [List.length_append, bts_len, bts_len, HLN.out, HLB.out]; omega
    have hb1 := bts_one l
    have hsr := (HX.out.keep HC2.out).src
    have hspl := Lib.hid (show splice (bts (logB s k) ++ r) a (bts l) = bts (splice (logB s k) a l) ++ r by rw [splice_app _ _ _ _ (by rw [bts_len, bts_len, HLN.out, HLB.out]; omega), bts_splice])
    have hW2 := HW2.out
    have hcNa : ¬ cN < a := by omega
    have hNa : ¬ N < a := by omega
    go_cut [9] (fun s9 wx => s9 = .slice (some ⟨gl, 0, none⟩) N cN ∧ Hid (Whole wx gl 5 (bts (splice (logB s k) a l) ++ r)) ∧ Hid (Chg [gl] w2 wx))
    case first =>
      by_cases hac : cN = a
      · have hz : ¬ 0 < (bts l).length := by rw [bts_len, HLN.out]; omega
        go_wp2_with (with_reducible refine wpList_copy_chg rfl (.tmp 37) (.tmp 38) _ _ rfl 5 Tryz.underlying30 size_u8 _ A (N - a) _ n c rfl rfl gl a 5 (bts (logB s k) ++ r) (bts l) hW2 hcsl.out (fun h => absurd h hz) hsr hfit hb1 ?_
                     intro w6 HG6 HC6)
        rw [hspl.out] at HG6
        go_meet
        exact ⟨rfl, Lib.hid HG6, Lib.hid HC6⟩
      · go_wp2_with (with_reducible refine wpList_copy_chg rfl (.tmp 37) (.tmp 38) _ _ rfl 5 Tryz.underlying30 size_u8 (some ⟨gl, a, none⟩) A (N - a) (cN - a) n c rfl rfl gl a 5 (bts (logB s k) ++ r) (bts l) hW2 hcsl.out (fun _ => rfl) hsr hfit hb1 ?_
                     intro w6 HG6 HC6)
        rw [hspl.out] at HG6
        go_meet
        exact ⟨rfl, Lib.hid HG6, Lib.hid HC6⟩
    case rest =>
      obtain ⟨rfl, HG6, HC6⟩ := hcut
      obtain ⟨w6, rfl⟩ : ∃ w6 : World, w6 = wc := ⟨_, rfl⟩
      have HC6' := Lib.hid (show Chg [] w w6 from HC2.out.then_ HC6.out (fun i hi hlt => by
        simp only [List.mem_cons, List.not_mem_nil, or_false] at hi
        have := HGL.out
        omega))
      have HNg := Lib.hid (show g ≠ gl from HR2.out.ne_ HW2.out (by decide))
      have HR6 := Lib.hid (HR2.out.chg HC6.out (by simp; exact HNg.out))
      have HP := Lib.hid (show p < w.heap.size ∧ gN < w.heap.size ∧ gW < w.heap.size from ⟨H.out.rec_.lt, H.out.now.lt, H.out.wait.lt⟩)
      have h0 : apS s (128 + a) (l.take (min n (0 * 64 - a))) = s := by rw [show min n (0 * 64 - a) = 0 by omega, List.take_zero]; exact apS_nil s _ (by have := HS.out; have := HNk.out; omega)
      have HT0 : Hid (Rfd w6 p gL gN gW rL rN m (apS s (128 + a) (l.take (min n (0 * 64 - a))))) := Lib.hid (by rw [h0]; exact H.out.keep HC6'.out)
      have HV6 := Lib.hid (show 2 + k ≤ s.V.length by have := hlV.out; omega)
      clear h0 hcsl hfit hb1 hsr hspl hW2 hcNa ha1 hn1
      go_wp2_with fail
      go_loopw [10] (fun v wr => ∃ i : Nat, i ≤ k ∧ v = .int .i64 (i : Int) ∧ (∃ m', Hid (Rfd wr p gL gN gW rL rN m' (apS s (128 + a) (l.take (min n (i * 64 - a)))))) ∧ Hid (Chg [p, gN, gW] w6 wr)) (fun v _ => k - (intOf v).toNat)
      case atStart => exact ⟨0, Nat.zero_le _, rfl, ⟨m, HT0⟩, Lib.hid (Chg.refl _ _)⟩
      case round =>
        obtain ⟨i, hi, rfl, ⟨m', HT⟩, HCr⟩ := hrel
        obtain ⟨d0, d1, d2, _, _, _⟩ := root_cells (HR6.out.chg HCr.out (by have := HGg.out; simp; omega))
        have hend : (i = k ∨ n = 0) → min n (i * 64 - a) = n := fun h => by have := HNk.out; rcases h with h | h <;> subst h <;> omega
        by_cases hlt : i < k ∧ 0 < n
        · obtain ⟨hlt, hn0⟩ := hlt
          have hltI : (i : Int) < (k : Int) := by omega
          have hn0I : (0 : Int) < (n : Int) := by omega
          obtain ⟨o, ho⟩ : ∃ o, o = i * 64 := ⟨_, rfl⟩
          obtain ⟨o2, ho2⟩ : ∃ o2, o2 = (i + 1) * 64 := ⟨_, rfl⟩
          have hI1 : (i : Int) * 64 = (o : Int) := by omega
          have hI2 : ((i : Int) + 1) * 64 = (o2 : Int) := by omega
          have HO := Lib.hid (show o = i * 64 ∧ o2 = (i + 1) * 64 from ⟨ho, ho2⟩)
          have ho3 : o2 ≤ N := by have := HNk.out; omega
          have ho64 : o2 - o = 64 := by omega
          have ho5 : ¬ o2 < o := by omega
          have ho6 : ¬ cN < o2 := by omega
          have ho7 : ¬ cN = o := by omega
          clear ho ho2 hend
          by_cases hc1 : o < a + n
          · by_cases hc2 : a < o2
            · have hc1I : (o : Int) < (a : Int) + (n : Int) := by omega
              have hc2I : (a : Int) < (o2 : Int) := by omega
              obtain ⟨q, hq⟩ : ∃ q : Nat, (2 : Int) + (i : Int) = (q : Int) := ⟨2 + i, by omega⟩
              have HQ := Lib.hid (show q = 2 + i by omega)
              have HHl := Lib.hid (show 128 + a + l.length ≤ s.S.length by have := HS.out; have := HLN.out; have := HNk.out; omega)
              obtain ⟨x, hx⟩ : ∃ x, x = ((splice (logB s k) a l).drop (i * 64)).take 64 := ⟨_, rfl⟩
              have hx2 := hx
              rw [log_sect (k' := min n ((i + 1) * 64 - a)) HS.out.1 (by rw [HLN.out]; have := HNk.out; omega) hlt (by rw [HLN.out])] at hx2
              have HST := Lib.hid (apS_step (s := s) (a := 128 + a) (b := l) (k := min n (i * 64 - a)) (k' := min n ((i + 1) * 64 - a)) (q := q) (x := x) HS.out.2 HHl.out (by have := HO.out; omega) (by rw [HLN.out]; omega) (by have := HQ.out; have := HO.out; omega) (by have := HQ.out; have := HO.out; omega) (by have := HQ.out; have := HO.out; omega) (by rw [hx2, HQ.out]))
              have HXL := Lib.hid (show x.length = 64 by rw [hx, List.length_take, List.length_drop, splice_len _ _ _ (by rw [HLN.out, HLB.out]; exact hnN), HLB.out]; have := HO.out; omega)
              have hGr := HG6.out.chg HCr.out (by have := HGL.out; have := HP.out; simp; omega)
              have HSX := Lib.hid (show Src wr (some ⟨gl, o, none⟩) (bts x) by
                have h := Src.of_whole hGr o 64
                have e : ((bts (splice (logB s k) a l) ++ r).drop o).take 64 = bts x := by
                  rw [List.drop_append_of_le_length (by rw [bts_len, splice_len _ _ _ (by rw [HLN.out, HLB.out]; exact hnN), HLB.out]; omega), List.take_append_of_le_length (by rw [List.length_drop, bts_len, splice_len _ _ _ (by rw [HLN.out, HLB.out]; exact hnN), HLB.out]; omega)]
                  rw [hx, HO.out.1]
                  simp only [bts, List.map_take, List.map_drop]
                rwa [e] at h)
              have hqV : q < (apS s (128 + a) (l.take (min n (i * 64 - a)))).V.length := by rw [apS_V]; have := HQ.out; have := HV6.out; omega
              have HPb := Lib.hid (show gl ≠ p by have := HGL.out; have := HP.out; omega)
              clear hx hx2 hGr
              go_wp2_with fail
              refine (rwrite_yes HT.out q hqV (x := x) HXL.out HSX.out (fun ad e => by injection e with e; subst e; exact HPb.out)).mono ?_
              rintro e w7 ⟨m7, rfl, hT7, hc7⟩
              rw [HST.out] at hT7
              have HT7 := Lib.hid hT7
              have HC7 := Lib.hid (HCr.out.trans hc7)
              clear hT7 hc7 hqV
              go_wp2_with fail
              go_roundw
              case rel => exact ⟨i + 1, by omega, by go_num, ⟨m7, HT7⟩, HC7⟩
              case measure => simp [intOf]; omega
            · have hc1I : (o : Int) < (a : Int) + (n : Int) := by omega
              have hc2I : ¬ (a : Int) < (o2 : Int) := by omega
              have he : Hid (min n ((i + 1) * 64 - a) = min n (i * 64 - a)) := Lib.hid (by have := HO.out; omega)
              go_wp2_with fail
              go_roundw
              case rel => exact ⟨i + 1, by omega, by go_num, ⟨m', by rw [he.out]; exact HT⟩, HCr⟩
              case measure => simp [intOf]; omega
          · have hc1I : ¬ (o : Int) < (a : Int) + (n : Int) := by omega
            have he : Hid (min n ((i + 1) * 64 - a) = min n (i * 64 - a)) := Lib.hid (by have := HO.out; omega)
            go_wp2_with fail
            go_roundw
            case rel => exact ⟨i + 1, by omega, by go_num, ⟨m', by rw [he.out]; exact HT⟩, HCr⟩
            case measure => simp [intOf]; omega
        · have HE := Lib.hid (hend (by omega))
          have HFin : Hid (∃ m', Rfd wr p gL gN gW rL rN m' (apS s (128 + a) l)) := Lib.hid ⟨m', by have h := HT.out; rwa [HE.out, List.take_of_length_le (by rw [HLN.out]; exact Nat.le_refl _)] at h⟩
          have HCe := Lib.hid ((HC6'.out.sub (T' := [p, gN, gW]) (by simp)).trans HCr.out)
          clear hend
          by_cases hik : i < k
          · have hn00 : n = 0 := by omega
            have hikI : (i : Int) < (k : Int) := by omega
            have hn0I : ¬ (0 : Int) < (n : Int) := by omega
            have HYY := HY
            clear hlt
            go_wp2_with fail
            go_ret
            exact .inl ⟨HYY.out, rfl, by rw [Int.toNat_natCast]; exact HFin.out, HCe.out⟩
          · have hikI : ¬ (i : Int) < (k : Int) := by omega
            go_wp2_with fail
            go_ret
            exact .inl ⟨HY.out, rfl, by rw [Int.toNat_natCast]; exact HFin.out, HCe.out⟩
end
end Go.Proofs.YtddjgncdjdjgeaaGreat
