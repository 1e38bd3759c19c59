/-
  S: Redo.
-/
import Derived.Test.YtddjgncdjdjgeaaGreatZS3
import Derived.Test.YtddjgncdjdjgeaaGreatZS7
import Derived.Test.YtddjgncdjdjgeaaGreatZS10
import Derived.Test.YtddjgncdjdjgeaaGreatZS12
namespace Go.Proofs.YtddjgncdjdjgeaaGreat
open Go.RowKit
/-- The log's bytes, or none. -/
def logL (s : St) (L P E : Int) : List UInt8 := if rightR L P E s.V.length = true then logB s L.toNat else []
section
variable {w : World} {p bL bS bW : Nat} {s : St}
set_option maxHeartbeats 1000000 in
set_option maxRecDepth 100000 in
theorem parts_any (h : DskS w p bL bS bW s) (L P E : Int) :
    Calls Tryz.prog 110 #[.pointer (some ⟨p, 0, none⟩), rootV L P E] w (BoolPost (rightR L P E s.V.length) w) := by
  have hr0 : rootV L P E = .agg #[.int .i64 L, .int .i64 P, .int .u32 E] := rfl
  rw [hr0]
  go_enter Tryz.func110, Tryz.ntmps110
  go_wp2_with fail
  have hR := Whole.new w 58 [.int .i64 L, .int .i64 P, .int .u32 E]
  have hc1 : Chg [] w (w.alloc (.cells #[.int .i64 L, .int .i64 P, .int .u32 E] 58)) := (Chg.refl [] w).alloc _
  obtain ⟨g, hg⟩ : ∃ g, g = w.heap.size := ⟨_, rfl⟩
  rw [← hg] at hR ⊢
  generalize w.alloc (.cells #[.int .i64 L, .int .i64 P, .int .u32 E] 58) = w1 at hc1 hR ⊢
  clear hg
  have hld := fun (W : World) (hW : Chg [] w1.drew W) => root_cells (hR.drew.keep hW)
  have kd : ∀ W, Chg [] w1.drew W → DskS W p bL bS bW s := fun W hW => (Dsk.keep h hc1.drew).keep hW
  refine wp_flow (by kernel_rfl) plainT plainT_ok (by kernel_rfl) ?_
  refine flow_move_out plainT_ok rfl rfl rfl ?_
  refine flow2 (r := .bool true) plainT_ok rfl (.inn rfl) (.const _) rfl (fun ev W he e1 e2 => by go_simp) ?_
  refine flow_move plainT_ok rfl (keeps_isV _) (.inr (keeps_isV _)) rfl ?_
  refine flow1h (r := rootV L P E) plainT_ok rfl (.out rfl rfl) rfl (fun ev W he hW e1 => by obtain ⟨c0, c1, c2, _, _, _⟩ := hld W hW; go_simp) ?_
  refine flow_move_out plainT_ok rfl rfl rfl ?_
  refine flow_callv (.int .i64 (s.V.length : Int)) (by kernel_rfl) rfl (.cons (.inn rfl) .nil) (fun W hW => (len_any (kd W hW)).mono ?_) ?_
  · rintro e w' ⟨rfl, rfl⟩; exact ⟨rfl, Chg.refl _ _⟩
  refine flow_callv (.bool (rightR L P E s.V.length)) (by kernel_rfl) rfl (.cons (.inn rfl) (.cons (.inn rfl) .nil)) (fun W hW => (rright_any _ _ _ _).mono ?_) ?_
  · rintro e w' ⟨rfl, hc⟩; exact ⟨rfl, hc⟩
  refine flow_and plainT_ok rfl rfl rfl ?_
  refine flow_assign plainT_ok rfl (keeps_isV _) (.inr (keeps_isV _)) rfl ?_
  intro vs W hW hF
  have e4 : vs 4 = .bool (rightR L P E s.V.length) := hF 4 _ rfl rfl
  simp only [putAll, Act.put, List.setIfInBounds_toArray, List.set_cons_zero, List.set_cons_succ, e4]
  have HCW := Lib.hid (hc1.new (wdrew hW))
  clear hW hF hld hR hc1 kd e4
  go_wp2_with fail
  go_ret
  exact ⟨rfl, HCW.out⟩
set_option maxHeartbeats 1000000 in
set_option maxRecDepth 100000 in
theorem rbytes_any (h : DskS w p bL bS bW s) (L P E : Int) :
    Calls Tryz.prog 97 #[.pointer (some ⟨p, 0, none⟩), rootV L P E] w (BytesPost w (logL s L P E)) := by
  obtain ⟨iu, hui, huz, hus, hub⟩ := info_parts info_byte
  have hr0 : rootV L P E = .agg #[.int .i64 L, .int .i64 P, .int .u32 E] := rfl
  have H := Lib.hid h
  clear h
  rw [hr0]
  go_enter Tryz.func97, Tryz.ntmps97
  go_wp2_with fail
  have hR := Whole.new w 58 [.int .i64 L, .int .i64 P, .int .u32 E]
  have hc1 : Chg [] w (w.alloc (.cells #[.int .i64 L, .int .i64 P, .int .u32 E] 58)) := (Chg.refl [] w).alloc _
  obtain ⟨g, hg⟩ : ∃ g, g = w.heap.size := ⟨_, rfl⟩
  rw [← hg] at hR ⊢
  generalize w.alloc (.cells #[.int .i64 L, .int .i64 P, .int .u32 E] 58) = w1 at hc1 hR ⊢
  clear hg
  obtain ⟨c0, c1, c2, _, _, _⟩ := root_cells hR
  go_wp2_with fail
  refine (parts_any (Dsk.keep H.out hc1) L P E).mono ?_
  rintro e w2 ⟨rfl, hc2⟩
  have HC2 := Lib.hid (hc1.new hc2)
  have HR2 := Lib.hid (hR.keep hc2)
  clear hc1 hc2 hR c0 c1 c2
  cases hrr : rightR L P E s.V.length with
  | false =>
    have HF := Lib.hid (show logL s L P E = [] by unfold logL; rw [if_neg (by rw [hrr]; simp)])
    go_wp2_with fail
    go_ret
    rw [HF.out]
    exact ⟨_, rfl, own_nil _ _ _, HC2.out⟩
  | true =>
    have hrt := rightR_true.1 hrr
    obtain ⟨l, rfl⟩ := Int.eq_ofNat_of_zero_le (show 0 ≤ L by omega)
    have hl1 : 1 ≤ l := by omega
    have hl64 : l ≤ 64 := by omega
    have hlV : 2 + l ≤ s.V.length := by omega
    have HF := Lib.hid (show logL s l P E = logB s l by unfold logL; rw [if_pos hrr, Int.toNat_natCast])
    have HS := Lib.hid H.out.lenS
    obtain ⟨N, hN⟩ : ∃ N, N = l * 64 := ⟨_, rfl⟩
    have hNm := Lib.hid hN
    have hN4 : N ≤ 4096 := by omega
    have hmk : ∀ W : World, (Instr.makeSlice 30 (.int .i64 0) (.int .i64 (N : Int))).run Tryz.prog W = .ok (.slice (some ⟨W.heap.size, 0, none⟩) 0 N) (W.alloc (.cells (bts (zeros N)).toArray 5)) := by
      intro W
      rw [bts_zeros]
      exact run_make0 (P := Tryz.prog) 30 5 iu _ rfl Tryz.underlying30 hui huz hus N (by rw [hub]; omega) (by omega) W
    have hsz : sizeI (l : Int) = (N : Int) := by unfold sizeI; rw [if_neg (by omega), hN]; omega
    obtain ⟨c0, c1, c2, _, _, _⟩ := root_cells HR2.out
    clear hN hrt
    go_wp2_with fail
    refine (size_any (l : Int) P E (by omega)).mono ?_
    rintro e w3 ⟨rfl, hc3⟩
    rw [hsz]
    have HC3 := Lib.hid (HC2.out.new hc3)
    have HR3 := Lib.hid (HR2.out.keep hc3)
    clear hc3 c0 c1 c2 hsz
    obtain ⟨c0, c1, c2, _, _, _⟩ := root_cells HR3.out
    have d0 := cell_keep c0 ((Chg.refl [] w3).alloc (.cells (bts (zeros N)).toArray 5))
    go_wp2_with fail
    have hW := Whole.new w3 5 (bts (zeros N))
    have hal : Chg [] w3 (w3.alloc (.cells (bts (zeros N)).toArray 5)) := (Chg.refl [] w3).alloc _
    have ho0 : (w3.alloc (.cells (bts (zeros N)).toArray 5)).ownsRow w3.heap.size 5 1 (.slice (some ⟨w3.heap.size, 0, none⟩) 0 N) 0 [] := by
      have := own_of_whole (B := w3.heap.size) (n := 0) (c := N) hW (Nat.le_refl _) (by rw [bts_len, zeros_len]) (by omega) (by unfold maxLen; omega)
      simpa using this
    have HAL := Lib.hid hal
    have HR4 := Lib.hid (HR3.out.keep hal)
    have HC4 := Lib.hid (HC3.out.new hal)
    generalize w3.alloc (.cells (bts (zeros N)).toArray 5) = w4 at ho0 HR4 HC4 HAL ⊢
    obtain ⟨B3, hB3⟩ : ∃ B, B = w3.heap.size := ⟨_, rfl⟩
    rw [← hB3] at ho0 ⊢
    have HB3 := Lib.hid (show B3 ≤ w4.heap.size ∧ w.heap.size ≤ B3 by rw [hB3]; exact ⟨HAL.out.size, HC3.out.size⟩)
    clear hW hal hB3 c0 c1 c2 d0 HAL hmk

    go_loopw [5, 18] (fun v i wr => ∃ k : Nat, k ≤ l ∧ i = .int .i64 (k : Int) ∧ (∃ n, Hid (n = k * 64) ∧ wr.ownsRow B3 5 1 v n (bts (logB s k))) ∧ Hid (B3 ≤ wr.heap.size) ∧ Hid (Chg [] w wr)) (fun _ i _ => l - (intOf i).toNat)
    case atStart => exact ⟨0, by omega, rfl, ⟨0, Lib.hid rfl, by unfold logB; simpa [bts] using ho0⟩, Lib.hid HB3.out.1, HC4⟩
    case round =>
      obtain ⟨k, hk, rfl, ⟨n, Hn, hown⟩, HBr, HCr⟩ := hrel
      obtain ⟨Av, cv, rfl, hvl, hvc, _⟩ := own_slice hown
      by_cases hlt : k < l
      · have hkI : (k : Int) < (l : Int) := by omega
        obtain ⟨q, hq⟩ : ∃ q : Nat, (2 : Int) + (k : Int) = (q : Int) := ⟨2 + k, by omega⟩
        have HQ := Lib.hid (show q = 2 + k by omega)
        have hqV : q < s.V.length := by omega
        go_wp2_with fail
        refine (read_yes (Dsk.keep H.out HCr.out) q hqV).mono ?_
        rintro e w5 ⟨rfl, hW5, hc5⟩
        have hl5 : ((s.S.drop (q * 64)).take 64).length = 64 := by rw [List.length_take, List.length_drop, HS.out]; omega
        have HNX := Lib.hid (show logB s (k + 1) = logB s k ++ (s.S.drop (q * 64)).take 64 by rw [logB_next, HQ.out])
        have HS5 := Lib.hid (Src.of_all hW5)
        have hx1 := Lib.hid (show (bts ((s.S.drop (q * 64)).take 64)).length = 64 by rw [bts_len, hl5])
        have how := own_keep hown hc5
        have hn4 : n ≤ 4096 := by rw [Hn.out]; omega
        have hx2 := Lib.hid (show n + 64 ≤ maxLen by unfold maxLen; omega)
        have hx3 := Lib.hid (show (n + 64) * 1 ≤ 140737488355328 by omega)
        have hx4 := Lib.hid (show B3 ≤ w5.heap.size by have := HBr.out; have := hc5.size; omega)
        have HC5 := Lib.hid (HCr.out.new hc5)
        have h1 := bts_one ((s.S.drop (q * 64)).take 64)
        generalize (s.S.drop (q * 64)).take 64 = Z at hW5 HNX HS5 hx1 h1
        obtain ⟨g5, hg5⟩ : ∃ g, g = wr.heap.size := ⟨_, rfl⟩
        rw [← hg5] at HS5 ⊢
        clear hg5 hW5 hl5 hc5 hown
        go_wp2_with (at_builtin
                     refine wpList_append_src rfl (.tmp 28) (.tmp 29) 30 rfl B3 5 iu _ 1 Tryz.underlying30 hui huz hus hub cells_u8 (.slice Av n cv) n (bts (logB s k)) rfl how (some ⟨g5, 0, none⟩) 64 64 (bts Z) rfl hx1.out HS5.out h1 hx2.out hx3.out hx4.out ?_
                     intro v6 w6 ho6 hg6 _)
        have hc6 := HC5.out.own how HB3.out.2 hg6
        go_roundw
        case rel => exact ⟨k + 1, by omega, by go_num, ⟨n + 64, Lib.hid (by rw [Hn.out]; omega), by rw [HNX.out, bts_app]; exact ho6⟩, Lib.hid (Nat.le_trans hx4.out hg6.size), Lib.hid hc6⟩
        case measure => simp [intOf]; omega
      · have hkI : ¬ (k : Int) < (l : Int) := by omega
        have HK := Lib.hid (show k = l by omega)
        have HLen := Lib.hid (show (logB s l).length = n by rw [logB_len (by rw [HS.out]; omega), Hn.out, HK.out])
        clear hlt hk
        go_wp2_with fail
        go_ret
        rw [HF.out]
        refine ⟨_, rfl, ?_, HCr.out⟩
        rw [HLen.out, ← HK.out]
        exact own_more hown HB3.out.2
/-- May so many bytes go in? -/
def canA (s : St) (L P E at_ : Int) (n : Nat) : Prop := rightR L P E s.V.length = true ∧ 0 ≤ at_ ∧ at_ ≤ L * 64 ∧ (n : Int) ≤ L * 64 - at_
/-- What Append does. -/
def AppPost (w : World) (p bL bS bW : Nat) (s : St) (L P E at_ : Int) (l : List UInt8) (e : Ending) (w' : World) : Prop :=
  (canA s L P E at_ l.length ∧ e = .returned (.bool true) ∧ DskS w' p bL bS bW (apS s (128 + at_.toNat) l) ∧ Chg [bS, bW] w w') ∨
  (¬ canA s L P E at_ l.length ∧ e = .returned (.bool false) ∧ Chg [] w w')
set_option maxHeartbeats 2000000 in
set_option maxRecDepth 100000 in
theorem append_any (h : DskS w p bL bS bW s) (L P E at_ : Int) (hL0 : -9223372036854775808 ≤ at_) (hL1 : at_ ≤ 9223372036854775807) {A : Option Addr} {n c : Nat} {l : List UInt8} (hx : Bs w A n c l) (hA : 0 < n → ∀ ad, A = some ad → ad.block ≠ bS ∧ ad.block ≠ bW) :
    Calls Tryz.prog 72 #[.pointer (some ⟨p, 0, none⟩), rootV L P E, .int .i64 at_, .slice A n c] w (AppPost w p bL bS bW s L P E at_ l) := by
  have hr0 : rootV L P E = .agg #[.int .i64 L, .int .i64 P, .int .u32 E] := rfl
  have H := Lib.hid h
  have HX := Lib.hid hx
  have hln := hx.len
  have HA := Lib.hid hA
  have hnm := hx.le
  clear h hx hA
  rw [hr0]
  go_enter Tryz.func72, Tryz.ntmps72
  go_wp2_with fail
  have hR := Whole.new w 58 [.int .i64 L, .int .i64 P, .int .u32 E]
  have hc1 : Chg [] w (w.alloc (.cells #[.int .i64 L, .int .i64 P, .int .u32 E] 58)) := (Chg.refl [] w).alloc _
  obtain ⟨g, hg⟩ : ∃ g, g = w.heap.size := ⟨_, rfl⟩
  rw [← hg] at hR ⊢
  generalize w.alloc (.cells #[.int .i64 L, .int .i64 P, .int .u32 E] 58) = w1 at hc1 hR ⊢
  clear hg
  obtain ⟨c0, c1, c2, _, _, _⟩ := root_cells hR
  go_wp2_with fail
  refine (parts_any (Dsk.keep H.out hc1) L P E).mono ?_
  rintro e w2 ⟨rfl, hc2⟩
  have HC2 := Lib.hid (hc1.new hc2)
  have HR2 := Lib.hid (hR.keep hc2)
  clear hc1 hc2 hR c0 c1 c2
  have HLN := Lib.hid hln
  clear hln
  cases hrr : rightR L P E s.V.length with
  | false =>
    have HF := Lib.hid (show ¬ canA s L P E at_ l.length from fun h => by have := h.1; rw [hrr] at this; cases this)
    go_wp2_with fail
    go_ret
    exact .inr ⟨HF.out, rfl, HC2.out⟩
  | true =>
    have hrt := rightR_true.1 hrr
    have hl1 : 1 ≤ L := hrt.1
    have hl64 : L ≤ 64 := hrt.2.1
    have hlV := Lib.hid (show 2 + L + P ≤ s.V.length ∧ 1 ≤ P from ⟨hrt.2.2.2.2.1, hrt.2.2.1⟩)
    have HCA := Lib.hid (show canA s L P E at_ l.length ↔ (0 ≤ at_ ∧ at_ ≤ L * 64 ∧ (n : Int) ≤ L * 64 - at_) by unfold canA; rw [hrr, HLN.out]; simp)
    have hsz : sizeI L = L * 64 := by unfold sizeI; rw [if_neg (by omega)]
    clear hrt
    by_cases ha0 : at_ < 0
    · have HF := Lib.hid (show ¬ canA s L P E at_ l.length from fun h => by have := (HCA.out.1 h).1; omega)
      go_wp2_with fail
      go_ret
      exact .inr ⟨HF.out, rfl, HC2.out⟩
    obtain ⟨a, rfl⟩ := Int.eq_ofNat_of_zero_le (show 0 ≤ at_ by omega)
    have ha0' : ¬ ((a : Int) < 0) := ha0
    clear ha0 hL0
    obtain ⟨c0, c1, c2, _, _, _⟩ := root_cells HR2.out
    go_wp2_with fail
    refine (size_any L P E (by omega)).mono ?_
    rintro e w3 ⟨rfl, hc3⟩
    rw [hsz]
    have HC3 := Lib.hid (HC2.out.new hc3)
    have HR3 := Lib.hid (HR2.out.keep hc3)
    clear hc3 c0 c1 c2
    obtain ⟨N, hN, hN4⟩ : ∃ N : Nat, L * 64 = (N : Int) ∧ N ≤ 4096 := ⟨(L * 64).toNat, by omega, by omega⟩
    rw [hN]
    rw [hN] at hsz HCA
    have HNN := Lib.hid hN
    clear hN
    by_cases ha1 : (N : Int) < (a : Int)
    · have HF := Lib.hid (show ¬ canA s L P E a l.length from fun h => by have := (HCA.out.1 h).2.1; omega)
      go_wp2_with fail
      go_ret
      exact .inr ⟨HF.out, rfl, HC3.out⟩
    have haN : a ≤ N := by omega
    obtain ⟨c0, c1, c2, _, _, _⟩ := root_cells HR3.out
    go_wp2_with fail
    refine (size_any L P E (by omega)).mono ?_
    rintro e w4 ⟨rfl, hc4⟩
    rw [hsz]
    have HC4 := Lib.hid (HC3.out.new hc4)
    clear hc4 c0 c1 c2 hsz
    by_cases hn1 : (N : Int) - (a : Int) < (n : Int)
    · have HF := Lib.hid (show ¬ canA s L P E a l.length from fun h => by have := (HCA.out.1 h).2.2; omega)
      go_wp2_with fail
      go_ret
      exact .inr ⟨HF.out, rfl, HC4.out⟩
    have hnN : a + n ≤ N := by omega
    have HY := Lib.hid (HCA.out.2 ⟨by omega, by omega, by omega⟩)
    have HDs := Lib.hid (show 128 + N ≤ s.S.length ∧ s.S.length = 64 * s.V.length by have := H.out.lenS; have := hlV.out; have := HNN.out; omega)
    have h0 : apS s (128 + a) (l.take 0) = s := by rw [List.take_zero]; exact apS_nil s _ (by have := HDs.out; omega)
    have HD4 : Hid (DskS w4 p bL bS bW (apS s (128 + a) (l.take 0))) := Lib.hid (by rw [h0]; exact Dsk.keep H.out HC4.out)
    have HX4 : Hid (Bs w4 A (n - 0) c (l.drop 0)) := Lib.hid (HX.out.keep HC4.out)
    have HC4' := Lib.hid (HC4.out.sub (T' := [bS, bW]) (by simp))
    have hlt4 := Lib.hid (show bS < w4.heap.size ∧ bW < w4.heap.size by have hd : Dsk w4 p bL bS bW _ _ _ := HD4.out; exact ⟨hd.seen.lt, hd.wait.lt⟩)
    have hd1 : decide ((a : Int) < 0) = false := decide_eq_false (by omega)
    have hd2 : decide ((N : Int) < (a : Int)) = false := decide_eq_false (by omega)
    have hd3 : decide (N < a) = false := decide_eq_false (by omega)
    have hd4 : decide ((N : Int) - (a : Int) < (n : Int)) = false := decide_eq_false (by omega)
    clear h0 haN
    go_wp2_with fail
    go_loopw [2, 3] (fun v b wr => ∃ k : Nat, k ≤ n ∧ v = .int .i64 ((a + k : Nat) : Int) ∧ (∃ A' c', b = .slice A' (n - k) c' ∧ Hid (Bs wr A' (n - k) c' (l.drop k)) ∧ Hid (0 < n → ∀ ad, A' = some ad → ad.block ≠ bS ∧ ad.block ≠ bW)) ∧ Hid (DskS wr p bL bS bW (apS s (128 + a) (l.take k))) ∧ Hid (Chg [bS, bW] w wr)) (fun v _ _ => a + n - (intOf v).toNat)
    case atStart => exact ⟨0, by omega, rfl, ⟨_, _, rfl, HX4, HA⟩, HD4, HC4'⟩
    case round =>
      obtain ⟨k, hk, rfl, ⟨A', c', rfl, HXk, HAk⟩, HDk, HCk⟩ := hrel
      clear HD4 HX4 HC4'
      by_cases hlt : k < n
      · obtain ⟨m, hm, hm0⟩ : ∃ m, m = n - k ∧ 0 < m := ⟨_, rfl, by omega⟩
        rw [← hm] at HXk ⊢
        have HM := Lib.hid hm
        have hm0I : (0 : Int) < (m : Int) := by omega
        have hm5 : m ≤ 4096 := by omega
        obtain ⟨ad, rfl, _, _⟩ := HXk.out.src (by rw [bts_len, HXk.out.len]; omega)
        obtain ⟨bb, oo, sb⟩ := ad
        obtain rfl : sb = none := HXk.out.spot hm0 _ rfl
        obtain ⟨x, hx, hxN⟩ : ∃ x, x = a + k ∧ x < 4096 := ⟨_, rfl, by omega⟩
        rw [← hx]
        have HXe := Lib.hid hx
        obtain ⟨q0, hq0⟩ : ∃ q0, q0 = x / 64 := ⟨_, rfl⟩
        obtain ⟨f, hf, hf64⟩ : ∃ f, f = x % 64 ∧ f < 64 := ⟨_, rfl, Nat.mod_lt _ (by omega)⟩
        have hdiv : (x : Int).tdiv 64 = (q0 : Int) := by rw [Int.tdiv_eq_ediv_of_nonneg (by omega)]; omega
        have hmod : (x : Int).tmod 64 = (f : Int) := by rw [Int.tmod_eq_emod_of_nonneg (by omega)]; omega
        obtain ⟨q, hq⟩ : ∃ q : Nat, (2 : Int) + (q0 : Int) = (q : Int) := ⟨2 + q0, by omega⟩
        have HQ := Lib.hid (show q * 64 + f = 128 + a + k by omega)
        have hqV : q < (apS s (128 + a) (l.take k)).V.length := by rw [apS_V]; have := HDs.out; omega
        have hq063 : q0 ≤ 63 := by omega
        clear hq0 hf hm hx
        go_wp2_with fail
        refine (read_yes HDk.out q hqV).mono ?_
        rintro e w5 ⟨rfl, hW5, hc5⟩
        have hSl : (apS s (128 + a) (l.take k)).S.length = s.S.length := splice_len _ _ _ (by rw [List.length_take]; have := HDs.out; have := HLN.out; omega)
        have hl5 : (((apS s (128 + a) (l.take k)).S.drop (q * 64)).take 64).length = 64 := by rw [List.length_take, List.length_drop, hSl]; rw [apS_V] at hqV; have := HDs.out; omega
        obtain ⟨n', hn', hn'1, hn'2, hn'3⟩ : ∃ n', n' = min m (64 - f) ∧ n' ≤ m ∧ f + n' ≤ 64 ∧ 0 < n' := ⟨_, rfl, by omega, by omega, by omega⟩
        have hHl : 128 + a + l.length ≤ s.S.length := by have := HDs.out; have := HLN.out; omega
        have HSA := Lib.hid (sect_app (S := s.S) (b := l) (a := 128 + a) (k := k) (m := n') (q := q) (f := f) hHl (by rw [HLN.out]; have := HM.out; omega) HQ.out hn'2 (by rw [apS_V] at hqV; have := HDs.out; omega))
        have HST := Lib.hid (apS_step (s := s) (a := 128 + a) (b := l) (k := k) (k' := k + n') (q := q) HDs.out.2 hHl (by omega) (by rw [HLN.out]; have := HM.out; omega) (by have := HQ.out; omega) (by have := HQ.out; omega) (by have := HQ.out; omega) rfl)
        have hcl := Lib.hid (show (bts ((l.drop k).take n')).length = n' by rw [bts_len, List.length_take, List.length_drop, HLN.out]; have := HM.out; omega)
        have hff : f + (bts ((l.drop k).take n')).length ≤ (bts (((apS s (128 + a) (l.take k)).S.drop (q * 64)).take 64)).length := by rw [bts_len, bts_len, hl5, List.length_take]; omega
        have hs5 : Src w5 (some ⟨bb, oo, none⟩) (bts ((l.drop k).take n')) := by have := ((HXk.out.keep hc5).take (m := n') hn'1).src; exact this
        have h1 := bts_one ((l.drop k).take n')
        have hspl := Lib.hid (show splice (bts (((apS s (128 + a) (l.take k)).S.drop (q * 64)).take 64)) f (bts ((l.drop k).take n')) = bts (((splice s.S (128 + a) (l.take (k + n'))).drop (q * 64)).take 64) by rw [bts_splice, ← HSA.out]; rfl)
        have hxl := Lib.hid (show (((splice s.S (128 + a) (l.take (k + n'))).drop (q * 64)).take 64).length = 64 by rw [List.length_take, List.length_drop, splice_len _ _ _ (by rw [List.length_take]; have := HLN.out; have := HM.out; omega)]; rw [apS_V] at hqV; have := HDs.out; omega)
        have HDk5 := Lib.hid (Dsk.keep HDk.out hc5)
        have HXk5 := Lib.hid (HXk.out.keep hc5)
        have HCk5 := Lib.hid (HCk.out.trans (hc5.sub (by simp)))
        have HW5 := hW5
        generalize bts (((apS s (128 + a) (l.take k)).S.drop (q * 64)).take 64) = Y5 at HW5 hff hspl
        generalize bts ((l.drop k).take n') = Z5 at hcl hff hs5 h1 hspl
        obtain ⟨g5, hg5⟩ : ∃ g, g = wr.heap.size := ⟨_, rfl⟩
        rw [← hg5] at HW5 ⊢
        have HG5 := Lib.hid hg5
        have hz5 := Lib.hid (show wr.heap.size < w5.heap.size from hg5 ▸ HW5.lt)
        have hc64 : ¬ (64 : Nat) = f := by omega
        clear hg5 hW5 hc5 hSl hl5 HSA
        have hcl2 := Lib.hid (show Z5.length = Nat.min m (64 - f) by rw [hcl.out, hn'])
        have HN' := Lib.hid hn'
        clear hn'
        go_wp2_with (with_reducible refine wpList_copy_chg rfl (.tmp 53) (.tmp 54) _ _ rfl 5 Tryz.underlying30 size_u8 (some ⟨g5, f, none⟩) (some ⟨bb, oo, none⟩) (64 - f) (64 - f) m c' rfl rfl g5 f 5 Y5 Z5 HW5 hcl2.out (fun _ => rfl) hs5 hff h1 ?_
                     intro w6 HG6 HC6)
        rw [hspl.out] at HG6
        have hd5 : Dsk w5 p bL bS bW _ _ _ := HDk5.out
        have hne : p ≠ g5 ∧ bL ≠ g5 ∧ bS ≠ g5 ∧ bW ≠ g5 := by
          have hd : Dsk wr p bL bS bW _ _ _ := HDk.out
          have h1 := hd.rec_.lt; have h2 := hd.last.lt; have h3 := hd.seen.lt; have h4 := hd.wait.lt
          have := HG5.out
          exact ⟨by omega, by omega, by omega, by omega⟩
        have HD6 : Hid (DskS w6 p bL bS bW (apS s (128 + a) (l.take k))) := Lib.hid (hd5.away HC6 (by simp; exact hne.1) (by simp; exact hne.2.1) (by simp; exact hne.2.2.1) (by simp; exact hne.2.2.2))
        have hbg : bb ≠ g5 := by
          obtain ⟨ad, e, hb, _⟩ := HXk.out.src (by rw [bts_len, HXk.out.len]; exact hm0)
          injection e with e
          have := HG5.out
          rw [← e] at hb
          have hb' : bb < wr.heap.size := hb
          omega
        have HX6 := Lib.hid (show Bs w6 (some ⟨bb, oo, none⟩) m c' (l.drop k) from ⟨HXk5.out.len, HXk5.out.src.chg HC6 (fun _ ad e => by injection e with e; subst e; simp; exact hbg), HXk5.out.cap, HXk5.out.max, HXk5.out.spot⟩)
        have HC6' := Lib.hid (show Chg [bS, bW] w w6 from HCk5.out.then_ HC6 fun i hi hlt => by
          simp only [List.mem_cons, List.not_mem_nil, or_false] at hi
          have h1 := HG5.out
          have h2 := HCk.out.size
          omega)
        have hs6 := Lib.hid (Src.of_all HG6)
        have hZl : (Z5.length : Int) = (n' : Int) := by rw [hcl.out]
        rw [hZl]
        clear hd5 hne hbg HG6 HC6 hs5 hff h1 hspl HW5 hZl HDk5 HXk5 HCk5
        refine (write_yes HD6.out q hqV hxl.out hs6.out).mono ?_
        rintro e w7 ⟨rfl, hD7, hc7⟩
        have HD7 : Hid (DskS w7 p bL bS bW (apS s (128 + a) (l.take (k + n')))) := Lib.hid (by rw [← HST.out]; exact hD7)
        have HC7 := Lib.hid (HC6'.out.trans hc7)
        have HX7 := Lib.hid (show Bs w7 (some ⟨bb, oo, none⟩) m c' (l.drop k) from ⟨HX6.out.len, HX6.out.src.chg hc7 (fun _ ad e => by have := HAk.out (by omega) ad e; exact not2' this.1 this.2), HX6.out.cap, HX6.out.max, HX6.out.spot⟩)
        have hcut := HX7.out.cut (lo := n') (hi := m) hn'1 (Nat.le_refl _)
        rw [show ((l.drop k).drop n').take (m - n') = (l.drop k).drop n' from List.take_of_length_le (by rw [List.length_drop, HX7.out.len]; exact Nat.le_refl _)] at hcut
        have hcap' := HX7.out.cap
        have hmc : ¬ c' < m := by omega
        have hmc2 : ¬ m < n' := by omega
        have hmI : (n' : Int) ≤ (m : Int) := by omega
        have hwx : IntKind.i64.wrap ((x : Int) + (n' : Int)) = (x : Int) + (n' : Int) := by simp [IntKind.wrap, IntKind.signed, IntKind.bits]; omega
        clear hD7 hc7 hqV
        by_cases hcc : c' = n'
        · rw [if_pos hcc] at hcut
          have HXc := Lib.hid hcut
          clear hcut
          go_wp2_with fail
          refine wp_flow (by kernel_rfl) plainT plainT_ok (by kernel_rfl) ?_
          refine flow_move_out plainT_ok rfl rfl rfl ?_
          refine flow_move_out plainT_ok rfl rfl rfl ?_
          refine flow2 (r := .int .i64 ((x + n' : Nat) : Int)) plainT_ok rfl (.inn rfl) (.inn rfl) rfl (fun ev W he e1 e2 => by go_simp) ?_
          refine flow_move_out plainT_ok rfl rfl rfl ?_
          refine flow_move_out plainT_ok rfl rfl rfl ?_
          refine flow_slice_lo (r := .slice (some ⟨bb, oo, none⟩) (m - n') (c' - n')) plainT_ok (.inn rfl) (.inn rfl) (fun ev W he e1 e2 => by go_simp) rfl ?_
          refine flow_assign plainT_ok rfl (keeps_isV _) (.inr (keeps_isV _)) rfl ?_
          refine flow_assign plainT_ok rfl (keeps_isV _) (.inr (keeps_isV _)) rfl ?_
          intro vs W hW hF
          have e2 : vs 2 = .int .i64 ((x + n' : Nat) : Int) := hF 2 _ rfl rfl
          have e3 : vs 3 = .slice (some ⟨bb, oo, none⟩) (m - n') (c' - n') := hF 3 _ rfl rfl
          simp only [putAll, Act.put, List.setIfInBounds_toArray, List.set_cons_zero, List.set_cons_succ, e2, e3]
          have HCW := Lib.hid (wdrew hW)
          clear hW hF e2 e3
          go_wp2_with fail
          go_roundw
          case rel =>
            have hc := HM.out
            refine ⟨k + n', by omega, by rw [HXe.out, Nat.add_assoc], ⟨_, _, by rw [show n - (k + n') = m - n' by omega], Lib.hid ?_, Lib.hid ?_⟩, Lib.hid (Dsk.keep HD7.out HCW.out), Lib.hid (HC7.out.trans (HCW.out.sub (by simp)))⟩
            · have := HXc.out.keep HCW.out
              rw [List.drop_drop] at this
              rw [show n - (k + n') = m - n' by omega]
              exact this
            · intro h0 ad e; injection e with e; subst e; exact HAk.out h0 ⟨bb, oo, none⟩ rfl
          case measure => have := HM.out; have := HXe.out; simp [intOf]; omega
        · rw [if_neg hcc, Option.map_some, add_plain] at hcut
          have HXc := Lib.hid hcut
          clear hcut
          go_wp2_with fail
          refine wp_flow (by kernel_rfl) plainT plainT_ok (by kernel_rfl) ?_
          refine flow_move_out plainT_ok rfl rfl rfl ?_
          refine flow_move_out plainT_ok rfl rfl rfl ?_
          refine flow2 (r := .int .i64 ((x + n' : Nat) : Int)) plainT_ok rfl (.inn rfl) (.inn rfl) rfl (fun ev W he e1 e2 => by go_simp) ?_
          refine flow_move_out plainT_ok rfl rfl rfl ?_
          refine flow_move_out plainT_ok rfl rfl rfl ?_
          refine flow_slice_lo (r := .slice (some ⟨bb, oo + n', none⟩) (m - n') (c' - n')) plainT_ok (.inn rfl) (.inn rfl) (fun ev W he e1 e2 => by go_simp) rfl ?_
          refine flow_assign plainT_ok rfl (keeps_isV _) (.inr (keeps_isV _)) rfl ?_
          refine flow_assign plainT_ok rfl (keeps_isV _) (.inr (keeps_isV _)) rfl ?_
          intro vs W hW hF
          have e2 : vs 2 = .int .i64 ((x + n' : Nat) : Int) := hF 2 _ rfl rfl
          have e3 : vs 3 = .slice (some ⟨bb, oo + n', none⟩) (m - n') (c' - n') := hF 3 _ rfl rfl
          simp only [putAll, Act.put, List.setIfInBounds_toArray, List.set_cons_zero, List.set_cons_succ, e2, e3]
          have HCW := Lib.hid (wdrew hW)
          clear hW hF e2 e3
          go_wp2_with fail
          go_roundw
          case rel =>
            have hc := HM.out
            refine ⟨k + n', by omega, by rw [HXe.out, Nat.add_assoc], ⟨_, _, by rw [show n - (k + n') = m - n' by omega], Lib.hid ?_, Lib.hid ?_⟩, Lib.hid (Dsk.keep HD7.out HCW.out), Lib.hid (HC7.out.trans (HCW.out.sub (by simp)))⟩
            · have := HXc.out.keep HCW.out
              rw [List.drop_drop] at this
              rw [show n - (k + n') = m - n' by omega]
              exact this
            · intro h0 ad e; injection e with e; subst e; exact HAk.out h0 ⟨bb, oo, none⟩ rfl
          case measure => have := HM.out; have := HXe.out; simp [intOf]; omega
      · have hk0 : ¬ (0 : Int) < ((n - k : Nat) : Int) := by omega
        have HK := Lib.hid (show l.take k = l from List.take_of_length_le (by rw [HLN.out]; omega))
        obtain ⟨m, hm⟩ : ∃ m, m = n - k := ⟨_, rfl⟩
        rw [← hm] at hk0 ⊢
        clear hm hlt
        go_wp2_with fail
        go_ret
        refine .inl ⟨HY.out, rfl, ?_, HCk.out⟩
        have := HDk.out
        rw [HK.out] at this
        rw [Int.toNat_natCast]
        exact this
end
end Go.Proofs.YtddjgncdjdjgeaaGreat
