/-
  K: HomeAll, RedoRefL.
-/
import Derived.Test.YtddjgncdjdjgeaaZK2
import Derived.Test.YtddjgncdjdjgeaaZK6
import Derived.Test.YtddjgncdjdjgeaaZK13
import Derived.Test.YtddjgncdjdjgeaaZK17
namespace Go.Proofs.Ytddjgncdjdjgeaa
open Go.RowKit
/-- The first n pages. -/
def pagesL (s : St) (L : Int) (n : Nat) : List (List UInt8) := (List.range n).map fun i => sectL s.S s.V.length (2 + L.toNat + i)
/-- All pages, or none. -/
def allL (s : St) (L P E : Int) : List (List UInt8) := if rightR L P E s.V.length = true then pagesL s L P.toNat else []
theorem pagesL_next (s : St) (L : Int) (n : Nat) : pagesL s L (n + 1) = pagesL s L n ++ [sectL s.S s.V.length (2 + L.toNat + n)] := by
  unfold pagesL; rw [List.range_succ, List.map_append]; rfl
theorem pagesL_len (s : St) (L : Int) (n : Nat) : (pagesL s L n).length = n := by simp [pagesL]
theorem hasR_at {L P E : Int} {n k : Nat} (h : rightR L P E n = true) (hk : (k : Int) < P) : hasR L P E k n = true ∧ (homeI L P k).toNat = 2 + L.toNat + k ∧ 2 + L.toNat + k < n ∧ homeI L P k = ((2 + L.toNat + k : Nat) : Int) := by
  have h1 := hasR_in (i := k) h (by omega) hk
  obtain ⟨a, b, c, d, e, f⟩ := rightR_true.1 h
  have e1 := homeI_in (L := L) (P := P) (i := k) a b d (by omega) hk
  exact ⟨h1, by rw [e1]; omega, by omega, by rw [e1]; omega⟩
/-- Rows of the call's own. -/
def RowsPost (w : World) (ls : List (List UInt8)) (e : Ending) (w' : World) : Prop :=
  ∃ v vs, e = .returned v ∧ w'.ownsRow w.heap.size 44 1 v ls.length vs ∧ Rows w.heap.size w' vs ls ∧ Chg [] w w'
section
variable {w : World} {p bL bS bW : Nat} {s : St}
set_option maxHeartbeats 1000000 in
set_option maxRecDepth 100000 in
theorem hall_any (h : DskS w p bL bS bW s) (L P E : Int) :
    Calls Try.prog 32 #[.pointer (some ⟨p, 0, none⟩), rootV L P E] w (RowsPost w (allL s L P E)) := by
  obtain ⟨i0, hi, hz, hs1, hb⟩ := info_parts info_bytes
  have hr0 : rootV L P E = .agg #[.int .i64 L, .int .i64 P, .int .u32 E] := rfl
  have H := Lib.hid h
  clear h
  rw [hr0]
  go_enter Try.func32, Try.ntmps32
  go_wp2_with fail
  have hR := Whole.new w 61 [.int .i64 L, .int .i64 P, .int .u32 E]
  have hc1 : Chg [] w (w.alloc (.cells #[.int .i64 L, .int .i64 P, .int .u32 E] 61)) := (Chg.refl [] w).alloc _
  obtain ⟨g, hg⟩ : ∃ g, g = w.heap.size := ⟨_, rfl⟩
  rw [← hg] at hR ⊢
  generalize w.alloc (.cells #[.int .i64 L, .int .i64 P, .int .u32 E] 61) = w1 at hc1 hR ⊢
  clear hg
  obtain ⟨c0, c1, c2, _, _, _⟩ := root_cells hR
  go_wp2_with fail
  clear c0 c1 c2
  cases hrr : rightR L P E s.V.length with
  | false =>
    have HF := Lib.hid (show allL s L P E = [] by unfold allL; rw [if_neg (by rw [hrr]; simp)])
    go_loopw [5, 11] (fun v i wr => v = .slice none 0 0 ∧ i = .int .i64 0 ∧ Chg [] w1 wr) (fun _ _ _ => 0)
    case atStart => exact ⟨rfl, rfl, Chg.refl _ _⟩
    case round =>
      obtain ⟨rfl, rfl, hcr⟩ := hrel
      by_cases hP : 0 < P
      · obtain ⟨c0, c1, c2, _, _, _⟩ := root_cells (hR.keep hcr)
        go_wp2_with fail
        refine (hpage_any (Dsk.keep H.out (hc1.new hcr)) L P E 0).mono ?_
        rintro e w2 (⟨hyes, _⟩ | ⟨_, rfl, hc2⟩)
        · rw [hasR_wrong hrr] at hyes; cases hyes
        clear c0 c1 c2
        go_wp2_with fail
        go_ret
        rw [HF.out]
        exact ⟨_, [], rfl, own_nil _ _ _, Rows.nil _ _, (hc1.new hcr).new hc2⟩
      · go_wp2_with fail
        go_ret
        rw [HF.out]
        exact ⟨_, [], rfl, own_nil _ _ _, Rows.nil _ _, hc1.new hcr⟩
  | true =>
    have hP1 : 1 ≤ P := (rightR_true.1 hrr).2.2.1
    have hP64 : P ≤ 64 := (rightR_true.1 hrr).2.2.2.1
    have HF := Lib.hid (show allL s L P E = pagesL s L P.toNat by unfold allL; rw [if_pos hrr])
    go_loopw [5, 11] (fun v i wr => ∃ k : Nat, ∃ vs, (k : Int) ≤ P ∧ i = .int .i64 (k : Int) ∧ wr.ownsRow w1.heap.size 44 1 v k vs ∧ Rows w.heap.size wr vs (pagesL s L k) ∧ Chg [] w1 wr) (fun _ i _ => P.toNat - (intOf i).toNat)
    case atStart => exact ⟨0, [], by omega, rfl, own_nil _ _ _, Rows.nil _ _, Chg.refl _ _⟩
    case round =>
      obtain ⟨k, vs, hk, rfl, hown, hrows, hcr⟩ := hrel
      obtain ⟨Av, cv, rfl, hvl, hvc, _⟩ := own_slice hown
      have hcw := Lib.hid (hc1.new hcr)
      by_cases hlt : (k : Int) < P
      · obtain ⟨hh, hx, -, -⟩ := hasR_at hrr hlt
        have HX := Lib.hid hx
        clear hx
        obtain ⟨c0, c1, c2, _, _, _⟩ := root_cells (hR.keep hcr)
        go_wp2_with fail
        refine (hpage_any (Dsk.keep H.out hcw.out) L P E k).mono ?_
        rintro e w2 (⟨_, v2, rfl, ho2, hc2⟩ | ⟨hno, _⟩)
        rotate_left
        · rw [hh] at hno; cases hno
        rw [HX.out] at ho2
        obtain ⟨A2, c2', rfl, _⟩ := own_slice ho2
        have how := own_keep hown hc2
        have hrw := hrows.keep hc2
        have hb2 := Nat.le_trans hcr.size hc2.size
        have hx1 := Lib.hid (show k + 1 ≤ maxLen by unfold maxLen; omega)
        have hx2 := Lib.hid (show (k + 1) * 24 ≤ 140737488355328 by omega)
        have hx3 := Lib.hid hb2
        clear c0 c1 c2 hb2
        go_wp2_with (at_builtin
                     refine wpList_append_src rfl (.tmp 23) (.tmp 25) 36 rfl w1.heap.size 44 i0 _ 24 Try.underlying36 hi hz hs1 hb cells_slice (.slice Av k cv) k vs rfl (own_keep how ((Chg.refl _ _).alloc _)) (some ⟨w2.heap.size, 0, none⟩) 1 1 [.slice A2 64 c2'] rfl rfl (Src.of_all (Whole.new w2 44 [.slice A2 64 c2'])) (fun u hu => by simp at hu; rw [hu]; rfl) hx1.out hx2.out (by simp; have := hx3.out; omega) ?_
                     intro v4 w4 ho4 hg4 _)
        have hlen := sectL_len (k := 2 + L.toNat + k) H.out.lenS (hasR_at hrr hlt).2.2.1
        have hch1 : Chg [] w1 w4 := ((hcr.new hc2).alloc _).own (own_keep how ((Chg.refl _ _).alloc _)) (Nat.le_refl _) hg4
        go_roundw
        case rel =>
          refine ⟨k + 1, _, by omega, by go_num, ho4, ?_, hch1⟩
          rw [pagesL_next]
          exact ((hrw.keep ((Chg.refl _ _).alloc _)).snoc (by rw [hlen]; exact own_more (own_keep ho2 ((Chg.refl _ _).alloc _)) hcw.out.size)).grown (own_keep how ((Chg.refl _ _).alloc _)) hg4
        case measure => simp [intOf]; omega
      · go_wp2_with fail
        go_ret
        rw [HF.out]
        have hkP : P.toNat = k := by omega
        rw [hkP]
        exact ⟨_, vs, rfl, by rw [pagesL_len]; exact own_more hown hc1.size, hrows, hcw.out⟩
end
end Go.Proofs.Ytddjgncdjdjgeaa
namespace Go.Proofs.Ytddjgncdjdjgeaa
open Go.RowKit
section
variable {w : World} {p gL gN gW : Nat} {rL rN : List Value} {m : Int} {s : St}
set_option maxHeartbeats 2000000 in
set_option maxRecDepth 100000 in
theorem rlog_nil (h : Rfd w p gL gN gW rL rN m s) (L P E : Int) :
    Calls Try.prog 52 #[.pointer (some ⟨p, 0, none⟩), rootV L P E] w fun e w' => BytesPost w (logL s L P E) e w' ∧ (rightR L P E s.V.length = false → e = .returned (.slice none 0 0)) := by
  obtain ⟨iu, hui, huz, hus, hub⟩ := info_parts info_byte
  have hr0 : rootV L P E = .agg #[.int .i64 L, .int .i64 P, .int .u32 E] := rfl
  have H := Lib.hid h
  clear h
  rw [hr0]
  go_enter Try.func52, Try.ntmps52
  go_wp2_with fail
  have hR := Whole.new w 61 [.int .i64 L, .int .i64 P, .int .u32 E]
  have hc1 : Chg [] w (w.alloc (.cells #[.int .i64 L, .int .i64 P, .int .u32 E] 61)) := (Chg.refl [] w).alloc _
  obtain ⟨g, hg⟩ : ∃ g, g = w.heap.size := ⟨_, rfl⟩
  rw [← hg] at hR ⊢
  generalize w.alloc (.cells #[.int .i64 L, .int .i64 P, .int .u32 E] 61) = w1 at hc1 hR ⊢
  clear hg
  have hld := fun (W : World) (hW : Chg [] w1.drew W) => root_cells (hR.drew.keep hW)
  cases hrr : rightR L P E s.V.length with
  | false =>
    have HF := Lib.hid (show logL s L P E = [] by unfold logL; rw [if_neg (by rw [hrr]; simp)])
    refine wp_flow (by kernel_rfl) plainT plainT_ok (by kernel_rfl) ?_
    refine flow1h (r := rootV L P E) plainT_ok rfl (.out rfl rfl) rfl (fun ev W he hW e1 => by obtain ⟨c0, c1, c2, _, _, _⟩ := hld W hW; go_simp) ?_
    refine flow_move_out plainT_ok rfl rfl rfl ?_
    refine flow_callv (.int .i64 (s.V.length : Int)) (by kernel_rfl) rfl (.cons (.inn rfl) .nil) (fun W hW => (rlen_any ((H.out.keep hc1.drew).keep hW)).mono ?_) ?_
    · rintro e w' ⟨rfl, rfl⟩; exact ⟨rfl, Chg.refl _ _⟩
    refine flow_callv (.bool false) (by kernel_rfl) rfl (.cons (.inn rfl) (.cons (.inn rfl) .nil)) (fun W hW => (rrright_any _ _ _ _).mono ?_) ?_
    · rintro e w' ⟨rfl, hc⟩; exact ⟨by rw [hrr], hc⟩
    refine flow1 (r := .bool true) plainT_ok rfl (.inn rfl) rfl (fun ev W he e1 => by go_simp) ?_
    intro vs W hW hF
    have e13 : vs 13 = .bool true := hF 13 _ rfl rfl
    simp only [putAll, Act.put, List.setIfInBounds_toArray, List.set_cons_zero, List.set_cons_succ, e13]
    have HCW := Lib.hid (hc1.drew.new hW)
    clear hF hld hW
    go_wp2_with fail
    go_ret
    rw [HF.out]
    exact ⟨⟨_, rfl, own_nil _ _ _, HCW.out⟩, fun _ => rfl⟩
  | true =>
    have hrt := rightR_true.1 hrr
    obtain ⟨l, rfl⟩ := Int.eq_ofNat_of_zero_le (show 0 ≤ L by omega)
    have hl1 : 1 ≤ l := by omega
    have hl64 : l ≤ 64 := by omega
    have hlV : 2 + l ≤ s.V.length := by omega
    have HF := Lib.hid (show logL s l P E = logB s l by unfold logL; rw [if_pos hrr, Int.toNat_natCast])
    have HS := Lib.hid H.out.lenS
    refine wp_flow (by kernel_rfl) plainT plainT_ok (by kernel_rfl) ?_
    refine flow1h (r := rootV l P E) plainT_ok rfl (.out rfl rfl) rfl (fun ev W he hW e1 => by obtain ⟨c0, c1, c2, _, _, _⟩ := hld W hW; go_simp) ?_
    refine flow_move_out plainT_ok rfl rfl rfl ?_
    refine flow_callv (.int .i64 (s.V.length : Int)) (by kernel_rfl) rfl (.cons (.inn rfl) .nil) (fun W hW => (rlen_any ((H.out.keep hc1.drew).keep hW)).mono ?_) ?_
    · rintro e w' ⟨rfl, rfl⟩; exact ⟨rfl, Chg.refl _ _⟩
    refine flow_callv (.bool true) (by kernel_rfl) rfl (.cons (.inn rfl) (.cons (.inn rfl) .nil)) (fun W hW => (rrright_any _ _ _ _).mono ?_) ?_
    · rintro e w' ⟨rfl, hc⟩; exact ⟨by rw [hrr], hc⟩
    refine flow1 (r := .bool false) plainT_ok rfl (.inn rfl) rfl (fun ev W he e1 => by go_simp) ?_
    intro vs W hW hF
    have e13 : vs 13 = .bool false := hF 13 _ rfl rfl
    simp only [putAll, Act.put, List.setIfInBounds_toArray, List.set_cons_zero, List.set_cons_succ, e13]
    have HRW := Lib.hid (hR.drew.keep hW)
    have HCW := Lib.hid (hc1.drew.new hW)
    clear hF hld hW hR hc1 hrt
    go_wp2_with fail
    go_loopw [5, 6] (fun v i wr => ∃ k : Nat, k ≤ l ∧ (∃ q : Nat, i = .int .i64 (q : Int) ∧ Hid (q = 2 + k)) ∧ (∃ n, Hid (n = k * 64) ∧ wr.ownsRow W.heap.size 5 1 v n (bts (logB s k))) ∧ Hid (Chg [] W wr)) (fun _ i _ => 2 + l - (intOf i).toNat)
    case atStart => exact ⟨0, by omega, ⟨2, rfl, Lib.hid rfl⟩, ⟨0, Lib.hid rfl, by unfold logB; simpa [bts] using own_nil _ _ _⟩, Lib.hid (Chg.refl _ _)⟩
    case round =>
      obtain ⟨k, hk, ⟨q, rfl, HQ⟩, ⟨n, Hn, hown⟩, HCr⟩ := hrel
      obtain ⟨Av, cv, rfl, hvl, hvc, _⟩ := own_slice hown
      have HCa := Lib.hid (HCW.out.new HCr.out)
      obtain ⟨c0, c1, c2, _, _, _⟩ := root_cells (HRW.out.keep HCr.out)
      by_cases hlt : k < l
      · have hkI : (q : Int) < 2 + (l : Int) := by have := HQ.out; omega
        have hqV : q < s.V.length := by have := HQ.out; omega
        have hq66 : q ≤ 66 := by have := HQ.out; omega
        go_wp2_with fail
        refine (rread_own (H.out.keep HCa.out) q hqV).mono ?_
        rintro e w5 ⟨v2, rfl, ho2, hc5⟩
        have hl5 : ((s.S.drop (q * 64)).take 64).length = 64 := by rw [List.length_take, List.length_drop, HS.out]; omega
        have HNX := Lib.hid (show logB s (k + 1) = logB s k ++ (s.S.drop (q * 64)).take 64 by rw [logB_next, HQ.out])
        obtain ⟨A2, c2', rfl, _, _, hs2, _⟩ := own_slice ho2
        have HS5 := Lib.hid hs2
        have hx1 := Lib.hid (show (bts ((s.S.drop (q * 64)).take 64)).length = 64 by rw [bts_len, hl5])
        have how := own_keep hown hc5
        have hn4 : n ≤ 4096 := by rw [Hn.out]; omega
        have hx2 := Lib.hid (show n + 64 ≤ maxLen by unfold maxLen; omega)
        have hx3 := Lib.hid (show (n + 64) * 1 ≤ 140737488355328 by omega)
        have hx4 := Lib.hid (show W.heap.size ≤ w5.heap.size from Nat.le_trans HCr.out.size hc5.size)
        have HC5 := Lib.hid (HCr.out.new hc5)
        have h1 := bts_one ((s.S.drop (q * 64)).take 64)
        generalize (s.S.drop (q * 64)).take 64 = Z at HNX HS5 hx1 h1
        clear hl5 hc5 hown hs2 ho2 c0 c1 c2
        go_wp2_with (at_builtin
                     refine wpList_append_src rfl (.tmp 27) (.tmp 28) 44 rfl W.heap.size 5 iu _ 1 Try.underlying44 hui huz hus hub cells_u8 (.slice Av n cv) n (bts (logB s k)) rfl how A2 64 c2' (bts Z) rfl hx1.out HS5.out h1 hx2.out hx3.out hx4.out ?_
                     intro v6 w6 ho6 hg6 _)
        have hc6 := HC5.out.own how (Nat.le_refl _) hg6
        go_roundw
        case rel => exact ⟨k + 1, by omega, ⟨q + 1, by go_num, Lib.hid (by have := HQ.out; omega)⟩, ⟨n + 64, Lib.hid (by rw [Hn.out]; omega), by rw [HNX.out, bts_app]; exact ho6⟩, Lib.hid hc6⟩
        case measure => have := HQ.out; simp [intOf]; omega
      · have hkI : ¬ (q : Int) < 2 + (l : Int) := by have := HQ.out; omega
        have HK := Lib.hid (show k = l by omega)
        have HLen := Lib.hid (show (logB s l).length = n by rw [logB_len (by rw [HS.out]; omega), Hn.out, HK.out])
        clear hlt hk
        go_wp2_with fail
        go_ret
        rw [HF.out]
        refine ⟨_, rfl, ?_, HCa.out⟩
        rw [HLen.out, ← HK.out]
        exact own_more hown HCW.out.size
theorem rlog_any (h : Rfd w p gL gN gW rL rN m s) (L P E : Int) :
    Calls Try.prog 52 #[.pointer (some ⟨p, 0, none⟩), rootV L P E] w (BytesPost w (logL s L P E)) := (rlog_nil h L P E).mono fun _ _ h => h.1
end
end Go.Proofs.Ytddjgncdjdjgeaa
