/-
  S: RootUn, RootBest.
-/
import Derived.Test.YtddjgncdjdjgeaaGreatZS3
import Derived.Test.YtddjgncdjdjgeaaGreatZS8
import Derived.Test.YtddjgncdjdjgeaaGreatZS10
import Derived.Test.YtddjgncdjdjgeaaGreatZS22
namespace Go.Proofs.YtddjgncdjdjgeaaGreat
open Go.RowKit
section
variable {w : World} {A : Option Addr} {n c : Nat} {l : List UInt8}
set_option maxHeartbeats 4000000 in
set_option maxRecDepth 100000 in
theorem unroot_any (h : Bs w A n c l) : Calls Tryz.prog 101 #[.slice A n c] w (ReadRPost l w) := by
  have H := Lib.hid h
  have h4 := getI_lt l 4
  have h8 := getI_lt l 8
  have h12 := getI_lt l 12
  have hlen := h.len
  have hcap := h.cap
  have hA0 := add0 A
  clear h
  by_cases hn : n = 64
  rotate_left
  · have HNO := Lib.hid (show ¬ isRoot l from fun h => hn (by rw [← hlen]; exact isRoot_len h))
    have hb1 : ((n : Int) == 64) = false := by simp; omega
    have hb2 : ((n : Int) != 64) = true := by simp; omega
    have hb3 : (!((n : Int) == 64)) = true := by simp; omega
    clear hn hlen
    go_enter Tryz.func101, Tryz.ntmps101
    go_wp2_with fail
    exact bodyPost_ret (v := .tuple #[rootV 0 0 0, .bool false]) (by simp [results, Tryz.results101, go_sem, rootV]) rfl (.inr ⟨HNO.out, rfl, (Chg.refl _ _).alloc _⟩)
  subst hn
  have HLN := Lib.hid hlen
  clear hlen
  have hb1 : (((64 : Nat) : Int) != 64) = false := by simp
  have hc1 : Chg [] w (w.alloc (.cells #[.int .i64 0, .int .i64 0, .int .u32 0] 58)) := (Chg.refl [] w).alloc _
  have hT := ((H.out.keep hc1).take (m := 4) (by omega)).str (P := Tryz.prog) 30 5 9 Tryz.underlying30 Tryz.underlying5 Tryz.underlying9
  have hcc : ¬ c < 4 := by omega
  have hccI : (4 : Int) ≤ (c : Int) := by omega
  by_cases hm : l.take 4 = markL
  rotate_left
  · have HNO := Lib.hid (show ¬ isRoot l from fun h => hm (isRoot_mark h))
    have hs0 : ((strOf (l.take 4)).toList == (strOf markL).toList) = false := by
      rw [ByteArray.toList_eq, ByteArray.toList_eq]
      show (l.take 4 == markL) = false
      simpa using hm
    have hs1 : ((strOf (l.take 4)).toList == [69, 78, 71, 49]) = false := by
      rw [show ([69, 78, 71, 49] : List UInt8) = (strOf markL).toList by rw [ByteArray.toList_eq]; rfl]
      exact hs0
    generalize strOf (l.take 4) = S at hT hs1
    have hs2 : (!(S.toList == [69, 78, 71, 49])) = true := by rw [hs1]; rfl
    clear hm hs0
    go_enter Tryz.func101, Tryz.ntmps101
    go_wp2_with fail
    exact bodyPost_ret (v := .tuple #[rootV 0 0 0, .bool false]) (by simp [results, Tryz.results101, go_sem, rootV]) rfl (.inr ⟨HNO.out, rfl, (Chg.refl _ _).alloc _⟩)
  · rw [hm, show strOf markL = ⟨#[69, 78, 71, 49]⟩ from rfl] at hT
    clear hm
    go_enter Tryz.func101, Tryz.ntmps101
    go_wp2_with fail
    clear hT
    have hR := Whole.new w 58 [.int .i64 0, .int .i64 0, .int .u32 0]
    obtain ⟨g, hg⟩ : ∃ g, g = w.heap.size := ⟨_, rfl⟩
    rw [← hg] at hR ⊢
    generalize w.alloc (.cells #[.int .i64 0, .int .i64 0, .int .u32 0] 58) = w1 at hc1 hR ⊢
    have hwg : w.heap.size ≤ g := by omega
    clear hg
    refine (rget_b (H.out.keep hc1) 4 (by omega)).mono ?_
    rintro e w2 ⟨rfl, hc2⟩
    have hB2 := H.out.keep (hc1.new hc2)
    go_wp2_with fail
    refine (rget_b hB2 8 (by omega)).mono ?_
    rintro e w3 ⟨rfl, hc3⟩
    go_wp2_with fail
    refine (rget_b (hB2.keep hc3) 12 (by omega)).mono ?_
    rintro e w4 ⟨rfl, hc4⟩
    have HC4 := Lib.hid (((hc1.new hc2).new hc3).new hc4)
    have HR4 := Lib.hid (((hR.keep hc2).keep hc3).keep hc4)
    clear hB2 hc1 hc2 hc3 hc4 hR
    have HI := Lib.hid (show isRoot l ↔ (getI l 4 ≤ 2147483647 ∧ getI l 8 ≤ 2147483647 ∧ l = rootL (getI l 4) (getI l 8) (getI l 12)) from Iff.rfl)
    generalize hq4 : getI l 4 = a at *
    generalize hq8 : getI l 8 = b at *
    generalize hq12 : getI l 12 = d at *
    have HQ := Lib.hid (And.intro hq4 (And.intro hq8 hq12))
    clear hq4 hq8 hq12
    have m4 : IntKind.i64.wrap (a : Int) = (a : Int) := IntWalk.i64_in _ (by omega)
    have m8 : IntKind.i64.wrap (b : Int) = (b : Int) := IntWalk.i64_in _ (by omega)
    go_wp2_with fail
    have hN := Whole.new w4 58 [.int .i64 (a : Int), .int .i64 (b : Int), .int .u32 (d : Int)]
    have hc5 : Chg [] w (w4.alloc (.cells #[.int .i64 (a : Int), .int .i64 (b : Int), .int .u32 (d : Int)] 58)) := HC4.out.alloc _
    have hR5 := HR4.out.keep ((Chg.refl [] w4).alloc (.cells #[.int .i64 (a : Int), .int .i64 (b : Int), .int .u32 (d : Int)] 58))
    generalize w4.alloc (.cells #[.int .i64 (a : Int), .int .i64 (b : Int), .int .u32 (d : Int)] 58) = w5 at hN hc5 hR5 ⊢
    generalize w4.heap.size = g6 at hN ⊢
    have hld : ∀ W, Chg [] w5.drew W → W.cell? ⟨g6, 0, none⟩ = some (.int .i64 (a : Int)) ∧ W.cell? ⟨g6, 1, none⟩ = some (.int .i64 (b : Int)) ∧ W.cell? ⟨g6, 2, none⟩ = some (.int .u32 (d : Int)) := fun W hW => by
      obtain ⟨c0, c1, c2, _⟩ := root_cells (hN.drew.keep hW)
      exact ⟨c0, c1, c2⟩
    by_cases ha : 2147483647 < a
    · have hd : decide ((2147483647 : Int) < (a : Int)) = true := by simp; omega
      have HNO := Lib.hid (show ¬ isRoot l from fun hh => by have := (HI.out.1 hh).1; omega)
      refine wp_flow (by kernel_rfl) plainT plainT_ok (by kernel_rfl) ?_
      refine flow1 (r := .pointer (some ⟨g6, 0, none⟩)) plainT_ok rfl (.out rfl rfl) rfl (fun ev W he e1 => by go_simp) ?_
      refine flow1h (r := .int .i64 (a : Int)) plainT_ok rfl (.inn rfl) rfl (fun ev W he hW e1 => by obtain ⟨c0, c1, c2⟩ := hld W hW; go_simp) ?_
      refine flow2 (r := .bool true) plainT_ok rfl (.inn rfl) (.const _) rfl (fun ev W he e1 e2 => by go_simp) ?_
      refine flow_move plainT_ok rfl (keeps_isV _) (.inr (keeps_isV _)) rfl ?_
      refine flow_skip rfl ?_
      refine flow_skip rfl ?_
      refine flow_skip rfl ?_
      refine flow_or_true plainT_ok rfl rfl rfl ?_
      refine flow_move plainT_ok rfl (keeps_isV _) (.inr (keeps_isV _)) rfl ?_
      refine flow_skip rfl ?_
      refine flow_skip rfl ?_
      refine flow_skip rfl ?_
      refine flow_skip rfl ?_
      refine flow_skip rfl ?_
      refine flow_skip rfl ?_
      refine flow_or_true plainT_ok rfl rfl rfl ?_
      intro vs W hW hF
      have e39 : vs 39 = .bool true := hF 39 _ rfl rfl
      simp only [putAll, Act.put, List.setIfInBounds_toArray, List.set_cons_zero, List.set_cons_succ, e39]
      have HC9 := Lib.hid (hc5.drew.new hW)
      have HR9 := Lib.hid (hR5.drew.keep hW)
      obtain ⟨c0, c1, c2, f0, f1, f2⟩ := root_cells HR9.out
      clear hW hF hld hN hc5 hR5
      go_wp2_with fail
      obtain ⟨hS, hCS⟩ := root_set HC9.out hwg HR9.out (.int .i64 0) (.int .i64 0) (.int .u32 0)
      generalize ((W.setCell ⟨g, 0, none⟩ (.int .i64 0)).setCell ⟨g, 1, none⟩ (.int .i64 0)).setCell ⟨g, 2, none⟩ (.int .u32 0) = w9 at hS hCS ⊢
      obtain ⟨k0, k1, k2, _, _, _⟩ := root_cells hS
      exact bodyPost_ret (v := .tuple #[rootV 0 0 0, .bool false]) (by simp [results, Tryz.results101, go_sem, rootV, k0, k1, k2]) rfl (.inr ⟨HNO.out, rfl, hCS⟩)
    have hd : decide ((2147483647 : Int) < (a : Int)) = false := by simp; omega
    by_cases hb : 2147483647 < b
    · have hd2 : decide ((2147483647 : Int) < (b : Int)) = true := by simp; omega
      have HNO := Lib.hid (show ¬ isRoot l from fun hh => by have := (HI.out.1 hh).2.1; omega)
      refine wp_flow (by kernel_rfl) plainT plainT_ok (by kernel_rfl) ?_
      refine flow1 (r := .pointer (some ⟨g6, 0, none⟩)) plainT_ok rfl (.out rfl rfl) rfl (fun ev W he e1 => by go_simp) ?_
      refine flow1h (r := .int .i64 (a : Int)) plainT_ok rfl (.inn rfl) rfl (fun ev W he hW e1 => by obtain ⟨c0, c1, c2⟩ := hld W hW; go_simp) ?_
      refine flow2 (r := .bool false) plainT_ok rfl (.inn rfl) (.const _) rfl (fun ev W he e1 e2 => by go_simp) ?_
      refine flow_move plainT_ok rfl (keeps_isV _) (.inr (keeps_isV _)) rfl ?_
      refine flow1 (r := .pointer (some ⟨g6, 1, none⟩)) plainT_ok rfl (.out rfl rfl) rfl (fun ev W he e1 => by go_simp) ?_
      refine flow1h (r := .int .i64 (b : Int)) plainT_ok rfl (.inn rfl) rfl (fun ev W he hW e1 => by obtain ⟨c0, c1, c2⟩ := hld W hW; go_simp) ?_
      refine flow2 (r := .bool true) plainT_ok rfl (.inn rfl) (.const _) rfl (fun ev W he e1 e2 => by go_simp) ?_
      refine flow_or_false plainT_ok rfl rfl rfl ?_
      refine flow_move plainT_ok rfl (keeps_isV _) (.inr (keeps_isV _)) rfl ?_
      refine flow_skip rfl ?_
      refine flow_skip rfl ?_
      refine flow_skip rfl ?_
      refine flow_skip rfl ?_
      refine flow_skip rfl ?_
      refine flow_skip rfl ?_
      refine flow_or_true plainT_ok rfl rfl rfl ?_
      intro vs W hW hF
      have e39 : vs 39 = .bool true := hF 39 _ rfl rfl
      simp only [putAll, Act.put, List.setIfInBounds_toArray, List.set_cons_zero, List.set_cons_succ, e39]
      have HC9 := Lib.hid (hc5.drew.new hW)
      have HR9 := Lib.hid (hR5.drew.keep hW)
      obtain ⟨c0, c1, c2, f0, f1, f2⟩ := root_cells HR9.out
      clear hW hF hld hN hc5 hR5
      go_wp2_with fail
      obtain ⟨hS, hCS⟩ := root_set HC9.out hwg HR9.out (.int .i64 0) (.int .i64 0) (.int .u32 0)
      generalize ((W.setCell ⟨g, 0, none⟩ (.int .i64 0)).setCell ⟨g, 1, none⟩ (.int .i64 0)).setCell ⟨g, 2, none⟩ (.int .u32 0) = w9 at hS hCS ⊢
      obtain ⟨k0, k1, k2, _, _, _⟩ := root_cells hS
      exact bodyPost_ret (v := .tuple #[rootV 0 0 0, .bool false]) (by simp [results, Tryz.results101, go_sem, rootV, k0, k1, k2]) rfl (.inr ⟨HNO.out, rfl, hCS⟩)
    have hd2 : decide ((2147483647 : Int) < (b : Int)) = false := by simp; omega
    have hB5 := H.out.keep hc5
    obtain ⟨bb, hbb⟩ : ∃ bb : Bool, bb = !((strOf (rootL a b d)).toList == (strOf l).toList) := ⟨_, rfl⟩
    refine wp_flow (by kernel_rfl) plainT plainT_ok (by kernel_rfl) ?_
    refine flow1 (r := .pointer (some ⟨g6, 0, none⟩)) plainT_ok rfl (.out rfl rfl) rfl (fun ev W he e1 => by go_simp) ?_
    refine flow1h (r := .int .i64 (a : Int)) plainT_ok rfl (.inn rfl) rfl (fun ev W he hW e1 => by obtain ⟨c0, c1, c2⟩ := hld W hW; go_simp) ?_
    refine flow2 (r := .bool false) plainT_ok rfl (.inn rfl) (.const _) rfl (fun ev W he e1 e2 => by go_simp) ?_
    refine flow_move plainT_ok rfl (keeps_isV _) (.inr (keeps_isV _)) rfl ?_
    refine flow1 (r := .pointer (some ⟨g6, 1, none⟩)) plainT_ok rfl (.out rfl rfl) rfl (fun ev W he e1 => by go_simp) ?_
    refine flow1h (r := .int .i64 (b : Int)) plainT_ok rfl (.inn rfl) rfl (fun ev W he hW e1 => by obtain ⟨c0, c1, c2⟩ := hld W hW; go_simp) ?_
    refine flow2 (r := .bool false) plainT_ok rfl (.inn rfl) (.const _) rfl (fun ev W he e1 e2 => by go_simp) ?_
    refine flow_or_false plainT_ok rfl rfl rfl ?_
    refine flow_move plainT_ok rfl (keeps_isV _) (.inr (keeps_isV _)) rfl ?_
    refine flow1h (r := rootV a b d) plainT_ok rfl (.out rfl rfl) rfl (fun ev W he hW e1 => by obtain ⟨c0, c1, c2⟩ := hld W hW; go_simp; rfl) ?_
    refine flow_calld (ownF 0 5 (bts (rootL a b d))) (keeps_own _ _ _) (.inr (keeps_own _ _ _)) (by kernel_rfl) rfl (.cons (.inn rfl) .nil) (fun W hW => (rroot_any a b d (by omega) (by omega) h12).mono ?_) ?_
    · rintro e w' ⟨v, rfl, ho, hc'⟩
      exact ⟨v, rfl, hc', by rw [ownF, bts_len]; exact own_more ho (Nat.zero_le _)⟩
    refine flow_str plainT_ok rfl Tryz.underlying30 Tryz.underlying5 Tryz.underlying9 rfl ?_
    refine flow_move_out plainT_ok rfl rfl rfl ?_
    refine flow_strd plainT_ok (.inn rfl) (fun W hW => hB5.drew.keep hW) Tryz.underlying30 Tryz.underlying5 Tryz.underlying9 rfl ?_
    refine flow2 (r := .bool bb) plainT_ok rfl (.inn rfl) (.inn rfl) rfl (fun ev W he e1 e2 => by rw [hbb]; go_simp) ?_
    refine flow_or_false plainT_ok rfl rfl rfl ?_
    intro vs W hW hF
    have e39 : vs 39 = .bool bb := hF 39 _ rfl rfl
    simp only [putAll, Act.put, List.setIfInBounds_toArray, List.set_cons_zero, List.set_cons_succ, e39]
    have HC9 := Lib.hid (hc5.drew.new hW)
    have HR9 := Lib.hid (hR5.drew.keep hW)
    obtain ⟨c0, c1, c2, f0, f1, f2⟩ := root_cells HR9.out
    obtain ⟨e0, e1, e2⟩ := hld W hW
    have HBB := Lib.hid hbb
    have hcmp : ((strOf (rootL a b d)).toList == (strOf l).toList) = decide (rootL a b d = l) := str_ne
    have HCM := Lib.hid hcmp
    clear hW hF hld hN hc5 hR5 hB5 hbb hcmp
    cases bb with
    | true =>
      have HNO := Lib.hid (show ¬ isRoot l from fun hh => by
        have h1 := HBB.out
        rw [HCM.out, decide_eq_true ((HI.out.1 hh).2.2).symm] at h1
        cases h1)
      go_wp2_with fail
      obtain ⟨hS, hCS⟩ := root_set HC9.out hwg HR9.out (.int .i64 0) (.int .i64 0) (.int .u32 0)
      generalize ((W.setCell ⟨g, 0, none⟩ (.int .i64 0)).setCell ⟨g, 1, none⟩ (.int .i64 0)).setCell ⟨g, 2, none⟩ (.int .u32 0) = w9 at hS hCS ⊢
      obtain ⟨k0, k1, k2, _, _, _⟩ := root_cells hS
      exact bodyPost_ret (v := .tuple #[rootV 0 0 0, .bool false]) (by simp [results, Tryz.results101, go_sem, rootV, k0, k1, k2]) rfl (.inr ⟨HNO.out, rfl, hCS⟩)
    | false =>
      have HYES := Lib.hid (HI.out.2 ⟨by omega, by omega, by
        have h1 := HBB.out
        rw [HCM.out] at h1
        have h2 : decide (rootL a b d = l) = true := by simpa using h1
        exact (of_decide_eq_true h2).symm⟩)
      go_wp2_with fail
      obtain ⟨hS, hCS⟩ := root_set HC9.out hwg HR9.out (.int .i64 (a : Int)) (.int .i64 (b : Int)) (.int .u32 (d : Int))
      generalize ((W.setCell ⟨g, 0, none⟩ (.int .i64 (a : Int))).setCell ⟨g, 1, none⟩ (.int .i64 (b : Int))).setCell ⟨g, 2, none⟩ (.int .u32 (d : Int)) = w9 at hS hCS ⊢
      obtain ⟨k0, k1, k2, _, _, _⟩ := root_cells hS
      exact bodyPost_ret (v := .tuple #[rootV a b d, .bool true]) (by simp [results, Tryz.results101, go_sem, rootV, k0, k1, k2]) rfl (.inl ⟨HYES.out, by rw [HQ.out.1, HQ.out.2.1, HQ.out.2.2], hCS⟩)
end
end Go.Proofs.YtddjgncdjdjgeaaGreat
namespace Go.Proofs.YtddjgncdjdjgeaaGreat
open Go.RowKit
def cellsV (o : RV) : List Value := [.int .i64 (o.log : Int), .int .i64 (o.pages : Int), .int .u32 (o.epoch : Int)]
/-- What Best answers. -/
def BestPost (o : RV) (w : World) (e : Ending) (w' : World) : Prop := e = .returned (.tuple #[rootV o.log o.pages o.epoch, .bool (decide (0 < o.epoch))]) ∧ Chg [] w w'
section
variable {w : World} {p bL bS bW : Nat} {L S : List UInt8} {V : List Bool}
/-- Read of a sector, or of none. -/
theorem readS_any (h : Dsk w p bL bS bW L S V) (k : Nat) :
    Calls Tryz.prog 93 #[.pointer (some ⟨p, 0, none⟩), .int .i64 (k : Int)] w fun e w' => ∃ A n c b, e = .returned (.tuple #[.slice A n c, .bool b]) ∧ Bs w' A n c (sectL S V.length k) ∧ Chg [] w w' := by
  by_cases hk : k < V.length
  · refine (read_yes h k hk).mono ?_
    rintro e w' ⟨rfl, hW, hc⟩
    refine ⟨_, _, _, _, rfl, ?_, hc⟩
    have hs : sectL S V.length k = (S.drop (k * 64)).take 64 := by unfold sectL; rw [if_pos hk]
    rw [hs]
    have hl : ((S.drop (k * 64)).take 64).length = 64 := by have := h.lenS; rw [List.length_take, List.length_drop]; omega
    have := Bs.of_all hW (by omega)
    rwa [hl] at this
  · refine (read_no h k (by omega)).mono ?_
    rintro e w' ⟨rfl, rfl⟩
    have hs : sectL S V.length k = [] := by unfold sectL; rw [if_neg hk]
    exact ⟨_, _, _, _, rfl, by rw [hs]; exact Bs.nil _, Chg.refl _ _⟩
set_option maxHeartbeats 8000000 in
set_option maxRecDepth 100000 in
theorem best_any (h : Dsk w p bL bS bW L S V) : Calls Tryz.prog 55 #[.pointer (some ⟨p, 0, none⟩)] w (BestPost (bestK V.length S 2) w) := by
  have H := Lib.hid h
  have hVl := h.le
  have hVp := h.pos
  clear h
  go_enter Tryz.func55, Tryz.ntmps55
  go_wp2_with fail
  have hc1 : Chg [] w (w.alloc (.cells #[.int .i64 0, .int .i64 0, .int .u32 0] 58)) := (Chg.refl [] w).alloc _
  have hR := Whole.new w 58 [.int .i64 0, .int .i64 0, .int .u32 0]
  have hz : (w.alloc (.cells #[.int .i64 0, .int .i64 0, .int .u32 0] 58)).heap.size = w.heap.size + 1 := by simp
  generalize w.alloc (.cells #[.int .i64 0, .int .i64 0, .int .u32 0] 58) = w1 at hc1 hR hz ⊢
  have hB := Whole.new w1 58 [.int .i64 0, .int .i64 0, .int .u32 0]
  have hR2 := hR.keep ((Chg.refl [] w1).alloc (.cells #[.int .i64 0, .int .i64 0, .int .u32 0] 58))
  have hc2 := hc1.alloc (.cells #[.int .i64 0, .int .i64 0, .int .u32 0] 58)
  rw [hz] at hB
  generalize w1.alloc (.cells #[.int .i64 0, .int .i64 0, .int .u32 0] 58) = w2 at hB hR2 hc2 ⊢
  obtain ⟨g, hg⟩ : ∃ g, g = w.heap.size := ⟨_, rfl⟩
  rw [← hg] at hR2 hB ⊢
  have hwg : w.heap.size ≤ g := by omega
  clear hg hc1 hR hz
  go_loopw [13] (fun i wr => ∃ k : Nat, k ≤ 2 ∧ i = .int .i64 (k : Int) ∧ Whole wr g 58 [.int .i64 0, .int .i64 0, .int .u32 0] ∧ Whole wr (g + 1) 58 (cellsV (bestK V.length S k)) ∧ Chg [] w wr) (fun i _ => 2 - (intOf i).toNat)
  case atStart => exact ⟨0, by omega, rfl, hR2, hB, hc2⟩
  case round =>
    obtain ⟨k, hk, rfl, hR, hBest, hcr⟩ := hrel
    have hlt3 := bestK_lt V.length S k
    have HSt := Lib.hid (show bestK V.length S (k + 1) = bestStep V.length (bestK V.length S k) (sectL S V.length k) from rfl)
    clear hB hR2 hc2
    by_cases hlt : k < 2
    · generalize bestK V.length S k = o at hBest hlt3 HSt
      have hkI : (k : Int) < 2 := by omega
      have HR := Lib.hid hR
      have HBe := Lib.hid hBest
      have HC := Lib.hid hcr
      clear hR hBest hcr
      go_wp2_with fail
      refine (readS_any (H.out.keep HC.out) k).mono ?_
      rintro e w3 ⟨A3, n3, c3, b3, rfl, hB3, hc3⟩
      have HR3 := Lib.hid (HR.out.keep hc3)
      have HBe3 := Lib.hid (HBe.out.keep hc3)
      have HC3 := Lib.hid (HC.out.new hc3)
      have HB3 := Lib.hid hB3
      generalize sectL S V.length k = s at HB3 HSt
      clear hB3 hc3
      go_wp2_with fail
      refine (rootread_any HB3.out).mono ?_
      intro e w4 hp
      have hc4 : Chg [] w3 w4 := by rcases hp with ⟨_, _, h⟩ | ⟨_, _, h⟩ <;> exact h
      have HR4 := Lib.hid (HR3.out.keep hc4)
      have HBe4 := Lib.hid (HBe3.out.keep hc4)
      have HC4 := Lib.hid (HC3.out.new hc4)
      clear hc4
      rcases hp with ⟨hyes, rfl, _⟩ | ⟨hno, rfl, _⟩
      · have h4 := getI_lt s 4
        have h8 := getI_lt s 8
        have h12 := getI_lt s 12
        have HY := Lib.hid hyes
        clear hyes
        unfold rootV
        go_wp2_with fail
        have hN := Whole.new w4 58 [.int .i64 ((getI s 4 : Nat) : Int), .int .i64 ((getI s 8 : Nat) : Int), .int .u32 ((getI s 12 : Nat) : Int)]
        have hal : Chg [] w4 (w4.alloc (.cells #[.int .i64 ((getI s 4 : Nat) : Int), .int .i64 ((getI s 8 : Nat) : Int), .int .u32 ((getI s 12 : Nat) : Int)] 58)) := (Chg.refl [] w4).alloc _
        have HR5 := Lib.hid (HR4.out.keep hal)
        have HBe5 := Lib.hid (HBe4.out.keep hal)
        have HC5 := Lib.hid (HC4.out.new hal)
        generalize w4.alloc (.cells #[.int .i64 ((getI s 4 : Nat) : Int), .int .i64 ((getI s 8 : Nat) : Int), .int .u32 ((getI s 12 : Nat) : Int)] 58) = w5 at hN HR5 HBe5 HC5 ⊢
        generalize w4.heap.size = g6 at hN ⊢
        have hld := fun (W : World) (hW : Chg [] w5.drew W) => root_cells (hN.drew.keep hW)
        have HN5 := Lib.hid hN
        clear hN hal
        cases hrr : rightR (getI s 4 : Nat) (getI s 8 : Nat) (getI s 12 : Nat) V.length with
        | false =>
          have HN := Lib.hid (show bestStep V.length o s = o by unfold bestStep; rw [if_neg (fun h => by have := h.2.1; rw [hrr] at this; cases this)])
          refine wp_flow (by kernel_rfl) plainT plainT_ok (by kernel_rfl) ?_
          refine flow_move_out plainT_ok rfl rfl rfl ?_
          refine flow_move plainT_ok rfl (keeps_isV _) (.inr (keeps_isV _)) rfl ?_
          refine flow1h (r := rootV (getI s 4 : Nat) (getI s 8 : Nat) (getI s 12 : Nat)) plainT_ok rfl (.out rfl rfl) rfl (fun ev W he hW e1 => by obtain ⟨c0, c1, c2, _, _, _⟩ := hld W hW; go_simp; rfl) ?_
          refine flow_move_out plainT_ok rfl rfl rfl ?_
          refine flow_callv (.int .i64 (V.length : Int)) (by kernel_rfl) rfl (.cons (.inn rfl) .nil) (fun W hW => (len_any (H.out.keep (HC5.out.drew.new hW))).mono ?_) ?_
          · rintro e w' ⟨rfl, rfl⟩; exact ⟨rfl, Chg.refl _ _⟩
          refine flow_callv (.bool (rightR (getI s 4 : Nat) (getI s 8 : Nat) (getI s 12 : Nat) V.length)) (by kernel_rfl) rfl (.cons (.inn rfl) (.cons (.inn rfl) .nil)) (fun W hW => (rright_any _ _ _ _).mono ?_) ?_
          · rintro e w' ⟨rfl, hc⟩; exact ⟨rfl, hc⟩
          rw [hrr]
          refine flow_and plainT_ok rfl rfl rfl ?_
          refine flow_move plainT_ok rfl (keeps_isV _) (.inr (keeps_isV _)) rfl ?_
          refine flow_skip rfl ?_
          refine flow_skip rfl ?_
          refine flow_skip rfl ?_
          refine flow_skip rfl ?_
          refine flow_skip rfl ?_
          refine flow_and_false plainT_ok rfl rfl rfl ?_
          intro vs W hW hF
          have e40 : vs 40 = .bool false := hF 40 _ rfl rfl
          simp only [putAll, Act.put, List.setIfInBounds_toArray, List.set_cons_zero, List.set_cons_succ, e40]
          have HRW := Lib.hid (HR5.out.drew.keep hW)
          have HBW := Lib.hid (HBe5.out.drew.keep hW)
          have HCW := Lib.hid (HC5.out.drew.new hW)
          clear hW hF hld
          go_wp2_with fail
          go_roundw
          case rel => exact ⟨k + 1, by omega, by go_num, HRW.out, by rw [HSt.out, HN.out]; exact HBW.out, HCW.out⟩
          case measure => simp [intOf]; omega
        | true =>
          by_cases hep : o.epoch < getI s 12
          · have HN := Lib.hid (show bestStep V.length o s = ⟨getI s 4, getI s 8, getI s 12⟩ by unfold bestStep; rw [if_pos ⟨HY.out, hrr, hep⟩])
            have hd : decide ((o.epoch : Int) < ((getI s 12 : Nat) : Int)) = true := by simp; omega
            have hlo := fun (W : World) (hW : Chg [] w5.drew W) => root_cells (HBe5.out.drew.keep hW)
            refine wp_flow (by kernel_rfl) plainT plainT_ok (by kernel_rfl) ?_
            refine flow_move_out plainT_ok rfl rfl rfl ?_
            refine flow_move plainT_ok rfl (keeps_isV _) (.inr (keeps_isV _)) rfl ?_
            refine flow1h (r := rootV (getI s 4 : Nat) (getI s 8 : Nat) (getI s 12 : Nat)) plainT_ok rfl (.out rfl rfl) rfl (fun ev W he hW e1 => by obtain ⟨c0, c1, c2, _, _, _⟩ := hld W hW; go_simp; rfl) ?_
            refine flow_move_out plainT_ok rfl rfl rfl ?_
            refine flow_callv (.int .i64 (V.length : Int)) (by kernel_rfl) rfl (.cons (.inn rfl) .nil) (fun W hW => (len_any (H.out.keep (HC5.out.drew.new hW))).mono ?_) ?_
            · rintro e w' ⟨rfl, rfl⟩; exact ⟨rfl, Chg.refl _ _⟩
            refine flow_callv (.bool (rightR (getI s 4 : Nat) (getI s 8 : Nat) (getI s 12 : Nat) V.length)) (by kernel_rfl) rfl (.cons (.inn rfl) (.cons (.inn rfl) .nil)) (fun W hW => (rright_any _ _ _ _).mono ?_) ?_
            · rintro e w' ⟨rfl, hc⟩; exact ⟨rfl, hc⟩
            rw [hrr]
            refine flow_and plainT_ok rfl rfl rfl ?_
            refine flow_move plainT_ok rfl (keeps_isV _) (.inr (keeps_isV _)) rfl ?_
            refine flow1 (r := .pointer (some ⟨g6, 2, none⟩)) plainT_ok rfl (.out rfl rfl) rfl (fun ev W he e1 => by go_simp) ?_
            refine flow1h (r := .int .u32 ((getI s 12 : Nat) : Int)) plainT_ok rfl (.inn rfl) rfl (fun ev W he hW e1 => by obtain ⟨c0, c1, c2, _, _, _⟩ := hld W hW; go_simp) ?_
            refine flow1 (r := .pointer (some ⟨g + 1, 2, none⟩)) plainT_ok rfl (.out rfl rfl) rfl (fun ev W he e1 => by go_simp) ?_
            refine flow1h (r := .int .u32 (o.epoch : Int)) plainT_ok rfl (.inn rfl) rfl (fun ev W he hW e1 => by obtain ⟨c0, c1, c2, _, _, _⟩ := hlo W hW; go_simp) ?_
            refine flow2 (r := .bool true) plainT_ok rfl (.inn rfl) (.inn rfl) rfl (fun ev W he e1 e2 => by go_simp) ?_
            refine flow_and plainT_ok rfl rfl rfl ?_
            intro vs W hW hF
            have e40 : vs 40 = .bool true := hF 40 _ rfl rfl
            simp only [putAll, Act.put, List.setIfInBounds_toArray, List.set_cons_zero, List.set_cons_succ, e40]
            have HRW := Lib.hid (HR5.out.drew.keep hW)
            have HBW := Lib.hid (HBe5.out.drew.keep hW)
            have HCW := Lib.hid (HC5.out.drew.new hW)
            obtain ⟨c0, c1, c2, _, _, _⟩ := hld W hW
            obtain ⟨d0, d1, d2, f0, f1, f2⟩ := hlo W hW
            clear hW hF hld hlo
            go_wp2_with fail
            obtain ⟨hS, hCS⟩ := root_set HCW.out (by omega) HBW.out (.int .i64 ((getI s 4 : Nat) : Int)) (.int .i64 ((getI s 8 : Nat) : Int)) (.int .u32 ((getI s 12 : Nat) : Int))
            have hRS := ((HRW.out.far (p := ⟨g + 1, 0, none⟩) (by simp) (.int .i64 ((getI s 4 : Nat) : Int))).far (p := ⟨g + 1, 1, none⟩) (by simp) (.int .i64 ((getI s 8 : Nat) : Int))).far (p := ⟨g + 1, 2, none⟩) (by simp) (.int .u32 ((getI s 12 : Nat) : Int))
            have HS9 := Lib.hid (And.intro hS (And.intro hCS hRS))
            clear hS hCS hRS
            go_roundw
            case rel => exact ⟨k + 1, by omega, by go_num, HS9.out.2.2, by rw [HSt.out, HN.out]; exact HS9.out.1, HS9.out.2.1⟩
            case measure => simp [intOf]; omega
          · have HN := Lib.hid (show bestStep V.length o s = o by unfold bestStep; rw [if_neg (fun h => hep h.2.2)])
            have hd : decide ((o.epoch : Int) < ((getI s 12 : Nat) : Int)) = false := by simp; omega
            have hlo := fun (W : World) (hW : Chg [] w5.drew W) => root_cells (HBe5.out.drew.keep hW)
            refine wp_flow (by kernel_rfl) plainT plainT_ok (by kernel_rfl) ?_
            refine flow_move_out plainT_ok rfl rfl rfl ?_
            refine flow_move plainT_ok rfl (keeps_isV _) (.inr (keeps_isV _)) rfl ?_
            refine flow1h (r := rootV (getI s 4 : Nat) (getI s 8 : Nat) (getI s 12 : Nat)) plainT_ok rfl (.out rfl rfl) rfl (fun ev W he hW e1 => by obtain ⟨c0, c1, c2, _, _, _⟩ := hld W hW; go_simp; rfl) ?_
            refine flow_move_out plainT_ok rfl rfl rfl ?_
            refine flow_callv (.int .i64 (V.length : Int)) (by kernel_rfl) rfl (.cons (.inn rfl) .nil) (fun W hW => (len_any (H.out.keep (HC5.out.drew.new hW))).mono ?_) ?_
            · rintro e w' ⟨rfl, rfl⟩; exact ⟨rfl, Chg.refl _ _⟩
            refine flow_callv (.bool (rightR (getI s 4 : Nat) (getI s 8 : Nat) (getI s 12 : Nat) V.length)) (by kernel_rfl) rfl (.cons (.inn rfl) (.cons (.inn rfl) .nil)) (fun W hW => (rright_any _ _ _ _).mono ?_) ?_
            · rintro e w' ⟨rfl, hc⟩; exact ⟨rfl, hc⟩
            rw [hrr]
            refine flow_and plainT_ok rfl rfl rfl ?_
            refine flow_move plainT_ok rfl (keeps_isV _) (.inr (keeps_isV _)) rfl ?_
            refine flow1 (r := .pointer (some ⟨g6, 2, none⟩)) plainT_ok rfl (.out rfl rfl) rfl (fun ev W he e1 => by go_simp) ?_
            refine flow1h (r := .int .u32 ((getI s 12 : Nat) : Int)) plainT_ok rfl (.inn rfl) rfl (fun ev W he hW e1 => by obtain ⟨c0, c1, c2, _, _, _⟩ := hld W hW; go_simp) ?_
            refine flow1 (r := .pointer (some ⟨g + 1, 2, none⟩)) plainT_ok rfl (.out rfl rfl) rfl (fun ev W he e1 => by go_simp) ?_
            refine flow1h (r := .int .u32 (o.epoch : Int)) plainT_ok rfl (.inn rfl) rfl (fun ev W he hW e1 => by obtain ⟨c0, c1, c2, _, _, _⟩ := hlo W hW; go_simp) ?_
            refine flow2 (r := .bool false) plainT_ok rfl (.inn rfl) (.inn rfl) rfl (fun ev W he e1 e2 => by go_simp) ?_
            refine flow_and plainT_ok rfl rfl rfl ?_
            intro vs W hW hF
            have e40 : vs 40 = .bool false := hF 40 _ rfl rfl
            simp only [putAll, Act.put, List.setIfInBounds_toArray, List.set_cons_zero, List.set_cons_succ, e40]
            have HRW := Lib.hid (HR5.out.drew.keep hW)
            have HBW := Lib.hid (HBe5.out.drew.keep hW)
            have HCW := Lib.hid (HC5.out.drew.new hW)
            clear hW hF hld hlo
            go_wp2_with fail
            go_roundw
            case rel => exact ⟨k + 1, by omega, by go_num, HRW.out, by rw [HSt.out, HN.out]; exact HBW.out, HCW.out⟩
            case measure => simp [intOf]; omega
      · have HN := Lib.hid (show bestStep V.length o s = o by unfold bestStep; rw [if_neg (fun h => hno h.1)])
        clear hno
        unfold rootV
        go_wp2_with fail
        have hal : Chg [] w4 (w4.alloc (.cells #[.int .i64 0, .int .i64 0, .int .u32 0] 58)) := (Chg.refl [] w4).alloc _
        have HR5 := Lib.hid (HR4.out.keep hal)
        have HBe5 := Lib.hid (HBe4.out.keep hal)
        have HC5 := Lib.hid (HC4.out.new hal)
        have hld : True := trivial
        generalize w4.alloc (.cells #[.int .i64 0, .int .i64 0, .int .u32 0] 58) = w5 at HR5 HBe5 HC5 ⊢
        clear hal
        refine wp_flow (by kernel_rfl) plainT plainT_ok (by kernel_rfl) ?_
        refine flow_move_out plainT_ok rfl rfl rfl ?_
        refine flow_move plainT_ok rfl (keeps_isV _) (.inr (keeps_isV _)) rfl ?_
        refine flow_skip rfl ?_
        refine flow_skip rfl ?_
        refine flow_skip rfl ?_
        refine flow_skip rfl ?_
        refine flow_and_false plainT_ok rfl rfl rfl ?_
        refine flow_move plainT_ok rfl (keeps_isV _) (.inr (keeps_isV _)) rfl ?_
        refine flow_skip rfl ?_
        refine flow_skip rfl ?_
        refine flow_skip rfl ?_
        refine flow_skip rfl ?_
        refine flow_skip rfl ?_
        refine flow_and_false plainT_ok rfl rfl rfl ?_
        intro vs W hW hF
        have e40 : vs 40 = .bool false := hF 40 _ rfl rfl
        simp only [putAll, Act.put, List.setIfInBounds_toArray, List.set_cons_zero, List.set_cons_succ, e40]
        have HRW := Lib.hid (HR5.out.drew.keep hW)
        have HBW := Lib.hid (HBe5.out.drew.keep hW)
        have HCW := Lib.hid (HC5.out.drew.new hW)
        clear hW hF hld
        go_wp2_with fail
        go_roundw
        case rel => exact ⟨k + 1, by omega, by go_num, HRW.out, by rw [HSt.out, HN.out]; exact HBW.out, HCW.out⟩
        case measure => simp [intOf]; omega
    · obtain rfl : k = 2 := by omega
      obtain ⟨o, ho⟩ : ∃ o, o = bestK V.length S 2 := ⟨_, rfl⟩
      rw [← ho] at hBest
      have HO := Lib.hid ho
      have HR := Lib.hid hR
      have HBe := Lib.hid hBest
      have HC := Lib.hid hcr
      clear ho
      obtain ⟨c0, c1, c2, f0, f1, f2⟩ := root_cells hR
      obtain ⟨d0, d1, d2, _, _, _⟩ := root_cells hBest
      have hd : decide ((0 : Int) < (o.epoch : Int)) = decide (0 < o.epoch) := by congr 1; apply propext; omega
      have HD := Lib.hid hd
      clear hR hBest hcr hd
      go_wp2_with fail
      go_region
      go_wp2_with fail
      obtain ⟨hS, hCS⟩ := root_set HC.out hwg HR.out (.int .i64 (o.log : Int)) (.int .i64 (o.pages : Int)) (.int .u32 (o.epoch : Int))
      generalize ((wr.setCell ⟨g, 0, none⟩ (.int .i64 (o.log : Int))).setCell ⟨g, 1, none⟩ (.int .i64 (o.pages : Int))).setCell ⟨g, 2, none⟩ (.int .u32 (o.epoch : Int)) = w9 at hS hCS ⊢
      obtain ⟨k0, k1, k2, _, _, _⟩ := root_cells hS.drew
      exact bodyPost_ret (v := .tuple #[rootV o.log o.pages o.epoch, .bool (decide (0 < o.epoch))]) (by simp [results, Tryz.results55, go_sem, rootV, k0, k1, k2]) rfl ⟨by rw [← HO.out], hCS.drew⟩
end
end Go.Proofs.YtddjgncdjdjgeaaGreat
