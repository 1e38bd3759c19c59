/-
  S: HomeAll, RootRead, RedoRefL.
-/
import Derived.Test.YtddjgncdjdjgeaaGreatZS3
import Derived.Test.YtddjgncdjdjgeaaGreatZS7
import Derived.Test.YtddjgncdjdjgeaaGreatZS12
import Derived.Test.YtddjgncdjdjgeaaGreatZS14
import Derived.Test.YtddjgncdjdjgeaaGreatZS21
import Derived.Outline
namespace Go.Proofs.YtddjgncdjdjgeaaGreat
open Go.RowKit
/-- The first n pages. -/
def pagesL (s : St) (L : Int) (n : Nat) : List (List UInt8) := (List.range n).map fun i => sectL s.S s.V.length (2 + L.toNat + i)
/-- All pages, or none. -/
def allL (s : St) (L P E : Int) : List (List UInt8) := if rightR L P E s.V.length = true then pagesL s L P.toNat else []
theorem pagesL_next (s : St) (L : Int) (n : Nat) : pagesL s L (n + 1) = pagesL s L n ++ [sectL s.S s.V.length (2 + L.toNat + n)] := by
  unfold pagesL; rw [List.range_succ, List.map_append]; rfl
theorem pagesL_len (s : St) (L : Int) (n : Nat) : (pagesL s L n).length = n := by simp [pagesL]
theorem hasR_at {L P E : Int} {n k : Nat} (h : rightR L P E n = true) (hk : (k : Int) < P) : hasR L P E k n = true ∧ (homeI L P k).toNat = 2 + L.toNat + k ∧ 2 + L.toNat + k < n ∧ homeI L P k = ((2 + L.toNat + k : Nat) : Int) := by
  have h1 := hasR_in (i := k) h (by omega) hk
  obtain ⟨a, b, c, d, e, f⟩ := rightR_true.1 h
  have e1 := homeI_in (L := L) (P := P) (i := k) a b d (by omega) hk
  exact ⟨h1, by rw [e1]; omega, by omega, by rw [e1]; omega⟩
/-- Rows of the call's own. -/
def RowsPost (w : World) (ls : List (List UInt8)) (e : Ending) (w' : World) : Prop :=
  ∃ v vs, e = .returned v ∧ w'.ownsRow w.heap.size 30 1 v ls.length vs ∧ Rows w.heap.size w' vs ls ∧ Chg [] w w'
section
variable {w : World} {p bL bS bW : Nat} {s : St}
set_option maxHeartbeats 1000000 in
set_option maxRecDepth 100000 in
theorem hall_any (h : DskS w p bL bS bW s) (L P E : Int) :
    Calls Tryz.prog 56 #[.pointer (some ⟨p, 0, none⟩), rootV L P E] w (RowsPost w (allL s L P E)) := by
  obtain ⟨i0, hi, hz, hs1, hb⟩ := info_parts info_bytes
  have hr0 : rootV L P E = .agg #[.int .i64 L, .int .i64 P, .int .u32 E] := rfl
  have H := Lib.hid h
  clear h
  rw [hr0]
  go_enter Tryz.func56, Tryz.ntmps56
  go_wp2_with fail
  have hR := Whole.new w 58 [.int .i64 L, .int .i64 P, .int .u32 E]
  have hc1 : Chg [] w (w.alloc (.cells #[.int .i64 L, .int .i64 P, .int .u32 E] 58)) := (Chg.refl [] w).alloc _
  obtain ⟨g, hg⟩ : ∃ g, g = w.heap.size := ⟨_, rfl⟩
  rw [← hg] at hR ⊢
  generalize w.alloc (.cells #[.int .i64 L, .int .i64 P, .int .u32 E] 58) = w1 at hc1 hR ⊢
  clear hg
  obtain ⟨c0, c1, c2, _, _, _⟩ := root_cells hR
  go_wp2_with fail
  clear c0 c1 c2
  cases hrr : rightR L P E s.V.length with
  | false =>
    have HF := Lib.hid (show allL s L P E = [] by unfold allL; rw [if_neg (by rw [hrr]; simp)])
    go_loopw [5, 11] (fun v i wr => v = .slice none 0 0 ∧ i = .int .i64 0 ∧ Chg [] w1 wr) (fun _ _ _ => 0)
    case atStart => exact ⟨rfl, rfl, Chg.refl _ _⟩
    case round =>
      obtain ⟨rfl, rfl, hcr⟩ := hrel
      by_cases hP : 0 < P
      · obtain ⟨c0, c1, c2, _, _, _⟩ := root_cells (hR.keep hcr)
        go_wp2_with fail
        refine (hpage_any (Dsk.keep H.out (hc1.new hcr)) L P E 0).mono ?_
        rintro e w2 (⟨hyes, _⟩ | ⟨_, rfl, hc2⟩)
        · rw [hasR_wrong hrr] at hyes; cases hyes
        clear c0 c1 c2
        go_wp2_with fail
        go_ret
        rw [HF.out]
        exact ⟨_, [], rfl, own_nil _ _ _, Rows.nil _ _, (hc1.new hcr).new hc2⟩
      · go_wp2_with fail
        go_ret
        rw [HF.out]
        exact ⟨_, [], rfl, own_nil _ _ _, Rows.nil _ _, hc1.new hcr⟩
  | true =>
    have hP1 : 1 ≤ P := (rightR_true.1 hrr).2.2.1
    have hP64 : P ≤ 64 := (rightR_true.1 hrr).2.2.2.1
    have HF := Lib.hid (show allL s L P E = pagesL s L P.toNat by unfold allL; rw [if_pos hrr])
    go_loopw [5, 11] (fun v i wr => ∃ k : Nat, ∃ vs, (k : Int) ≤ P ∧ i = .int .i64 (k : Int) ∧ wr.ownsRow w1.heap.size 30 1 v k vs ∧ Rows w.heap.size wr vs (pagesL s L k) ∧ Chg [] w1 wr) (fun _ i _ => P.toNat - (intOf i).toNat)
    case atStart => exact ⟨0, [], by omega, rfl, own_nil _ _ _, Rows.nil _ _, Chg.refl _ _⟩
    case round =>
      obtain ⟨k, vs, hk, rfl, hown, hrows, hcr⟩ := hrel
      obtain ⟨Av, cv, rfl, hvl, hvc, _⟩ := own_slice hown
      have hcw := Lib.hid (hc1.new hcr)
      by_cases hlt : (k : Int) < P
      · obtain ⟨hh, hx, -, -⟩ := hasR_at hrr hlt
        have HX := Lib.hid hx
        clear hx
        obtain ⟨c0, c1, c2, _, _, _⟩ := root_cells (hR.keep hcr)
        go_wp2_with fail
        refine (hpage_any (Dsk.keep H.out hcw.out) L P E k).mono ?_
        rintro e w2 (⟨_, v2, rfl, ho2, hc2⟩ | ⟨hno, _⟩)
        rotate_left
        · rw [hh] at hno; cases hno
        rw [HX.out] at ho2
        obtain ⟨A2, c2', rfl, _⟩ := own_slice ho2
        have how := own_keep hown hc2
        have hrw := hrows.keep hc2
        have hb2 := Nat.le_trans hcr.size hc2.size
        have hx1 := Lib.hid (show k + 1 ≤ maxLen by unfold maxLen; omega)
        have hx2 := Lib.hid (show (k + 1) * 24 ≤ 140737488355328 by omega)
        have hx3 := Lib.hid hb2
        clear c0 c1 c2 hb2
        go_wp2_with (at_builtin
                     refine wpList_append_src rfl (.tmp 23) (.tmp 25) 66 rfl w1.heap.size 30 i0 _ 24 Tryz.underlying66 hi hz hs1 hb cells_slice (.slice Av k cv) k vs rfl (own_keep how ((Chg.refl _ _).alloc _)) (some ⟨w2.heap.size, 0, none⟩) 1 1 [.slice A2 64 c2'] rfl rfl (Src.of_all (Whole.new w2 30 [.slice A2 64 c2'])) (fun u hu => by simp at hu; rw [hu]; rfl) hx1.out hx2.out (by simp; have := hx3.out; omega) ?_
                     intro v4 w4 ho4 hg4 _)
        have hlen := sectL_len (k := 2 + L.toNat + k) H.out.lenS (hasR_at hrr hlt).2.2.1
        have hch1 : Chg [] w1 w4 := ((hcr.new hc2).alloc _).own (own_keep how ((Chg.refl _ _).alloc _)) (Nat.le_refl _) hg4
        go_roundw
        case rel =>
          refine ⟨k + 1, _, by omega, by go_num, ho4, ?_, hch1⟩
          rw [pagesL_next]
          exact ((hrw.keep ((Chg.refl _ _).alloc _)).snoc (by rw [hlen]; exact own_more (own_keep ho2 ((Chg.refl _ _).alloc _)) hcw.out.size)).grown (own_keep how ((Chg.refl _ _).alloc _)) hg4
        case measure => simp [intOf]; omega
      · go_wp2_with fail
        go_ret
        rw [HF.out]
        have hkP : P.toNat = k := by omega
        rw [hkP]
        exact ⟨_, vs, rfl, by rw [pagesL_len]; exact own_more hown hc1.size, hrows, hcw.out⟩
end
section
variable {w : World} {p gL gN gW : Nat} {rL rN : List Value} {lf m : Int} {s : St}
set_option maxHeartbeats 1000000 in
set_option maxRecDepth 100000 in
theorem rall_any (h : Rfx w p gL gN gW rL rN lf m s) (L P E : Int) :
    Calls Tryz.prog 60 #[.pointer (some ⟨p, 0, none⟩), rootV L P E] w (RowsPost w (allL s L P E)) := by
  obtain ⟨i0, hi, hz, hs1, hb⟩ := info_parts info_bytes
  have hr0 : rootV L P E = .agg #[.int .i64 L, .int .i64 P, .int .u32 E] := rfl
  have H := Lib.hid h
  clear h
  rw [hr0]
  go_enter Tryz.func60, Tryz.ntmps60
  go_wp2_with fail
  have hR := Whole.new w 58 [.int .i64 L, .int .i64 P, .int .u32 E]
  have hc1 : Chg [] w (w.alloc (.cells #[.int .i64 L, .int .i64 P, .int .u32 E] 58)) := (Chg.refl [] w).alloc _
  obtain ⟨g, hg⟩ : ∃ g, g = w.heap.size := ⟨_, rfl⟩
  rw [← hg] at hR ⊢
  generalize w.alloc (.cells #[.int .i64 L, .int .i64 P, .int .u32 E] 58) = w1 at hc1 hR ⊢
  clear hg
  have hld := fun (W : World) (hW : Chg [] w1.drew W) => root_cells (hR.drew.keep hW)
  cases hrr : rightR L P E s.V.length with
  | false =>
    have HF := Lib.hid (show allL s L P E = [] by unfold allL; rw [if_neg (by rw [hrr]; simp)])
    refine wp_flow (by kernel_rfl) plainT plainT_ok (by kernel_rfl) ?_
    refine flow1h (r := rootV L P E) plainT_ok rfl (.out rfl rfl) rfl (fun ev W he hW e1 => by obtain ⟨c0, c1, c2, _, _, _⟩ := hld W hW; go_simp) ?_
    refine flow_move_out plainT_ok rfl rfl rfl ?_
    refine flow_callv (.int .i64 (s.V.length : Int)) (by kernel_rfl) rfl (.cons (.inn rfl) .nil) (fun W hW => (rlen_any ((H.out.keep hc1.drew).keep hW)).mono ?_) ?_
    · rintro e w' ⟨rfl, rfl⟩; exact ⟨rfl, Chg.refl _ _⟩
    refine flow_callv (.bool false) (by kernel_rfl) rfl (.cons (.inn rfl) (.cons (.inn rfl) .nil)) (fun W hW => (rrright_any _ _ _ _).mono ?_) ?_
    · rintro e w' ⟨rfl, hc⟩; exact ⟨by rw [hrr], hc⟩
    refine flow1 (r := .bool true) plainT_ok rfl (.inn rfl) rfl (fun ev W he e1 => by go_simp) ?_
    intro vs W hW hF
    have e13 : vs 13 = .bool true := hF 13 _ rfl rfl
    simp only [putAll, Act.put, List.setIfInBounds_toArray, List.set_cons_zero, List.set_cons_succ, e13]
    have hRW := hR.drew.keep hW
    have hcW := hc1.drew.new hW
    clear hF hld hW
    go_wp2_with fail
    go_ret
    rw [HF.out]
    exact ⟨_, [], rfl, own_nil _ _ _, Rows.nil _ _, hcW⟩
  | true =>
    have hP1 : 1 ≤ P := (rightR_true.1 hrr).2.2.1
    have hP64 : P ≤ 64 := (rightR_true.1 hrr).2.2.2.1
    have HF := Lib.hid (show allL s L P E = pagesL s L P.toNat by unfold allL; rw [if_pos hrr])
    refine wp_flow (by kernel_rfl) plainT plainT_ok (by kernel_rfl) ?_
    refine flow1h (r := rootV L P E) plainT_ok rfl (.out rfl rfl) rfl (fun ev W he hW e1 => by obtain ⟨c0, c1, c2, _, _, _⟩ := hld W hW; go_simp) ?_
    refine flow_move_out plainT_ok rfl rfl rfl ?_
    refine flow_callv (.int .i64 (s.V.length : Int)) (by kernel_rfl) rfl (.cons (.inn rfl) .nil) (fun W hW => (rlen_any ((H.out.keep hc1.drew).keep hW)).mono ?_) ?_
    · rintro e w' ⟨rfl, rfl⟩; exact ⟨rfl, Chg.refl _ _⟩
    refine flow_callv (.bool true) (by kernel_rfl) rfl (.cons (.inn rfl) (.cons (.inn rfl) .nil)) (fun W hW => (rrright_any _ _ _ _).mono ?_) ?_
    · rintro e w' ⟨rfl, hc⟩; exact ⟨by rw [hrr], hc⟩
    refine flow1 (r := .bool false) plainT_ok rfl (.inn rfl) rfl (fun ev W he e1 => by go_simp) ?_
    intro vs W hW hF
    have e13 : vs 13 = .bool false := hF 13 _ rfl rfl
    simp only [putAll, Act.put, List.setIfInBounds_toArray, List.set_cons_zero, List.set_cons_succ, e13]
    have hRW := hR.drew.keep hW
    have hcW := hc1.drew.new hW
    clear hF hld hW
    go_wp2_with fail
    go_loopw [5, 6] (fun v i wr => ∃ k : Nat, ∃ vs, (k : Int) ≤ P ∧ i = .int .i64 (k : Int) ∧ wr.ownsRow W.heap.size 30 1 v k vs ∧ Rows w.heap.size wr vs (pagesL s L k) ∧ Chg [] W wr) (fun _ i _ => P.toNat - (intOf i).toNat)
    case atStart => exact ⟨0, [], by omega, rfl, own_nil _ _ _, Rows.nil _ _, Chg.refl _ _⟩
    case round =>
      obtain ⟨k, vs, hk, rfl, hown, hrows, hcr⟩ := hrel
      obtain ⟨Av, cv, rfl, hvl, hvc, _⟩ := own_slice hown
      have hcw := Lib.hid (hcW.new hcr)
      by_cases hlt : (k : Int) < P
      · obtain ⟨q, hq, hkn, hx⟩ : ∃ q, q = 2 + L.toNat + k ∧ q < s.V.length ∧ homeI L P k = (q : Int) := ⟨_, rfl, (hasR_at hrr hlt).2.2.1, (hasR_at hrr hlt).2.2.2⟩
        have HQ := Lib.hid hq
        have HS := Lib.hid (show sectL s.S s.V.length q = (s.S.drop (q * 64)).take 64 by unfold sectL; rw [if_pos hkn])
        clear hq
        have HX := Lib.hid hx
        clear hx
        obtain ⟨c0, c1, c2, _, _, _⟩ := root_cells (hRW.keep hcr)
        go_wp2_with fail
        refine (rhome_any L P E k).mono ?_
        rintro e wa ⟨rfl, hca⟩
        rw [HX.out]
        have HCA := Lib.hid hca
        clear hca
        go_wp2_with fail
        refine (rread_own ((H.out.keep hcw.out).keep HCA.out) q hkn).mono ?_
        rintro e w2 ⟨v2, rfl, ho2, hc2'⟩
        have hc2 : Chg [] wr w2 := HCA.out.new hc2'
        have ho2 := own_more ho2 HCA.out.size
        rw [← HS.out] at ho2
        clear hc2'
        obtain ⟨A2, c2', rfl, _⟩ := own_slice ho2
        have how := own_keep hown hc2
        have hrw := hrows.keep hc2
        have hb2 := Nat.le_trans hcr.size hc2.size
        have hx1 := Lib.hid (show k + 1 ≤ maxLen by unfold maxLen; omega)
        have hx2 := Lib.hid (show (k + 1) * 24 ≤ 140737488355328 by omega)
        have hx3 := Lib.hid hb2
        clear c0 c1 c2 hb2
        go_wp2_with (at_builtin
                     refine wpList_append_src rfl (.tmp 29) (.tmp 31) 66 rfl W.heap.size 30 i0 _ 24 Tryz.underlying66 hi hz hs1 hb cells_slice (.slice Av k cv) k vs rfl (own_keep how ((Chg.refl _ _).alloc _)) (some ⟨w2.heap.size, 0, none⟩) 1 1 [.slice A2 64 c2'] rfl rfl (Src.of_all (Whole.new w2 30 [.slice A2 64 c2'])) (fun u hu => by simp at hu; rw [hu]; rfl) hx1.out hx2.out (by simp; have := hx3.out; omega) ?_
                     intro v4 w4 ho4 hg4 _)
        have hlen := sectL_len (k := q) H.out.lenS hkn
        have hch1 : Chg [] W w4 := ((hcr.new hc2).alloc _).own (own_keep how ((Chg.refl _ _).alloc _)) (Nat.le_refl _) hg4
        go_roundw
        case rel =>
          refine ⟨k + 1, _, by omega, by go_num, ho4, ?_, hch1⟩
          rw [pagesL_next, ← HQ.out]
          exact ((hrw.keep ((Chg.refl _ _).alloc _)).snoc (by rw [hlen]; exact own_more (own_keep ho2 ((Chg.refl _ _).alloc _)) hcw.out.size)).grown (own_keep how ((Chg.refl _ _).alloc _)) hg4
        case measure => simp [intOf]; omega
      · obtain ⟨c0, c1, c2, _, _, _⟩ := root_cells (hRW.keep hcr)
        go_wp2_with fail
        go_ret
        rw [HF.out]
        have hkP : P.toNat = k := by omega
        rw [hkP]
        exact ⟨_, vs, rfl, by rw [pagesL_len]; exact own_more hown hcW.size, hrows, hcw.out⟩
end
end Go.Proofs.YtddjgncdjdjgeaaGreat
namespace Go.Proofs.YtddjgncdjdjgeaaGreat
open Go.RowKit
/-- What Read answers. -/
def ReadRPost (l : List UInt8) (w : World) (e : Ending) (w' : World) : Prop :=
  (isRoot l ∧ e = .returned (.tuple #[rootV (getI l 4 : Nat) (getI l 8 : Nat) (getI l 12 : Nat), .bool true]) ∧ Chg [] w w') ∨
  (¬ isRoot l ∧ e = .returned (.tuple #[rootV 0 0 0, .bool false]) ∧ Chg [] w w')
/-- A root that is stored whole into a block of the call's own. -/
theorem root_set {w W : World} {g : Nat} {x y z : Value} (hc : Chg [] w W) (hg : w.heap.size ≤ g) (h : Whole W g 58 [x, y, z]) (a b c : Value) :
    Whole (((W.setCell ⟨g, 0, none⟩ a).setCell ⟨g, 1, none⟩ b).setCell ⟨g, 2, none⟩ c) g 58 [a, b, c] ∧ Chg [] w (((W.setCell ⟨g, 0, none⟩ a).setCell ⟨g, 1, none⟩ b).setCell ⟨g, 2, none⟩ c) := by
  have hx : ∀ o : Nat, (⟨g, o, none⟩ : Addr).block < w.heap.size → (⟨g, o, none⟩ : Addr).block ∈ ([] : List Nat) := fun o h => absurd h (by simp only; omega)
  exact ⟨((h.set_ 0 a).set_ 1 b).set_ 2 c, ((hc.setCell (hx 0) _).setCell (hx 1) _).setCell (hx 2) _⟩
section
variable {w : World} {A : Option Addr} {n c : Nat} {l : List UInt8}
set_option maxHeartbeats 4000000 in
set_option maxRecDepth 100000 in
theorem rootread_any (h : Bs w A n c l) : Calls Tryz.prog 94 #[.slice A n c] w (ReadRPost l w) := by
  have H := Lib.hid h
  have h4 := getI_lt l 4
  have h8 := getI_lt l 8
  have h12 := getI_lt l 12
  clear h
  go_enter Tryz.func94, Tryz.ntmps94
  go_wp2_with fail
  have hc1 : Chg [] w (w.alloc (.cells #[.int .i64 0, .int .i64 0, .int .u32 0] 58)) := (Chg.refl [] w).alloc _
  have hR := Whole.new w 58 [.int .i64 0, .int .i64 0, .int .u32 0]
  obtain ⟨g, hg⟩ : ∃ g, g = w.heap.size := ⟨_, rfl⟩
  rw [← hg] at hR ⊢
  generalize w.alloc (.cells #[.int .i64 0, .int .i64 0, .int .u32 0] 58) = w1 at hc1 hR ⊢
  have hwg : w.heap.size ≤ g := by omega
  clear hg
  refine (get_b (H.out.keep hc1) 4 (by omega)).mono ?_
  rintro e w' ⟨rfl, rfl⟩
  go_wp2_with fail
  refine (get_b (H.out.keep hc1) 8 (by omega)).mono ?_
  rintro e w' ⟨rfl, rfl⟩
  have HC1 := Lib.hid hc1
  have HR := Lib.hid hR
  by_cases hab : 2147483647 < getI l 4 ∨ 2147483647 < getI l 8
  · have HNO := Lib.hid (show ¬ isRoot l from fun h => by have := h.1; have := h.2.1; omega)
    obtain ⟨c0, c1, c2, f0, f1, f2⟩ := root_cells hR
    clear hR hc1
    rcases hab with ha | ha
    · have hd : decide ((2147483647 : Int) < ((getI l 4 : Nat) : Int)) = true := by simp; omega
      go_wp2_with fail
      obtain ⟨hS, hCS⟩ := root_set HC1.out hwg HR.out (.int .i64 0) (.int .i64 0) (.int .u32 0)
      generalize ((w1.setCell ⟨g, 0, none⟩ (.int .i64 0)).setCell ⟨g, 1, none⟩ (.int .i64 0)).setCell ⟨g, 2, none⟩ (.int .u32 0) = w9 at hS hCS ⊢
      obtain ⟨k0, k1, k2, _, _, _⟩ := root_cells hS
      exact bodyPost_ret (v := .tuple #[rootV 0 0 0, .bool false]) (by simp [results, Tryz.results94, go_sem, rootV, k0, k1, k2]) rfl (.inr ⟨HNO.out, rfl, hCS⟩)
    · by_cases ha4 : 2147483647 < getI l 4
      · have hd : decide ((2147483647 : Int) < ((getI l 4 : Nat) : Int)) = true := by simp; omega
        go_wp2_with fail
        obtain ⟨hS, hCS⟩ := root_set HC1.out hwg HR.out (.int .i64 0) (.int .i64 0) (.int .u32 0)
        generalize ((w1.setCell ⟨g, 0, none⟩ (.int .i64 0)).setCell ⟨g, 1, none⟩ (.int .i64 0)).setCell ⟨g, 2, none⟩ (.int .u32 0) = w9 at hS hCS ⊢
        obtain ⟨k0, k1, k2, _, _, _⟩ := root_cells hS
        exact bodyPost_ret (v := .tuple #[rootV 0 0 0, .bool false]) (by simp [results, Tryz.results94, go_sem, rootV, k0, k1, k2]) rfl (.inr ⟨HNO.out, rfl, hCS⟩)
      · have hd : decide ((2147483647 : Int) < ((getI l 4 : Nat) : Int)) = false := by simp; omega
        have hd2 : decide ((2147483647 : Int) < ((getI l 8 : Nat) : Int)) = true := by simp; omega
        go_wp2_with fail
        obtain ⟨hS, hCS⟩ := root_set HC1.out hwg HR.out (.int .i64 0) (.int .i64 0) (.int .u32 0)
        generalize ((w1.setCell ⟨g, 0, none⟩ (.int .i64 0)).setCell ⟨g, 1, none⟩ (.int .i64 0)).setCell ⟨g, 2, none⟩ (.int .u32 0) = w9 at hS hCS ⊢
        obtain ⟨k0, k1, k2, _, _, _⟩ := root_cells hS
        exact bodyPost_ret (v := .tuple #[rootV 0 0 0, .bool false]) (by simp [results, Tryz.results94, go_sem, rootV, k0, k1, k2]) rfl (.inr ⟨HNO.out, rfl, hCS⟩)
  · have hd : decide ((2147483647 : Int) < ((getI l 4 : Nat) : Int)) = false := by simp; omega
    have hd2 : decide ((2147483647 : Int) < ((getI l 8 : Nat) : Int)) = false := by simp; omega
    have hle4 : getI l 4 ≤ 2147483647 := by omega
    have hle8 : getI l 8 ≤ 2147483647 := by omega
    have HI := Lib.hid (show isRoot l ↔ l = rootL (getI l 4) (getI l 8) (getI l 12) from ⟨fun h => h.2.2, fun h => ⟨hle4, hle8, h⟩⟩)
    have m4 : IntKind.i64.wrap ((getI l 4 : Nat) : Int) = ((getI l 4 : Nat) : Int) := IntWalk.i64_in _ (by omega)
    have m8 : IntKind.i64.wrap ((getI l 8 : Nat) : Int) = ((getI l 8 : Nat) : Int) := IntWalk.i64_in _ (by omega)
    clear hab
    generalize hq4 : getI l 4 = a at *
    generalize hq8 : getI l 8 = b at *
    generalize hq12 : getI l 12 = d at *
    have HQ := Lib.hid (And.intro hq4 (And.intro hq8 hq12))
    clear hq4 hq8 hq12 hR hc1
    go_wp2_with fail
    refine (get_b (H.out.keep HC1.out) 12 (by omega)).mono ?_
    rintro e w' ⟨rfl, rfl⟩
    rw [HQ.out.2.2]
    go_wp2_with fail
    have hN := Whole.new w1 58 [.int .i64 (a : Int), .int .i64 (b : Int), .int .u32 (d : Int)]
    have hc2 : Chg [] w (w1.alloc (.cells #[.int .i64 (a : Int), .int .i64 (b : Int), .int .u32 (d : Int)] 58)) := HC1.out.alloc _
    have hR2 := HR.out.keep ((Chg.refl [] w1).alloc (.cells #[.int .i64 (a : Int), .int .i64 (b : Int), .int .u32 (d : Int)] 58))
    generalize w1.alloc (.cells #[.int .i64 (a : Int), .int .i64 (b : Int), .int .u32 (d : Int)] 58) = w2 at hN hc2 hR2 ⊢
    generalize w1.heap.size = g6 at hN ⊢
    refine (rootbytes_any a b d hle4 hle8 h12).mono ?_
    rintro e w3 ⟨v3, rfl, ho3, hc3⟩
    obtain ⟨A3, c3, rfl, hB3, _⟩ := Bs.of_own ho3
    rw [rootL_len] at hB3 ⊢
    have HC3 := Lib.hid (hc2.new hc3)
    have HR3 := Lib.hid (hR2.keep hc3)
    have hN3 := hN.keep hc3
    have HB3 := Lib.hid hB3
    clear hN hc2 hR2 ho3 hc3 hB3
    go_wp2_with fail
    refine (bequal_any (H.out.keep HC3.out) HB3.out).mono ?_
    rintro e w' ⟨rfl, rfl⟩
    obtain ⟨c0, c1, c2, f0, f1, f2⟩ := root_cells HR3.out
    obtain ⟨e0, e1, e2, _, _, _⟩ := root_cells hN3
    clear hN3
    by_cases hl : l = rootL a b d
    · have HYES := Lib.hid (HI.out.2 hl)
      have hdl : decide (l = rootL a b d) = true := by simpa using hl
      rw [hdl]
      clear hdl hl
      go_wp2_with fail
      obtain ⟨hS, hCS⟩ := root_set HC3.out hwg HR3.out (.int .i64 (a : Int)) (.int .i64 (b : Int)) (.int .u32 (d : Int))
      generalize ((w3.setCell ⟨g, 0, none⟩ (.int .i64 (a : Int))).setCell ⟨g, 1, none⟩ (.int .i64 (b : Int))).setCell ⟨g, 2, none⟩ (.int .u32 (d : Int)) = w9 at hS hCS ⊢
      obtain ⟨k0, k1, k2, _, _, _⟩ := root_cells hS
      exact bodyPost_ret (v := .tuple #[rootV a b d, .bool true]) (by simp [results, Tryz.results94, go_sem, rootV, k0, k1, k2]) rfl (.inl ⟨HYES.out, by rw [HQ.out.1, HQ.out.2.1, HQ.out.2.2], hCS⟩)
    · have HNO := Lib.hid (fun h => hl (HI.out.1 h))
      have hdl : decide (l = rootL a b d) = false := by simpa using hl
      rw [hdl]
      clear hdl hl
      go_wp2_with fail
      obtain ⟨hS, hCS⟩ := root_set HC3.out hwg HR3.out (.int .i64 0) (.int .i64 0) (.int .u32 0)
      generalize ((w3.setCell ⟨g, 0, none⟩ (.int .i64 0)).setCell ⟨g, 1, none⟩ (.int .i64 0)).setCell ⟨g, 2, none⟩ (.int .u32 0) = w9 at hS hCS ⊢
      obtain ⟨k0, k1, k2, _, _, _⟩ := root_cells hS
      exact bodyPost_ret (v := .tuple #[rootV 0 0 0, .bool false]) (by simp [results, Tryz.results94, go_sem, rootV, k0, k1, k2]) rfl (.inr ⟨HNO.out, rfl, hCS⟩)
end
end Go.Proofs.YtddjgncdjdjgeaaGreat
namespace Go.Proofs.YtddjgncdjdjgeaaGreat
open Go.RowKit
section
variable {w : World} {p gL gN gW : Nat} {rL rN : List Value} {lf m : Int} {s : St}
set_option maxHeartbeats 2000000 in
set_option maxRecDepth 100000 in
theorem rlog_nil (h : Rfx w p gL gN gW rL rN lf m s) (L P E : Int) :
    Calls Tryz.prog 103 #[.pointer (some ⟨p, 0, none⟩), rootV L P E] w fun e w' => BytesPost w (logL s L P E) e w' ∧ (rightR L P E s.V.length = false → e = .returned (.slice none 0 0)) := by
  obtain ⟨iu, hui, huz, hus, hub⟩ := info_parts info_byte
  have hr0 : rootV L P E = .agg #[.int .i64 L, .int .i64 P, .int .u32 E] := rfl
  have H := Lib.hid h
  clear h
  rw [hr0]
  go_enter Tryz.func103, Tryz.ntmps103
  go_wp2_with fail
  have hR := Whole.new w 58 [.int .i64 L, .int .i64 P, .int .u32 E]
  have hc1 : Chg [] w (w.alloc (.cells #[.int .i64 L, .int .i64 P, .int .u32 E] 58)) := (Chg.refl [] w).alloc _
  obtain ⟨g, hg⟩ : ∃ g, g = w.heap.size := ⟨_, rfl⟩
  rw [← hg] at hR ⊢
  generalize w.alloc (.cells #[.int .i64 L, .int .i64 P, .int .u32 E] 58) = w1 at hc1 hR ⊢
  clear hg
  have hld := fun (W : World) (hW : Chg [] w1.drew W) => root_cells (hR.drew.keep hW)
  cases hrr : rightR L P E s.V.length with
  | false =>
    have HF := Lib.hid (show logL s L P E = [] by unfold logL; rw [if_neg (by rw [hrr]; simp)])
    refine wp_flow (by kernel_rfl) plainT plainT_ok (by kernel_rfl) ?_
    refine flow1h (r := rootV L P E) plainT_ok rfl (.out rfl rfl) rfl (fun ev W he hW e1 => by obtain ⟨c0, c1, c2, _, _, _⟩ := hld W hW; go_simp) ?_
    refine flow_move_out plainT_ok rfl rfl rfl ?_
    refine flow_callv (.int .i64 (s.V.length : Int)) (by kernel_rfl) rfl (.cons (.inn rfl) .nil) (fun W hW => (rlen_any ((H.out.keep hc1.drew).keep hW)).mono ?_) ?_
    · rintro e w' ⟨rfl, rfl⟩; exact ⟨rfl, Chg.refl _ _⟩
    refine flow_callv (.bool false) (by kernel_rfl) rfl (.cons (.inn rfl) (.cons (.inn rfl) .nil)) (fun W hW => (rrright_any _ _ _ _).mono ?_) ?_
    · rintro e w' ⟨rfl, hc⟩; exact ⟨by rw [hrr], hc⟩
    refine flow1 (r := .bool true) plainT_ok rfl (.inn rfl) rfl (fun ev W he e1 => by go_simp) ?_
    intro vs W hW hF
    have e13 : vs 13 = .bool true := hF 13 _ rfl rfl
    simp only [putAll, Act.put, List.setIfInBounds_toArray, List.set_cons_zero, List.set_cons_succ, e13]
    have HCW := Lib.hid (hc1.drew.new hW)
    clear hF hld hW
    go_wp2_with fail
    go_ret
    rw [HF.out]
    exact ⟨⟨_, rfl, own_nil _ _ _, HCW.out⟩, fun _ => rfl⟩
  | true =>
    have hrt := rightR_true.1 hrr
    obtain ⟨l, rfl⟩ := Int.eq_ofNat_of_zero_le (show 0 ≤ L by omega)
    have hl1 : 1 ≤ l := by omega
    have hl64 : l ≤ 64 := by omega
    have hlV : 2 + l ≤ s.V.length := by omega
    have HF := Lib.hid (show logL s l P E = logB s l by unfold logL; rw [if_pos hrr, Int.toNat_natCast])
    have HS := Lib.hid H.out.lenS
    refine wp_flow (by kernel_rfl) plainT plainT_ok (by kernel_rfl) ?_
    refine flow1h (r := rootV l P E) plainT_ok rfl (.out rfl rfl) rfl (fun ev W he hW e1 => by obtain ⟨c0, c1, c2, _, _, _⟩ := hld W hW; go_simp) ?_
    refine flow_move_out plainT_ok rfl rfl rfl ?_
    refine flow_callv (.int .i64 (s.V.length : Int)) (by kernel_rfl) rfl (.cons (.inn rfl) .nil) (fun W hW => (rlen_any ((H.out.keep hc1.drew).keep hW)).mono ?_) ?_
    · rintro e w' ⟨rfl, rfl⟩; exact ⟨rfl, Chg.refl _ _⟩
    refine flow_callv (.bool true) (by kernel_rfl) rfl (.cons (.inn rfl) (.cons (.inn rfl) .nil)) (fun W hW => (rrright_any _ _ _ _).mono ?_) ?_
    · rintro e w' ⟨rfl, hc⟩; exact ⟨by rw [hrr], hc⟩
    refine flow1 (r := .bool false) plainT_ok rfl (.inn rfl) rfl (fun ev W he e1 => by go_simp) ?_
    intro vs W hW hF
    have e13 : vs 13 = .bool false := hF 13 _ rfl rfl
    simp only [putAll, Act.put, List.setIfInBounds_toArray, List.set_cons_zero, List.set_cons_succ, e13]
    have HRW := Lib.hid (hR.drew.keep hW)
    have HCW := Lib.hid (hc1.drew.new hW)
    clear hF hld hW hR hc1 hrt
    go_wp2_with fail
    go_loopw [5, 6] (fun v i wr => ∃ k : Nat, k ≤ l ∧ (∃ q : Nat, i = .int .i64 (q : Int) ∧ Hid (q = 2 + k)) ∧ (∃ n, Hid (n = k * 64) ∧ wr.ownsRow W.heap.size 5 1 v n (bts (logB s k))) ∧ Hid (Chg [] W wr)) (fun _ i _ => 2 + l - (intOf i).toNat)
    case atStart => exact ⟨0, by omega, ⟨2, rfl, Lib.hid rfl⟩, ⟨0, Lib.hid rfl, by unfold logB; simpa [bts] using own_nil _ _ _⟩, Lib.hid (Chg.refl _ _)⟩
    case round =>
      obtain ⟨k, hk, ⟨q, rfl, HQ⟩, ⟨n, Hn, hown⟩, HCr⟩ := hrel
      obtain ⟨Av, cv, rfl, hvl, hvc, _⟩ := own_slice hown
      have HCa := Lib.hid (HCW.out.new HCr.out)
      obtain ⟨c0, c1, c2, _, _, _⟩ := root_cells (HRW.out.keep HCr.out)
      by_cases hlt : k < l
      · have hkI : (q : Int) < 2 + (l : Int) := by have := HQ.out; omega
        have hqV : q < s.V.length := by have := HQ.out; omega
        have hq66 : q ≤ 66 := by have := HQ.out; omega
        go_wp2_with fail
        refine (rread_own (H.out.keep HCa.out) q hqV).mono ?_
        rintro e w5 ⟨v2, rfl, ho2, hc5⟩
        have hl5 : ((s.S.drop (q * 64)).take 64).length = 64 := by rw [List.length_take, List.length_drop, HS.out]; omega
        have HNX := Lib.hid (show logB s (k + 1) = logB s k ++ (s.S.drop (q * 64)).take 64 by rw [logB_next, HQ.out])
        obtain ⟨A2, c2', rfl, _, _, hs2, _⟩ := own_slice ho2
        have HS5 := Lib.hid hs2
        have hx1 := Lib.hid (show (bts ((s.S.drop (q * 64)).take 64)).length = 64 by rw [bts_len, hl5])
        have how := own_keep hown hc5
        have hn4 : n ≤ 4096 := by rw [Hn.out]; omega
        have hx2 := Lib.hid (show n + 64 ≤ maxLen by unfold maxLen; omega)
        have hx3 := Lib.hid (show (n + 64) * 1 ≤ 140737488355328 by omega)
        have hx4 := Lib.hid (show W.heap.size ≤ w5.heap.size from Nat.le_trans HCr.out.size hc5.size)
        have HC5 := Lib.hid (HCr.out.new hc5)
        have h1 := bts_one ((s.S.drop (q * 64)).take 64)
        generalize (s.S.drop (q * 64)).take 64 = Z at HNX HS5 hx1 h1
        clear hl5 hc5 hown hs2 ho2 c0 c1 c2
        go_wp2_with (at_builtin
                     refine wpList_append_src rfl (.tmp 27) (.tmp 28) 30 rfl W.heap.size 5 iu _ 1 Tryz.underlying30 hui huz hus hub cells_u8 (.slice Av n cv) n (bts (logB s k)) rfl how A2 64 c2' (bts Z) rfl hx1.out HS5.out h1 hx2.out hx3.out hx4.out ?_
                     intro v6 w6 ho6 hg6 _)
        have hc6 := HC5.out.own how (Nat.le_refl _) hg6
        go_roundw
        case rel => exact ⟨k + 1, by omega, ⟨q + 1, by go_num, Lib.hid (by have := HQ.out; omega)⟩, ⟨n + 64, Lib.hid (by rw [Hn.out]; omega), by rw [HNX.out, bts_app]; exact ho6⟩, Lib.hid hc6⟩
        case measure => have := HQ.out; simp [intOf]; omega
      · have hkI : ¬ (q : Int) < 2 + (l : Int) := by have := HQ.out; omega
        have HK := Lib.hid (show k = l by omega)
        have HLen := Lib.hid (show (logB s l).length = n by rw [logB_len (by rw [HS.out]; omega), Hn.out, HK.out])
        clear hlt hk
        go_wp2_with fail
        go_ret
        rw [HF.out]
        refine ⟨_, rfl, ?_, HCa.out⟩
        rw [HLen.out, ← HK.out]
        exact own_more hown HCW.out.size
theorem rlog_any (h : Rfx w p gL gN gW rL rN lf m s) (L P E : Int) :
    Calls Tryz.prog 103 #[.pointer (some ⟨p, 0, none⟩), rootV L P E] w (BytesPost w (logL s L P E)) := (rlog_nil h L P E).mono fun _ _ h => h.1
end
end Go.Proofs.YtddjgncdjdjgeaaGreat
