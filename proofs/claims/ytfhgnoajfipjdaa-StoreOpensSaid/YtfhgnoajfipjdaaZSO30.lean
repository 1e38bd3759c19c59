/-
  SO: HomeAll.
-/
import Derived.Test.YtfhgnoajfipjdaaZSO1
import Derived.Test.YtfhgnoajfipjdaaZSO3
import Derived.Test.YtfhgnoajfipjdaaZSO5
import Derived.Test.YtfhgnoajfipjdaaZSO8
import Derived.Test.YtfhgnoajfipjdaaZSO9
import Derived.Test.YtfhgnoajfipjdaaZSO26
namespace Go.Proofs.Ytfhgnoajfipjdaa
open Go.RowKit
/-- The first n pages. -/
def pagesL (s : St) (L : Int) (n : Nat) : List (List UInt8) := (List.range n).map fun i => sectL s.S s.V.length (2 + L.toNat + i)
/-- All pages, or none. -/
def allL (s : St) (L P E : Int) : List (List UInt8) := if rightR L P E s.V.length = true then pagesL s L P.toNat else []
theorem pagesL_next (s : St) (L : Int) (n : Nat) : pagesL s L (n + 1) = pagesL s L n ++ [sectL s.S s.V.length (2 + L.toNat + n)] := by
  unfold pagesL; rw [List.range_succ, List.map_append]; rfl
theorem pagesL_len (s : St) (L : Int) (n : Nat) : (pagesL s L n).length = n := by simp [pagesL]
theorem hasR_at {L P E : Int} {n k : Nat} (h : rightR L P E n = true) (hk : (k : Int) < P) : hasR L P E k n = true ∧ (homeI L P k).toNat = 2 + L.toNat + k ∧ 2 + L.toNat + k < n ∧ homeI L P k = ((2 + L.toNat + k : Nat) : Int) := by
  have h1 := hasR_in (i := k) h (by omega) hk
  obtain ⟨a, b, c, d, e, f⟩ := rightR_true.1 h
  have e1 := homeI_in (L := L) (P := P) (i := k) a b d (by omega) hk
  exact ⟨h1, by rw [e1]; omega, by omega, by rw [e1]; omega⟩
/-- Rows of the call's own. -/
def RowsPost (w : World) (ls : List (List UInt8)) (e : Ending) (w' : World) : Prop :=
  ∃ v vs, e = .returned v ∧ w'.ownsRow w.heap.size 46 1 v ls.length vs ∧ Rows w.heap.size w' vs ls ∧ Chg [] w w'
section
variable {w : World} {p bL bS bW : Nat} {s : St}
set_option maxHeartbeats 1000000 in
set_option maxRecDepth 100000 in
theorem hall_any (h : DskS w p bL bS bW s) (L P E : Int) :
    Calls Try.prog 70 #[.pointer (some ⟨p, 0, none⟩), rootV L P E] w (RowsPost w (allL s L P E)) := by
  obtain ⟨i0, hi, hz, hs1, hb⟩ := info_parts info_bytes
  have hr0 : rootV L P E = .agg #[.int .i64 L, .int .i64 P, .int .u32 E] := rfl
  have H := Lib.hid h
  clear h
  rw [hr0]
  go_enter Try.func70, Try.ntmps70
  go_wp2_with fail
  have hR := Whole.new w 89 [.int .i64 L, .int .i64 P, .int .u32 E]
  have hc1 : Chg [] w (w.alloc (.cells #[.int .i64 L, .int .i64 P, .int .u32 E] 89)) := (Chg.refl [] w).alloc _
  obtain ⟨g, hg⟩ : ∃ g, g = w.heap.size := ⟨_, rfl⟩
  rw [← hg] at hR ⊢
  generalize w.alloc (.cells #[.int .i64 L, .int .i64 P, .int .u32 E] 89) = w1 at hc1 hR ⊢
  clear hg
  obtain ⟨c0, c1, c2, _, _, _⟩ := root_cells hR
  go_wp2_with fail
  clear c0 c1 c2
  cases hrr : rightR L P E s.V.length with
  | false =>
    have HF := Lib.hid (show allL s L P E = [] by unfold allL; rw [if_neg (by rw [hrr]; simp)])
    go_loopw [5, 11] (fun v i wr => v = .slice none 0 0 ∧ i = .int .i64 0 ∧ Chg [] w1 wr) (fun _ _ _ => 0)
    case atStart => exact ⟨rfl, rfl, Chg.refl _ _⟩
    case round =>
      obtain ⟨rfl, rfl, hcr⟩ := hrel
      by_cases hP : 0 < P
      · obtain ⟨c0, c1, c2, _, _, _⟩ := root_cells (hR.keep hcr)
        go_wp2_with fail
        refine (hpage_any (Dsk.keep H.out (hc1.new hcr)) L P E 0).mono ?_
        rintro e w2 (⟨hyes, _⟩ | ⟨_, rfl, hc2⟩)
        · rw [hasR_wrong hrr] at hyes; cases hyes
        clear c0 c1 c2
        go_wp2_with fail
        go_ret
        rw [HF.out]
        exact ⟨_, [], rfl, own_nil _ _ _, Rows.nil _ _, (hc1.new hcr).new hc2⟩
      · go_wp2_with fail
        go_ret
        rw [HF.out]
        exact ⟨_, [], rfl, own_nil _ _ _, Rows.nil _ _, hc1.new hcr⟩
  | true =>
    have hP1 : 1 ≤ P := (rightR_true.1 hrr).2.2.1
    have hP64 : P ≤ 64 := (rightR_true.1 hrr).2.2.2.1
    have HF := Lib.hid (show allL s L P E = pagesL s L P.toNat by unfold allL; rw [if_pos hrr])
    go_loopw [5, 11] (fun v i wr => ∃ k : Nat, ∃ vs, (k : Int) ≤ P ∧ i = .int .i64 (k : Int) ∧ wr.ownsRow w1.heap.size 46 1 v k vs ∧ Rows w.heap.size wr vs (pagesL s L k) ∧ Chg [] w1 wr) (fun _ i _ => P.toNat - (intOf i).toNat)
    case atStart => exact ⟨0, [], by omega, rfl, own_nil _ _ _, Rows.nil _ _, Chg.refl _ _⟩
    case round =>
      obtain ⟨k, vs, hk, rfl, hown, hrows, hcr⟩ := hrel
      obtain ⟨Av, cv, rfl, hvl, hvc, _⟩ := own_slice hown
      have hcw := Lib.hid (hc1.new hcr)
      by_cases hlt : (k : Int) < P
      · obtain ⟨hh, hx, -, -⟩ := hasR_at hrr hlt
        have HX := Lib.hid hx
        clear hx
        obtain ⟨c0, c1, c2, _, _, _⟩ := root_cells (hR.keep hcr)
        go_wp2_with fail
        refine (hpage_any (Dsk.keep H.out hcw.out) L P E k).mono ?_
        rintro e w2 (⟨_, v2, rfl, ho2, hc2⟩ | ⟨hno, _⟩)
        rotate_left
        · rw [hh] at hno; cases hno
        rw [HX.out] at ho2
        obtain ⟨A2, c2', rfl, _⟩ := own_slice ho2
        have how := own_keep hown hc2
        have hrw := hrows.keep hc2
        have hb2 := Nat.le_trans hcr.size hc2.size
        have hx1 := Lib.hid (show k + 1 ≤ maxLen by unfold maxLen; omega)
        have hx2 := Lib.hid (show (k + 1) * 24 ≤ 140737488355328 by omega)
        have hx3 := Lib.hid hb2
        clear c0 c1 c2 hb2
        go_wp2_with (at_builtin
                     refine wpList_append_src rfl (.tmp 23) (.tmp 25) 73 rfl w1.heap.size 46 i0 _ 24 Try.underlying73 hi hz hs1 hb cells_slice (.slice Av k cv) k vs rfl (own_keep how ((Chg.refl _ _).alloc _)) (some ⟨w2.heap.size, 0, none⟩) 1 1 [.slice A2 64 c2'] rfl rfl (Src.of_all (Whole.new w2 46 [.slice A2 64 c2'])) (fun u hu => by simp at hu; rw [hu]; rfl) hx1.out hx2.out (by simp; have := hx3.out; omega) ?_
                     intro v4 w4 ho4 hg4 _)
        have hlen := sectL_len (k := 2 + L.toNat + k) H.out.lenS (hasR_at hrr hlt).2.2.1
        have hch1 : Chg [] w1 w4 := ((hcr.new hc2).alloc _).own (own_keep how ((Chg.refl _ _).alloc _)) (Nat.le_refl _) hg4
        go_roundw
        case rel =>
          refine ⟨k + 1, _, by omega, by go_num, ho4, ?_, hch1⟩
          rw [pagesL_next]
          exact ((hrw.keep ((Chg.refl _ _).alloc _)).snoc (by rw [hlen]; exact own_more (own_keep ho2 ((Chg.refl _ _).alloc _)) hcw.out.size)).grown (own_keep how ((Chg.refl _ _).alloc _)) hg4
        case measure => simp [intOf]; omega
      · go_wp2_with fail
        go_ret
        rw [HF.out]
        have hkP : P.toNat = k := by omega
        rw [hkP]
        exact ⟨_, vs, rfl, by rw [pagesL_len]; exact own_more hown hc1.size, hrows, hcw.out⟩
end
end Go.Proofs.Ytfhgnoajfipjdaa
