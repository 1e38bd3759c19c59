/-
  N: RootBest.
-/
import Derived.Test.YtddjgncdjdjgeaaGreatZN2
import Derived.Test.YtddjgncdjdjgeaaGreatZN3
import Derived.Test.YtddjgncdjdjgeaaGreatZN8
import Derived.Test.YtddjgncdjdjgeaaGreatZN20
namespace Go.Proofs.YtddjgncdjdjgeaaGreat
open Go.RowKit
def cellsV (o : RV) : List Value := [.int .i64 (o.log : Int), .int .i64 (o.pages : Int), .int .u32 (o.epoch : Int)]
/-- What Best answers. -/
def BestPost (o : RV) (w : World) (e : Ending) (w' : World) : Prop := e = .returned (.tuple #[rootV o.log o.pages o.epoch, .bool (decide (0 < o.epoch))]) ∧ Chg [] w w'
section
variable {w : World} {p bL bS bW : Nat} {L S : List UInt8} {V : List Bool}
/-- Read of a sector, or of none. -/
theorem readS_any (h : Dsk w p bL bS bW L S V) (k : Nat) :
    Calls Tryz.prog 93 #[.pointer (some ⟨p, 0, none⟩), .int .i64 (k : Int)] w fun e w' => ∃ A n c b, e = .returned (.tuple #[.slice A n c, .bool b]) ∧ Bs w' A n c (sectL S V.length k) ∧ Chg [] w w' := by
  by_cases hk : k < V.length
  · refine (read_yes h k hk).mono ?_
    rintro e w' ⟨rfl, hW, hc⟩
    refine ⟨_, _, _, _, rfl, ?_, hc⟩
    have hs : sectL S V.length k = (S.drop (k * 64)).take 64 := by unfold sectL; rw [if_pos hk]
    rw [hs]
    have hl : ((S.drop (k * 64)).take 64).length = 64 := by have := h.lenS; rw [List.length_take, List.length_drop]; omega
    have := Bs.of_all hW (by omega)
    rwa [hl] at this
  · refine (read_no h k (by omega)).mono ?_
    rintro e w' ⟨rfl, rfl⟩
    have hs : sectL S V.length k = [] := by unfold sectL; rw [if_neg hk]
    exact ⟨_, _, _, _, rfl, by rw [hs]; exact Bs.nil _, Chg.refl _ _⟩
set_option maxHeartbeats 8000000 in
set_option maxRecDepth 100000 in
theorem best_any (h : Dsk w p bL bS bW L S V) : Calls Tryz.prog 55 #[.pointer (some ⟨p, 0, none⟩)] w (BestPost (bestK V.length S 2) w) := by
  have H := Lib.hid h
  have hVl := h.le
  have hVp := h.pos
  clear h
  go_enter Tryz.func55, Tryz.ntmps55
  go_wp2_with fail
  have hc1 : Chg [] w (w.alloc (.cells #[.int .i64 0, .int .i64 0, .int .u32 0] 58)) := (Chg.refl [] w).alloc _
  have hR := Whole.new w 58 [.int .i64 0, .int .i64 0, .int .u32 0]
  have hz : (w.alloc (.cells #[.int .i64 0, .int .i64 0, .int .u32 0] 58)).heap.size = w.heap.size + 1 := by simp
  generalize w.alloc (.cells #[.int .i64 0, .int .i64 0, .int .u32 0] 58) = w1 at hc1 hR hz ⊢
  have hB := Whole.new w1 58 [.int .i64 0, .int .i64 0, .int .u32 0]
  have hR2 := hR.keep ((Chg.refl [] w1).alloc (.cells #[.int .i64 0, .int .i64 0, .int .u32 0] 58))
  have hc2 := hc1.alloc (.cells #[.int .i64 0, .int .i64 0, .int .u32 0] 58)
  rw [hz] at hB
  generalize w1.alloc (.cells #[.int .i64 0, .int .i64 0, .int .u32 0] 58) = w2 at hB hR2 hc2 ⊢
  obtain ⟨g, hg⟩ : ∃ g, g = w.heap.size := ⟨_, rfl⟩
  rw [← hg] at hR2 hB ⊢
  have hwg : w.heap.size ≤ g := by omega
  clear hg hc1 hR hz
  go_loopw [13] (fun i wr => ∃ k : Nat, k ≤ 2 ∧ i = .int .i64 (k : Int) ∧ Whole wr g 58 [.int .i64 0, .int .i64 0, .int .u32 0] ∧ Whole wr (g + 1) 58 (cellsV (bestK V.length S k)) ∧ Chg [] w wr) (fun i _ => 2 - (intOf i).toNat)
  case atStart => exact ⟨0, by omega, rfl, hR2, hB, hc2⟩
  case round =>
    obtain ⟨k, hk, rfl, hR, hBest, hcr⟩ := hrel
    have hlt3 := bestK_lt V.length S k
    have HSt := Lib.hid (show bestK V.length S (k + 1) = bestStep V.length (bestK V.length S k) (sectL S V.length k) from rfl)
    clear hB hR2 hc2
    by_cases hlt : k < 2
    · generalize bestK V.length S k = o at hBest hlt3 HSt
      have hkI : (k : Int) < 2 := by omega
      have HR := Lib.hid hR
      have HBe := Lib.hid hBest
      have HC := Lib.hid hcr
      clear hR hBest hcr
      go_wp2_with fail
      refine (readS_any (H.out.keep HC.out) k).mono ?_
      rintro e w3 ⟨A3, n3, c3, b3, rfl, hB3, hc3⟩
      have HR3 := Lib.hid (HR.out.keep hc3)
      have HBe3 := Lib.hid (HBe.out.keep hc3)
      have HC3 := Lib.hid (HC.out.new hc3)
      have HB3 := Lib.hid hB3
      generalize sectL S V.length k = s at HB3 HSt
      clear hB3 hc3
      go_wp2_with fail
      refine (rootread_any HB3.out).mono ?_
      intro e w4 hp
      have hc4 : Chg [] w3 w4 := by rcases hp with ⟨_, _, h⟩ | ⟨_, _, h⟩ <;> exact h
      have HR4 := Lib.hid (HR3.out.keep hc4)
      have HBe4 := Lib.hid (HBe3.out.keep hc4)
      have HC4 := Lib.hid (HC3.out.new hc4)
      clear hc4
      rcases hp with ⟨hyes, rfl, _⟩ | ⟨hno, rfl, _⟩
      · have h4 := getI_lt s 4
        have h8 := getI_lt s 8
        have h12 := getI_lt s 12
        have HY := Lib.hid hyes
        clear hyes
        unfold rootV
        go_wp2_with fail
        have hN := Whole.new w4 58 [.int .i64 ((getI s 4 : Nat) : Int), .int .i64 ((getI s 8 : Nat) : Int), .int .u32 ((getI s 12 : Nat) : Int)]
        have hal : Chg [] w4 (w4.alloc (.cells #[.int .i64 ((getI s 4 : Nat) : Int), .int .i64 ((getI s 8 : Nat) : Int), .int .u32 ((getI s 12 : Nat) : Int)] 58)) := (Chg.refl [] w4).alloc _
        have HR5 := Lib.hid (HR4.out.keep hal)
        have HBe5 := Lib.hid (HBe4.out.keep hal)
        have HC5 := Lib.hid (HC4.out.new hal)
        generalize w4.alloc (.cells #[.int .i64 ((getI s 4 : Nat) : Int), .int .i64 ((getI s 8 : Nat) : Int), .int .u32 ((getI s 12 : Nat) : Int)] 58) = w5 at hN HR5 HBe5 HC5 ⊢
        generalize w4.heap.size = g6 at hN ⊢
        have hld := fun (W : World) (hW : Chg [] w5.drew W) => root_cells (hN.drew.keep hW)
        have HN5 := Lib.hid hN
        clear hN hal
        cases hrr : rightR (getI s 4 : Nat) (getI s 8 : Nat) (getI s 12 : Nat) V.length with
        | false =>
          have HN := Lib.hid (show bestStep V.length o s = o by unfold bestStep; rw [if_neg (fun h => by have := h.2.1; rw [hrr] at this; cases this)])
          refine wp_flow (by kernel_rfl) plainT plainT_ok (by kernel_rfl) ?_
          refine flow_move_out plainT_ok rfl rfl rfl ?_
          refine flow_move plainT_ok rfl (keeps_isV _) (.inr (keeps_isV _)) rfl ?_
          refine flow1h (r := rootV (getI s 4 : Nat) (getI s 8 : Nat) (getI s 12 : Nat)) plainT_ok rfl (.out rfl rfl) rfl (fun ev W he hW e1 => by obtain ⟨c0, c1, c2, _, _, _⟩ := hld W hW; go_simp; rfl) ?_
          refine flow_move_out plainT_ok rfl rfl rfl ?_
          refine flow_callv (.int .i64 (V.length : Int)) (by kernel_rfl) rfl (.cons (.inn rfl) .nil) (fun W hW => (len_any (H.out.keep (HC5.out.drew.new hW))).mono ?_) ?_
          · rintro e w' ⟨rfl, rfl⟩; exact ⟨rfl, Chg.refl _ _⟩
          refine flow_callv (.bool (rightR (getI s 4 : Nat) (getI s 8 : Nat) (getI s 12 : Nat) V.length)) (by kernel_rfl) rfl (.cons (.inn rfl) (.cons (.inn rfl) .nil)) (fun W hW => (rright_any _ _ _ _).mono ?_) ?_
          · rintro e w' ⟨rfl, hc⟩; exact ⟨rfl, hc⟩
          rw [hrr]
          refine flow_and plainT_ok rfl rfl rfl ?_
          refine flow_move plainT_ok rfl (keeps_isV _) (.inr (keeps_isV _)) rfl ?_
          refine flow_skip rfl ?_
          refine flow_skip rfl ?_
          refine flow_skip rfl ?_
          refine flow_skip rfl ?_
          refine flow_skip rfl ?_
          refine flow_and_false plainT_ok rfl rfl rfl ?_
          intro vs W hW hF
          have e40 : vs 40 = .bool false := hF 40 _ rfl rfl
          simp only [putAll, Act.put, List.setIfInBounds_toArray, List.set_cons_zero, List.set_cons_succ, e40]
          have HRW := Lib.hid (HR5.out.drew.keep hW)
          have HBW := Lib.hid (HBe5.out.drew.keep hW)
          have HCW := Lib.hid (HC5.out.drew.new hW)
          clear hW hF hld
          go_wp2_with fail
          go_roundw
          case rel => exact ⟨k + 1, by omega, by go_num, HRW.out, by rw [HSt.out, HN.out]; exact HBW.out, HCW.out⟩
          case measure => simp [intOf]; omega
        | true =>
          by_cases hep : o.epoch < getI s 12
          · have HN := Lib.hid (show bestStep V.length o s = ⟨getI s 4, getI s 8, getI s 12⟩ by unfold bestStep; rw [if_pos ⟨HY.out, hrr, hep⟩])
            have hd : decide ((o.epoch : Int) < ((getI s 12 : Nat) : Int)) = true := by simp; omega
            have hlo := fun (W : World) (hW : Chg [] w5.drew W) => root_cells (HBe5.out.drew.keep hW)
            refine wp_flow (by kernel_rfl) plainT plainT_ok (by kernel_rfl) ?_
            refine flow_move_out plainT_ok rfl rfl rfl ?_
            refine flow_move plainT_ok rfl (keeps_isV _) (.inr (keeps_isV _)) rfl ?_
            refine flow1h (r := rootV (getI s 4 : Nat) (getI s 8 : Nat) (getI s 12 : Nat)) plainT_ok rfl (.out rfl rfl) rfl (fun ev W he hW e1 => by obtain ⟨c0, c1, c2, _, _, _⟩ := hld W hW; go_simp; rfl) ?_
            refine flow_move_out plainT_ok rfl rfl rfl ?_
            refine flow_callv (.int .i64 (V.length : Int)) (by kernel_rfl) rfl (.cons (.inn rfl) .nil) (fun W hW => (len_any (H.out.keep (HC5.out.drew.new hW))).mono ?_) ?_
            · rintro e w' ⟨rfl, rfl⟩; exact ⟨rfl, Chg.refl _ _⟩
            refine flow_callv (.bool (rightR (getI s 4 : Nat) (getI s 8 : Nat) (getI s 12 : Nat) V.length)) (by kernel_rfl) rfl (.cons (.inn rfl) (.cons (.inn rfl) .nil)) (fun W hW => (rright_any _ _ _ _).mono ?_) ?_
            · rintro e w' ⟨rfl, hc⟩; exact ⟨rfl, hc⟩
            rw [hrr]
            refine flow_and plainT_ok rfl rfl rfl ?_
            refine flow_move plainT_ok rfl (keeps_isV _) (.inr (keeps_isV _)) rfl ?_
            refine flow1 (r := .pointer (some ⟨g6, 2, none⟩)) plainT_ok rfl (.out rfl rfl) rfl (fun ev W he e1 => by go_simp) ?_
            refine flow1h (r := .int .u32 ((getI s 12 : Nat) : Int)) plainT_ok rfl (.inn rfl) rfl (fun ev W he hW e1 => by obtain ⟨c0, c1, c2, _, _, _⟩ := hld W hW; go_simp) ?_
            refine flow1 (r := .pointer (some ⟨g + 1, 2, none⟩)) plainT_ok rfl (.out rfl rfl) rfl (fun ev W he e1 => by go_simp) ?_
            refine flow1h (r := .int .u32 (o.epoch : Int)) plainT_ok rfl (.inn rfl) rfl (fun ev W he hW e1 => by obtain ⟨c0, c1, c2, _, _, _⟩ := hlo W hW; go_simp) ?_
            refine flow2 (r := .bool true) plainT_ok rfl (.inn rfl) (.inn rfl) rfl (fun ev W he e1 e2 => by go_simp) ?_
            refine flow_and plainT_ok rfl rfl rfl ?_
            intro vs W hW hF
            have e40 : vs 40 = .bool true := hF 40 _ rfl rfl
            simp only [putAll, Act.put, List.setIfInBounds_toArray, List.set_cons_zero, List.set_cons_succ, e40]
            have HRW := Lib.hid (HR5.out.drew.keep hW)
            have HBW := Lib.hid (HBe5.out.drew.keep hW)
            have HCW := Lib.hid (HC5.out.drew.new hW)
            obtain ⟨c0, c1, c2, _, _, _⟩ := hld W hW
            obtain ⟨d0, d1, d2, f0, f1, f2⟩ := hlo W hW
            clear hW hF hld hlo
            go_wp2_with fail
            obtain ⟨hS, hCS⟩ := root_set HCW.out (by omega) HBW.out (.int .i64 ((getI s 4 : Nat) : Int)) (.int .i64 ((getI s 8 : Nat) : Int)) (.int .u32 ((getI s 12 : Nat) : Int))
            have hRS := ((HRW.out.far (p := ⟨g + 1, 0, none⟩) (by simp) (.int .i64 ((getI s 4 : Nat) : Int))).far (p := ⟨g + 1, 1, none⟩) (by simp) (.int .i64 ((getI s 8 : Nat) : Int))).far (p := ⟨g + 1, 2, none⟩) (by simp) (.int .u32 ((getI s 12 : Nat) : Int))
            have HS9 := Lib.hid (And.intro hS (And.intro hCS hRS))
            clear hS hCS hRS
            go_roundw
            case rel => exact ⟨k + 1, by omega, by go_num, HS9.out.2.2, by rw [HSt.out, HN.out]; exact HS9.out.1, HS9.out.2.1⟩
            case measure => simp [intOf]; omega
          · have HN := Lib.hid (show bestStep V.length o s = o by unfold bestStep; rw [if_neg (fun h => hep h.2.2)])
            have hd : decide ((o.epoch : Int) < ((getI s 12 : Nat) : Int)) = false := by simp; omega
            have hlo := fun (W : World) (hW : Chg [] w5.drew W) => root_cells (HBe5.out.drew.keep hW)
            refine wp_flow (by kernel_rfl) plainT plainT_ok (by kernel_rfl) ?_
            refine flow_move_out plainT_ok rfl rfl rfl ?_
            refine flow_move plainT_ok rfl (keeps_isV _) (.inr (keeps_isV _)) rfl ?_
            refine flow1h (r := rootV (getI s 4 : Nat) (getI s 8 : Nat) (getI s 12 : Nat)) plainT_ok rfl (.out rfl rfl) rfl (fun ev W he hW e1 => by obtain ⟨c0, c1, c2, _, _, _⟩ := hld W hW; go_simp; rfl) ?_
            refine flow_move_out plainT_ok rfl rfl rfl ?_
            refine flow_callv (.int .i64 (V.length : Int)) (by kernel_rfl) rfl (.cons (.inn rfl) .nil) (fun W hW => (len_any (H.out.keep (HC5.out.drew.new hW))).mono ?_) ?_
            · rintro e w' ⟨rfl, rfl⟩; exact ⟨rfl, Chg.refl _ _⟩
            refine flow_callv (.bool (rightR (getI s 4 : Nat) (getI s 8 : Nat) (getI s 12 : Nat) V.length)) (by kernel_rfl) rfl (.cons (.inn rfl) (.cons (.inn rfl) .nil)) (fun W hW => (rright_any _ _ _ _).mono ?_) ?_
            · rintro e w' ⟨rfl, hc⟩; exact ⟨rfl, hc⟩
            rw [hrr]
            refine flow_and plainT_ok rfl rfl rfl ?_
            refine flow_move plainT_ok rfl (keeps_isV _) (.inr (keeps_isV _)) rfl ?_
            refine flow1 (r := .pointer (some ⟨g6, 2, none⟩)) plainT_ok rfl (.out rfl rfl) rfl (fun ev W he e1 => by go_simp) ?_
            refine flow1h (r := .int .u32 ((getI s 12 : Nat) : Int)) plainT_ok rfl (.inn rfl) rfl (fun ev W he hW e1 => by obtain ⟨c0, c1, c2, _, _, _⟩ := hld W hW; go_simp) ?_
            refine flow1 (r := .pointer (some ⟨g + 1, 2, none⟩)) plainT_ok rfl (.out rfl rfl) rfl (fun ev W he e1 => by go_simp) ?_
            refine flow1h (r := .int .u32 (o.epoch : Int)) plainT_ok rfl (.inn rfl) rfl (fun ev W he hW e1 => by obtain ⟨c0, c1, c2, _, _, _⟩ := hlo W hW; go_simp) ?_
            refine flow2 (r := .bool false) plainT_ok rfl (.inn rfl) (.inn rfl) rfl (fun ev W he e1 e2 => by go_simp) ?_
            refine flow_and plainT_ok rfl rfl rfl ?_
            intro vs W hW hF
            have e40 : vs 40 = .bool false := hF 40 _ rfl rfl
            simp only [putAll, Act.put, List.setIfInBounds_toArray, List.set_cons_zero, List.set_cons_succ, e40]
            have HRW := Lib.hid (HR5.out.drew.keep hW)
            have HBW := Lib.hid (HBe5.out.drew.keep hW)
            have HCW := Lib.hid (HC5.out.drew.new hW)
            clear hW hF hld hlo
            go_wp2_with fail
            go_roundw
            case rel => exact ⟨k + 1, by omega, by go_num, HRW.out, by rw [HSt.out, HN.out]; exact HBW.out, HCW.out⟩
            case measure => simp [intOf]; omega
      · have HN := Lib.hid (show bestStep V.length o s = o by unfold bestStep; rw [if_neg (fun h => hno h.1)])
        clear hno
        unfold rootV
        go_wp2_with fail
        have hal : Chg [] w4 (w4.alloc (.cells #[.int .i64 0, .int .i64 0, .int .u32 0] 58)) := (Chg.refl [] w4).alloc _
        have HR5 := Lib.hid (HR4.out.keep hal)
        have HBe5 := Lib.hid (HBe4.out.keep hal)
        have HC5 := Lib.hid (HC4.out.new hal)
        have hld : True := trivial
        generalize w4.alloc (.cells #[.int .i64 0, .int .i64 0, .int .u32 0] 58) = w5 at HR5 HBe5 HC5 ⊢
        clear hal
        refine wp_flow (by kernel_rfl) plainT plainT_ok (by kernel_rfl) ?_
        refine flow_move_out plainT_ok rfl rfl rfl ?_
        refine flow_move plainT_ok rfl (keeps_isV _) (.inr (keeps_isV _)) rfl ?_
        refine flow_skip rfl ?_
        refine flow_skip rfl ?_
        refine flow_skip rfl ?_
        refine flow_skip rfl ?_
        refine flow_and_false plainT_ok rfl rfl rfl ?_
        refine flow_move plainT_ok rfl (keeps_isV _) (.inr (keeps_isV _)) rfl ?_
        refine flow_skip rfl ?_
        refine flow_skip rfl ?_
        refine flow_skip rfl ?_
        refine flow_skip rfl ?_
        refine flow_skip rfl ?_
        refine flow_and_false plainT_ok rfl rfl rfl ?_
        intro vs W hW hF
        have e40 : vs 40 = .bool false := hF 40 _ rfl rfl
        simp only [putAll, Act.put, List.setIfInBounds_toArray, List.set_cons_zero, List.set_cons_succ, e40]
        have HRW := Lib.hid (HR5.out.drew.keep hW)
        have HBW := Lib.hid (HBe5.out.drew.keep hW)
        have HCW := Lib.hid (HC5.out.drew.new hW)
        clear hW hF hld
        go_wp2_with fail
        go_roundw
        case rel => exact ⟨k + 1, by omega, by go_num, HRW.out, by rw [HSt.out, HN.out]; exact HBW.out, HCW.out⟩
        case measure => simp [intOf]; omega
    · obtain rfl : k = 2 := by omega
      obtain ⟨o, ho⟩ : ∃ o, o = bestK V.length S 2 := ⟨_, rfl⟩
      rw [← ho] at hBest
      have HO := Lib.hid ho
      have HR := Lib.hid hR
      have HBe := Lib.hid hBest
      have HC := Lib.hid hcr
      clear ho
      obtain ⟨c0, c1, c2, f0, f1, f2⟩ := root_cells hR
      obtain ⟨d0, d1, d2, _, _, _⟩ := root_cells hBest
      have hd : decide ((0 : Int) < (o.epoch : Int)) = decide (0 < o.epoch) := by congr 1; apply propext; omega
      have HD := Lib.hid hd
      clear hR hBest hcr hd
      go_wp2_with fail
      go_region
      go_wp2_with fail
      obtain ⟨hS, hCS⟩ := root_set HC.out hwg HR.out (.int .i64 (o.log : Int)) (.int .i64 (o.pages : Int)) (.int .u32 (o.epoch : Int))
      generalize ((wr.setCell ⟨g, 0, none⟩ (.int .i64 (o.log : Int))).setCell ⟨g, 1, none⟩ (.int .i64 (o.pages : Int))).setCell ⟨g, 2, none⟩ (.int .u32 (o.epoch : Int)) = w9 at hS hCS ⊢
      obtain ⟨k0, k1, k2, _, _, _⟩ := root_cells hS.drew
      exact bodyPost_ret (v := .tuple #[rootV o.log o.pages o.epoch, .bool (decide (0 < o.epoch))]) (by simp [results, Tryz.results55, go_sem, rootV, k0, k1, k2]) rfl ⟨by rw [← HO.out], hCS.drew⟩
end
end Go.Proofs.YtddjgncdjdjgeaaGreat
