/-
  Layer 5: the law's same, reads.
-/
import Derived.Test.YteodadngnlekfaaRootUn
namespace Go.Proofs.Yteodadngnlekfaa
open Go.RowKit
section
variable {w : World} {A : Option Addr} {n c : Nat} {l : List UInt8}
set_option maxHeartbeats 4000000 in
set_option maxRecDepth 100000 in
theorem rsamelaw_any (L P s page : Int) (q : Nat) (hq : q < 4294967296) :
    Calls Try.prog 22 #[rootV L P q, .int .i64 s, .int .i64 page] w (LawPost w) := by
  have hne1 : (rightR L P q s != rightR L P q s) = false := by simp
  have hne2 : (homeI L P page != homeI L P page) = false := by simp
  have hr0 : rootV L P q = .agg #[.int .i64 L, .int .i64 P, .int .u32 (q : Int)] := rfl
  rw [hr0]
  go_enter Try.func22, Try.ntmps22
  go_wp2_with fail
  have hR := Whole.new w 46 [.int .i64 L, .int .i64 P, .int .u32 (q : Int)]
  have hc1 : Chg [] w (w.alloc (.cells #[.int .i64 L, .int .i64 P, .int .u32 (q : Int)] 46)) := (Chg.refl [] w).alloc _
  obtain ⟨g, hg⟩ : ∃ g, g = w.heap.size := ⟨_, rfl⟩
  rw [← hg] at hR ⊢
  generalize w.alloc (.cells #[.int .i64 L, .int .i64 P, .int .u32 (q : Int)] 46) = w1 at hc1 hR ⊢
  clear hg
  have hld := fun (W : World) (hW : Chg [] w1.drew W) => root_cells (hR.drew.keep hW)
  refine wp_flow (by kernel_rfl) plainT plainT_ok (by kernel_rfl) ?_
  refine flow1h (r := rootV L P q) plainT_ok rfl (.out rfl rfl) rfl (fun ev W he hW e1 => by obtain ⟨c0, c1, c2, _, _, _⟩ := hld W hW; go_simp) ?_
  refine flow_move_out plainT_ok rfl rfl rfl ?_
  refine flow_callv (.bool (rightR L P q s)) (by kernel_rfl) rfl (.cons (.inn rfl) (.cons (.inn rfl) .nil)) (fun W hW => (rright_any _ _ _ _).mono ?_) ?_
  · rintro e w' ⟨rfl, hc⟩; exact ⟨rfl, hc⟩
  refine flow1h (r := rootV L P q) plainT_ok rfl (.out rfl rfl) rfl (fun ev W he hW e1 => by obtain ⟨c0, c1, c2, _, _, _⟩ := hld W hW; go_simp) ?_
  refine flow_move_out plainT_ok rfl rfl rfl ?_
  refine flow_callv (.bool (rightR L P q s)) (by kernel_rfl) rfl (.cons (.inn rfl) (.cons (.inn rfl) .nil)) (fun W hW => (rrright_any _ _ _ _).mono ?_) ?_
  · rintro e w' ⟨rfl, hc⟩; exact ⟨rfl, hc⟩
  refine flow2 (r := .bool false) plainT_ok rfl (.inn rfl) (.inn rfl) rfl (fun ev W he e1 e2 => by go_simp) ?_
  refine flow_move plainT_ok rfl (keeps_isV _) (.inr (keeps_isV _)) rfl ?_
  refine flow1h (r := rootV L P q) plainT_ok rfl (.out rfl rfl) rfl (fun ev W he hW e1 => by obtain ⟨c0, c1, c2, _, _, _⟩ := hld W hW; go_simp) ?_
  refine flow_move_out plainT_ok rfl rfl rfl ?_
  refine flow_callv (.int .i64 (homeI L P page)) (by kernel_rfl) rfl (.cons (.inn rfl) (.cons (.inn rfl) .nil)) (fun W hW => (home_any _ _ _ _).mono ?_) ?_
  · rintro e w' ⟨rfl, hc⟩; exact ⟨rfl, hc⟩
  refine flow1h (r := rootV L P q) plainT_ok rfl (.out rfl rfl) rfl (fun ev W he hW e1 => by obtain ⟨c0, c1, c2, _, _, _⟩ := hld W hW; go_simp) ?_
  refine flow_move_out plainT_ok rfl rfl rfl ?_
  refine flow_callv (.int .i64 (homeI L P page)) (by kernel_rfl) rfl (.cons (.inn rfl) (.cons (.inn rfl) .nil)) (fun W hW => (rhome_any _ _ _ _).mono ?_) ?_
  · rintro e w' ⟨rfl, hc⟩; exact ⟨rfl, hc⟩
  refine flow2 (r := .bool false) plainT_ok rfl (.inn rfl) (.inn rfl) rfl (fun ev W he e1 e2 => by go_simp) ?_
  refine flow_or_false plainT_ok rfl rfl rfl ?_
  intro vs W hW hF
  have e22 : vs 22 = .bool false := hF 22 _ rfl rfl
  simp only [putAll, Act.put, List.setIfInBounds_toArray, List.set_cons_zero, List.set_cons_succ, e22]
  have HRW := Lib.hid (hR.drew.keep hW)
  have HCW := Lib.hid (hc1.drew.new hW)
  obtain ⟨c0, c1, c2, _, _, _⟩ := hld W hW
  clear hW hF hld hR hc1
  by_cases hL0 : L < 0
  · have hd : decide (L < 0) = true := by simpa using hL0
    go_wp2_with fail
    go_ret
    exact ⟨rfl, HCW.out⟩
  have hd1 : decide (L < 0) = false := by simpa using hL0
  by_cases hP0 : P < 0
  · have hd : decide (P < 0) = true := by simpa using hP0
    go_wp2_with fail
    go_ret
    exact ⟨rfl, HCW.out⟩
  have hd2 : decide (P < 0) = false := by simpa using hP0
  by_cases hL1 : 2147483647 < L
  · have hd : decide (2147483647 < L) = true := by simpa using hL1
    go_wp2_with fail
    go_ret
    exact ⟨rfl, HCW.out⟩
  have hd3 : decide (2147483647 < L) = false := by simpa using hL1
  by_cases hP1 : 2147483647 < P
  · have hd : decide (2147483647 < P) = true := by simpa using hP1
    go_wp2_with fail
    go_ret
    exact ⟨rfl, HCW.out⟩
  have hd4 : decide (2147483647 < P) = false := by simpa using hP1
  obtain ⟨a, rfl⟩ := Int.eq_ofNat_of_zero_le (show 0 ≤ L by omega)
  obtain ⟨b, rfl⟩ := Int.eq_ofNat_of_zero_le (show 0 ≤ P by omega)
  go_wp2_with fail
  have hld := fun (W2 : World) (hW : Chg [] W.drew W2) => root_cells (HRW.out.drew.keep hW)
  refine wp_flow (by kernel_rfl) plainT plainT_ok (by kernel_rfl) ?_
  refine flow1h (r := rootV a b q) plainT_ok rfl (.out rfl rfl) rfl (fun ev W he hW e1 => by obtain ⟨c0, c1, c2, _, _, _⟩ := hld W hW; go_simp) ?_
  refine flow_calld (ownF 0 5 (bts (rootL a b q))) (keeps_own _ _ _) (.inr (keeps_own _ _ _)) (by kernel_rfl) rfl (.cons (.inn rfl) .nil) (fun W hW => (rootbytes_any a b q (by omega) (by omega) hq).mono ?_) ?_
  · rintro e w' ⟨v, rfl, ho, hc'⟩
    exact ⟨v, rfl, hc', by rw [ownF, bts_len]; exact own_more ho (Nat.zero_le _)⟩
  refine flow_str plainT_ok rfl Try.underlying22 Try.underlying5 Try.underlying9 rfl ?_
  refine flow1h (r := rootV a b q) plainT_ok rfl (.out rfl rfl) rfl (fun ev W he hW e1 => by obtain ⟨c0, c1, c2, _, _, _⟩ := hld W hW; go_simp) ?_
  refine flow_calld (ownF 0 5 (bts (rootL a b q))) (keeps_own _ _ _) (.inr (keeps_own _ _ _)) (by kernel_rfl) rfl (.cons (.inn rfl) .nil) (fun W hW => (rroot_any a b q (by omega) (by omega) hq).mono ?_) ?_
  · rintro e w' ⟨v, rfl, ho, hc'⟩
    exact ⟨v, rfl, hc', by rw [ownF, bts_len]; exact own_more ho (Nat.zero_le _)⟩
  refine flow_str plainT_ok rfl Try.underlying22 Try.underlying5 Try.underlying9 rfl ?_
  refine flow_eql plainT_ok (.inn rfl) (.inn rfl) (fun ev W he e1 e2 => by simp [execOp, e1, e2, go_sem]) rfl ?_
  refine flow_assign plainT_ok rfl (keeps_isV _) (.inr (keeps_isV _)) rfl ?_
  intro vs W2 hW hF
  have e6 : vs 6 = .bool true := hF 6 _ rfl rfl
  simp only [putAll, Act.put, List.setIfInBounds_toArray, List.set_cons_zero, List.set_cons_succ, e6]
  go_wp2_with fail
  go_ret
  exact ⟨rfl, HCW.out.drew.new hW⟩
set_option maxHeartbeats 4000000 in
set_option maxRecDepth 100000 in
theorem rreadslaw_any (h : Bs w A n c l) : Calls Try.prog 24 #[.slice A n c] w (LawPost w) := by
  have H := Lib.hid h
  clear h
  go_enter Try.func24, Try.ntmps24
  go_wp2_with fail
  refine (rootread_any H.out).mono ?_
  intro e w1 hp
  have hc1 : Chg [] w w1 := by rcases hp with ⟨_, _, h⟩ | ⟨_, _, h⟩ <;> exact h
  rcases hp with ⟨hyes, rfl, _⟩ | ⟨hno, rfl, _⟩
  · unfold rootV
    have HY := Lib.hid hyes
    clear hyes
    go_wp2_with fail
    have hN := Whole.new w1 46 [.int .i64 ((getI l 4 : Nat) : Int), .int .i64 ((getI l 8 : Nat) : Int), .int .u32 ((getI l 12 : Nat) : Int)]
    have hc1' := hc1.alloc (.cells #[.int .i64 ((getI l 4 : Nat) : Int), .int .i64 ((getI l 8 : Nat) : Int), .int .u32 ((getI l 12 : Nat) : Int)] 46)
    generalize w1.alloc (.cells #[.int .i64 ((getI l 4 : Nat) : Int), .int .i64 ((getI l 8 : Nat) : Int), .int .u32 ((getI l 12 : Nat) : Int)] 46) = w1' at hN hc1' ⊢
    generalize w1.heap.size = g1 at hN ⊢
    have HC1 := Lib.hid hc1'
    clear hc1 hc1'
    refine (unroot_any (H.out.keep HC1.out)).mono ?_
    intro e w2 hp
    rcases hp with ⟨hyes, rfl, hc2⟩ | ⟨hno, rfl, hc2⟩
    · unfold rootV
      have hN2 := hN.keep hc2
      have hlt := hN2.lt
      have hne : ¬ w2.heap.size = g1 := by omega
      have hne2 : ¬ g1 = w2.heap.size := by omega
      obtain ⟨c0, c1, c2, _, _, _⟩ := root_cells hN2
      have HC2 := Lib.hid (HC1.out.new hc2)
      clear hN hN2 hc2
      go_wp2_with fail
      go_ret
      exact ⟨rfl, HC2.out.alloc _⟩
    · exact absurd HY.out hno
  · unfold rootV
    have HY := Lib.hid hno
    clear hno
    go_wp2_with fail
    have hN := Whole.new w1 46 [.int .i64 0, .int .i64 0, .int .u32 0]
    have hc1' := hc1.alloc (.cells #[.int .i64 0, .int .i64 0, .int .u32 0] 46)
    generalize w1.alloc (.cells #[.int .i64 0, .int .i64 0, .int .u32 0] 46) = w1' at hN hc1' ⊢
    generalize w1.heap.size = g1 at hN ⊢
    have HC1 := Lib.hid hc1'
    clear hc1 hc1'
    refine (unroot_any (H.out.keep HC1.out)).mono ?_
    intro e w2 hp
    rcases hp with ⟨hyes, rfl, hc2⟩ | ⟨hno, rfl, hc2⟩
    · exact absurd hyes HY.out
    · unfold rootV
      have hN2 := hN.keep hc2
      have hlt := hN2.lt
      have hne : ¬ w2.heap.size = g1 := by omega
      have hne2 : ¬ g1 = w2.heap.size := by omega
      obtain ⟨c0, c1, c2, _, _, _⟩ := root_cells hN2
      have HC2 := Lib.hid (HC1.out.new hc2)
      clear hN hN2 hc2
      go_wp2_with fail
      go_ret
      exact ⟨rfl, HC2.out.alloc _⟩
end
end Go.Proofs.Yteodadngnlekfaa
