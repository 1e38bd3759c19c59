/-
  Layer 4: the law's same and reads.
-/
import Derived.Test.YteodadngnlekfaaDeltaRefB
import Derived.Test.YteodadngnlekfaaDeltaRefC
import Derived.Test.YteodadngnlekfaaDeltaKnown
namespace Go.Proofs.Yteodadngnlekfaa
open Go.RowKit
theorem rightS_len : ∀ {l : List ChV} {last P : Int}, rightS last P l = true → last < P → (l.length : Int) ≤ P - last - 1 ∧ ∀ a ∈ l, last < a.page ∧ a.page < P ∧ a.bn = 64
  | [], last, P, _, h => ⟨by simp; omega, fun a ha => by simp at ha⟩
  | a :: l, last, P, h, hp => by
    simp only [rightS, Bool.and_eq_true, Bool.not_eq_true', Bool.or_eq_false_iff, decide_eq_false_iff_not] at h
    obtain ⟨⟨⟨h1, h2⟩, h3⟩, h4⟩ := h
    obtain ⟨k1, k2⟩ := rightS_len h4 (by omega)
    refine ⟨by rw [List.length_cons]; omega, fun b hb => ?_⟩
    rcases List.mem_cons.1 hb with rfl | hb
    · exact ⟨by omega, by omega, by omega⟩
    · have := k2 b hb
      omega
theorem right_small {l : List ChV} {P : Int} (h : rightB P l = true) : (∀ a ∈ l, Small a) ∧ l.length ≤ 64 := by
  unfold rightB at h
  rw [Bool.and_eq_true, decide_eq_true_iff] at h
  rcases Int.lt_or_le (-1) P with hp | hp
  · obtain ⟨k1, k2⟩ := rightS_len h.2 hp
    exact ⟨fun a ha => by have := k2 a ha; exact ⟨by omega, by omega, by omega⟩, by omega⟩
  · match l, h with
    | [], _ => exact ⟨fun a ha => by simp at ha, by simp⟩
    | a :: l, h =>
      exfalso
      have h2 := h.2
      simp only [rightS, Bool.and_eq_true, Bool.not_eq_true', Bool.or_eq_false_iff, decide_eq_false_iff_not] at h2
      omega
theorem asC_sameC {l m q : List ChV} (h : asC l q) (k : asC m q) : sameC l m = true := by
  unfold sameC
  rw [decide_eq_true_iff, h.1, k.1]
section
variable {w : World} {A : Option Addr} {n c : Nat}
set_option maxHeartbeats 2000000 in
set_option maxRecDepth 100000 in
theorem lsame_any {l : List ChV} (h : Chs w A l) (hl : l.length = n) (hn : n ≤ 9223372036854775807) (P : Int) :
    Calls Try.prog 9 #[.slice A n c, .int .i64 P] w (LawPost w) := by
  have HL := Lib.hid hl
  have kd : ∀ {w1 W : World}, Chg [] w w1 → Chg [] w1.drew W → Chg [] w W := fun h1 h2 => h1.drew.new h2
  go_enter Try.func9, Try.ntmps9
  go_wp2_with fail
  refine (right_any h hl hn P).mono ?_
  rintro e w1 ⟨rfl, hc1⟩
  go_wp2_with fail
  refine (rchanges_any (h.keep hc1) hl hn P).mono ?_
  rintro e w2 ⟨rfl, hc2⟩
  have hc := hc1.new hc2
  have hne : (rightB P l != rightB P l) = false := by simp
  cases hr : rightB P l with
  | false =>
    go_wp2_with fail
    refine wp_flow (by kernel_rfl) plainT plainT_ok (by kernel_rfl) ?_
    refine flow_move_out plainT_ok rfl rfl rfl ?_
    refine flow_move_out plainT_ok rfl rfl rfl ?_
    refine flow_callv (.bool false) (by kernel_rfl) rfl (.cons (.inn rfl) (.cons (.inn rfl) .nil)) (fun W hW => (rchanges_any (h.keep (kd hc hW)) hl hn P).mono ?_) ?_
    · rintro e w' ⟨rfl, hc'⟩; exact ⟨by rw [hr], hc'⟩
    refine flow1 (r := .bool true) plainT_ok rfl (.inn rfl) rfl (fun ev W he e1 => by simp [execOp, e1, go_sem]) ?_
    refine flow_move plainT_ok rfl (keeps_isV _) (.inr (keeps_isV _)) rfl ?_
    refine flow_skip rfl ?_
    refine flow_skip rfl ?_
    refine flow_skip rfl ?_
    refine flow_skip rfl ?_
    refine flow_skip rfl ?_
    refine flow_skip rfl ?_
    refine flow_skip rfl ?_
    refine flow_or_true plainT_ok rfl rfl rfl ?_
    refine flow_assign plainT_ok rfl (keeps_isV _) (.inr (keeps_isV _)) rfl ?_
    intro vs W hW hF
    have e4 : vs 4 = .bool true := hF 4 _ rfl rfl
    simp only [putAll, Act.put, List.setIfInBounds_toArray, List.set_cons_zero, List.set_cons_succ, e4]
    go_wp2_with fail
    go_ret
    exact ⟨rfl, kd hc hW⟩
  | true =>
    obtain ⟨hsm, hln⟩ := right_small hr
    go_wp2_with fail
    refine wp_flow (by kernel_rfl) plainT plainT_ok (by kernel_rfl) ?_
    refine flow_move_out plainT_ok rfl rfl rfl ?_
    refine flow_move_out plainT_ok rfl rfl rfl ?_
    refine flow_callv (.bool true) (by kernel_rfl) rfl (.cons (.inn rfl) (.cons (.inn rfl) .nil)) (fun W hW => (rchanges_any (h.keep (kd hc hW)) hl hn P).mono ?_) ?_
    · rintro e w' ⟨rfl, hc'⟩; exact ⟨by rw [hr], hc'⟩
    refine flow1 (r := .bool false) plainT_ok rfl (.inn rfl) rfl (fun ev W he e1 => by simp [execOp, e1, go_sem]) ?_
    refine flow_move plainT_ok rfl (keeps_isV _) (.inr (keeps_isV _)) rfl ?_
    refine flow_move_out plainT_ok rfl rfl rfl ?_
    refine flow_calld (ownF 0 5 (bts (bytesD l))) (keeps_own _ _ _) (.inr (keeps_own _ _ _)) (by kernel_rfl) rfl (.cons (.inn rfl) .nil) (fun W hW => (dbytes_any (h.keep (kd hc hW)) hsm hl (by omega)).mono ?_) ?_
    · rintro e w' ⟨v, rfl, ho, hc'⟩
      exact ⟨v, rfl, hc', by rw [ownF, bts_len]; exact own_more ho (Nat.zero_le _)⟩
    refine flow_str plainT_ok rfl Try.underlying22 Try.underlying5 Try.underlying9 rfl ?_
    refine flow_move_out plainT_ok rfl rfl rfl ?_
    refine flow_calld (ownF 0 5 (bts (bytesD l))) (keeps_own _ _ _) (.inr (keeps_own _ _ _)) (by kernel_rfl) rfl (.cons (.inn rfl) .nil) (fun W hW => (rdelta_any (h.keep (kd hc hW)) hsm hl (by omega)).mono ?_) ?_
    · rintro e w' ⟨v, rfl, ho, hc'⟩
      exact ⟨v, rfl, hc', by rw [ownF, bts_len]; exact own_more ho (Nat.zero_le _)⟩
    refine flow_str plainT_ok rfl Try.underlying22 Try.underlying5 Try.underlying9 rfl ?_
    refine flow_eql plainT_ok (.inn rfl) (.inn rfl) (fun ev W he e1 e2 => by simp [execOp, e1, e2, go_sem]) rfl ?_
    refine flow_or_false plainT_ok rfl rfl rfl ?_
    refine flow_assign plainT_ok rfl (keeps_isV _) (.inr (keeps_isV _)) rfl ?_
    intro vs W hW hF
    have e4 : vs 4 = .bool true := hF 4 _ rfl rfl
    simp only [putAll, Act.put, List.setIfInBounds_toArray, List.set_cons_zero, List.set_cons_succ, e4]
    go_wp2_with fail
    go_ret
    exact ⟨rfl, kd hc hW⟩
set_option maxHeartbeats 2000000 in
set_option maxRecDepth 100000 in
theorem lreads_any {b : List UInt8} (h : Bs w A n c b) (P : Int) :
    Calls Try.prog 11 #[.slice A n c, .int .i64 P] w (LawPost w) := by
  have HB := Lib.hid h
  go_enter Try.func11, Try.ntmps11
  go_wp2_with fail
  refine (dread_any h P).mono ?_
  intro e w1 hp
  have hc1 : Chg [] w w1 := by
    rcases hp with ⟨_, _, _, _, _, _, _, _, _, _, hc⟩ | ⟨_, _, hc⟩ <;> exact hc
  rcases hp with ⟨q1, q2, q3, A1, c1, ls, rfl, hch1, hl1, has1, _⟩ | ⟨hno, rfl, _⟩
  · have hn6 := num2_lt b
    generalize hN : num2 b = N at *
    have HCH1 := Lib.hid hch1
    have HL1 := Lib.hid hl1
    have HA1 := Lib.hid has1
    have HQ := Lib.hid (And.intro q1 (And.intro q2 q3))
    have HNN := Lib.hid hN
    clear hch1 hl1 has1 q1 q2 q3 hN h
    go_wp2_with fail
    refine (rundelta_any (HB.out.keep hc1) P).mono ?_
    intro e w2 hp
    rcases hp with ⟨_, _, _, A2, c2, ms, rfl, hch2, hl2, has2, hc2⟩ | ⟨hno, _⟩
    · rw [HNN.out] at hl2 has2 ⊢
      have HS := Lib.hid (asC_sameC HA1.out has2)
      have HCH2 := Lib.hid hch2
      have HL2 := Lib.hid hl2
      clear hch2 hl2 has2
      go_wp2_with fail
      refine (rsame_any (HCH1.out.keep hc2) HL1.out HCH2.out HL2.out (by omega) (by omega)).mono ?_
      rintro e w3 ⟨rfl, hc3⟩
      rw [HS.out]
      go_wp2_with fail
      go_ret
      exact ⟨rfl, (hc1.new hc2).new hc3⟩
    · exfalso
      rw [HNN.out] at hno
      exact hno HQ.out
  · have HNO := Lib.hid hno
    clear hno h
    go_wp2_with fail
    refine (rundelta_any (HB.out.keep hc1) P).mono ?_
    intro e w2 hp
    rcases hp with ⟨q1, q2, q3, _⟩ | ⟨_, rfl, hc2⟩
    · exact absurd ⟨q1, q2, q3⟩ HNO.out
    · go_wp2_with fail
      refine (rsame_any (l := []) (m := []) (Chs.nil w2 none) rfl (Chs.nil w2 none) rfl (by simp) (by simp)).mono ?_
      rintro e w3 ⟨rfl, hc3⟩
      go_wp2_with fail
      go_ret
      exact ⟨rfl, (hc1.new hc2).new hc3⟩
end
end Go.Proofs.Yteodadngnlekfaa
