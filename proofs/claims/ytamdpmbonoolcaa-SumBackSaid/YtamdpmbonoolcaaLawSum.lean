/-
  The laws of layer 2: same, known, and the four laws' walks.
-/
import Derived.Test.YtamdpmbonoolcaaSumB
import Derived.Test.YtamdpmbonoolcaaLaw
import Derived.OpenShut
namespace Go.Proofs.Ytamdpmbonoolcaa
open Go.RowKit
section
variable {w : World} {A : Option Addr} {n c : Nat} {l : List UInt8}
set_option maxHeartbeats 1000000 in
theorem lsame_any (h : Bs w A n c l) (k : Nat) (hk : k < 4294967296) (i : Int) (hi : i ≤ 9223372036854775807) (x : UInt8) (hn : n + 4 ≤ 140737488355328) :
    Calls Try.prog 30 #[.slice A n c, .int .u32 (k : Int), .int .i64 i, .int .u8 (x.toNat : Int)] w (LawPost w) := by
  go_enter Try.func30, Try.ntmps30
  go_wp2_with fail
  refine wp_flow (by kernel_rfl) plainT plainT_ok (by kernel_rfl) ?_
  refine flow_move_out plainT_ok rfl rfl rfl ?_
  refine flow_callv (.int .u32 (sumL 2166136261 l)) (by kernel_rfl) rfl (.cons (.inn rfl) .nil) (fun W hW => (sum_b (h.drew.keep hW)).mono ?_) ?_
  · rintro e w' ⟨rfl, rfl⟩; exact ⟨rfl, Chg.refl _ _⟩
  refine flow_move_out plainT_ok rfl rfl rfl ?_
  refine flow_callv (.int .u32 (sumL 2166136261 l)) (by kernel_rfl) rfl (.cons (.inn rfl) .nil) (fun W hW => (rsum_b (h.drew.keep hW)).mono ?_) ?_
  · rintro e w' ⟨rfl, rfl⟩; exact ⟨rfl, Chg.refl _ _⟩
  refine flow_eql plainT_ok (.inn rfl) (.inn rfl) (fun ev W he e1 e2 => by simp [execOp, e1, e2, go_sem]) rfl ?_
  refine flow_move plainT_ok rfl (keeps_isV _) (.inr (keeps_isV _)) rfl ?_
  -- Put
  refine flow_move_out plainT_ok rfl rfl rfl ?_
  refine flow_move_out plainT_ok rfl rfl rfl ?_
  refine flow_calld (ownF w.drew.heap.size 5 (bts (l ++ be4 k))) (keeps_own _ _ _) (.inr (keeps_own _ _ _)) (by kernel_rfl) rfl (.cons (.inn rfl) (.cons (.inn rfl) .nil)) (fun W hW => (put_b (h.drew.keep hW) k hk hn).mono ?_) ?_
  · rintro e w' ⟨v, rfl, ho, hc⟩
    exact ⟨v, rfl, hc, by rw [ownF, bts_len]; exact own_more ho hW.size⟩
  refine flow_str plainT_ok rfl Try.underlying28 Try.underlying5 Try.underlying9 rfl ?_
  refine flow_move_out plainT_ok rfl rfl rfl ?_
  refine flow_move_out plainT_ok rfl rfl rfl ?_
  refine flow_calld (ownF w.drew.heap.size 5 (bts (l ++ be4 k))) (keeps_own _ _ _) (.inr (keeps_own _ _ _)) (by kernel_rfl) rfl (.cons (.inn rfl) (.cons (.inn rfl) .nil)) (fun W hW => (rput_b (h.drew.keep hW) k hk hn).mono ?_) ?_
  · rintro e w' ⟨v, rfl, ho, hc⟩
    exact ⟨v, rfl, hc, by rw [ownF, bts_len]; exact own_more ho hW.size⟩
  refine flow_str plainT_ok rfl Try.underlying28 Try.underlying5 Try.underlying9 rfl ?_
  refine flow_eql plainT_ok (.inn rfl) (.inn rfl) (fun ev W he e1 e2 => by simp [execOp, e1, e2, go_sem]) rfl ?_
  refine flow_and plainT_ok rfl rfl rfl ?_
  refine flow_move plainT_ok rfl (keeps_isV _) (.inr (keeps_isV _)) rfl ?_
  -- Get
  refine flow_move_out plainT_ok rfl rfl rfl ?_
  refine flow_move_out plainT_ok rfl rfl rfl ?_
  refine flow_callv (.int .u32 (getI l i : Nat)) (by kernel_rfl) rfl (.cons (.inn rfl) (.cons (.inn rfl) .nil)) (fun W hW => (get_b (h.drew.keep hW) i hi).mono ?_) ?_
  · rintro e w' ⟨rfl, rfl⟩; exact ⟨rfl, Chg.refl _ _⟩
  refine flow_move_out plainT_ok rfl rfl rfl ?_
  refine flow_move_out plainT_ok rfl rfl rfl ?_
  refine flow_callv (.int .u32 (getI l i : Nat)) (by kernel_rfl) rfl (.cons (.inn rfl) (.cons (.inn rfl) .nil)) (fun W hW => (rget_b (h.drew.keep hW) i hi).mono ?_) ?_
  · rintro e w' ⟨rfl, hc⟩; exact ⟨rfl, hc⟩
  refine flow_eql plainT_ok (.inn rfl) (.inn rfl) (fun ev W he e1 e2 => by simp [execOp, e1, e2, go_sem]) rfl ?_
  refine flow_and plainT_ok rfl rfl rfl ?_
  refine flow_move plainT_ok rfl (keeps_isV _) (.inr (keeps_isV _)) rfl ?_
  -- Step
  refine flow_move_out plainT_ok rfl rfl rfl ?_
  refine flow_move_out plainT_ok rfl rfl rfl ?_
  refine flow_callv (.int .u32 (stp k x)) (by kernel_rfl) rfl (.cons (.inn rfl) (.cons (.inn rfl) .nil)) (fun W hW => (step_any _ x).mono ?_) ?_
  · rintro e w' ⟨rfl, rfl⟩; exact ⟨rfl, Chg.refl _ _⟩
  refine flow_move_out plainT_ok rfl rfl rfl ?_
  refine flow_move_out plainT_ok rfl rfl rfl ?_
  refine flow_callv (.int .u32 (stp k x)) (by kernel_rfl) rfl (.cons (.inn rfl) (.cons (.inn rfl) .nil)) (fun W hW => (rstep_any _ x).mono ?_) ?_
  · rintro e w' ⟨rfl, rfl⟩; exact ⟨rfl, Chg.refl _ _⟩
  refine flow_eql plainT_ok (.inn rfl) (.inn rfl) (fun ev W he e1 e2 => by simp [execOp, e1, e2, go_sem]) rfl ?_
  refine flow_and plainT_ok rfl rfl rfl ?_
  refine flow_assign plainT_ok rfl (keeps_isV _) (.inr (keeps_isV _)) rfl ?_
  intro vs W hW hF
  have e8 : vs 8 = .bool true := hF 8 _ rfl rfl
  simp only [putAll, Act.put, List.setIfInBounds_toArray, List.set_cons_zero, List.set_cons_succ, e8]
  go_wp2_with fail
  go_ret
  exact ⟨rfl, (Chg.refl [] w).drew.new hW⟩

set_option maxHeartbeats 1000000 in
theorem lknown_any : Calls Try.prog 31 #[] w (LawPost w) := by
  have b0 : ∀ W, Bs W none 0 0 [] := fun W => Bs.nil W
  have e0 : sumL 2166136261 [] = 2166136261 := rfl
  have e1 : getI [] (-1) = 0 := by decide
  have e2 : getI [1, 0, 0, 0, 2] 1 = 2 := by decide
  have eb : [] ++ be4 1 = [0, 0, 0, 1] := by decide
  have E := Lib.hid eb
  clear eb
  go_enter Try.func31, Try.ntmps31
  go_wp2_with fail
  refine (sum_b (b0 _)).mono ?_
  rintro e w' ⟨rfl, rfl⟩
  go_wp2_with fail
  refine (get_b (b0 _) (-1) (by omega)).mono ?_
  rintro e w' ⟨rfl, rfl⟩
  go_wp2_with fail
  refine (put_b (b0 _) 1 (by omega) (by omega)).mono ?_
  rintro e w1 ⟨v, rfl, ho, hc⟩
  rw [E.out] at ho
  obtain ⟨A1, c1, rfl, hB, _⟩ := Bs.of_own (n := 4) ho
  have hv := hB.str (P := Try.prog) 28 5 9 Try.underlying28 Try.underlying5 Try.underlying9
  have es : strOf [0, 0, 0, 1] = ⟨#[0, 0, 0, 1]⟩ := rfl
  rw [es] at hv
  clear hB ho
  go_wp2_with fail
  refine (get_b (Bs.of_all (l := [1, 0, 0, 0, 2]) (t := 5) (Whole.new w1 5 (bts [1, 0, 0, 0, 2])) (by simp)) 1 (by omega)).mono ?_
  rintro e w' ⟨rfl, rfl⟩
  go_wp2_with fail
  go_ret
  exact ⟨rfl, hc.alloc _⟩

set_option maxHeartbeats 1000000 in
theorem sumTells_any (h : Bs w A n c l) (k : Nat) (hk : k < 4294967296) (i : Int) (hi : (Lit.int .i64 i).wf = true) (x : UInt8) (hn : n + 4 ≤ 140737488355328) :
    Calls Try.prog 9 #[.slice A n c, .int .u32 (k : Int), .int .i64 i, .int .u8 (x.toNat : Int)] w (LawPost w) := by
  have hi' : i ≤ 9223372036854775807 := by
    have : -9223372036854775808 ≤ i ∧ i ≤ 9223372036854775807 := by simpa [Lit.wf, IntKind.min, IntKind.max, IntKind.signed, IntKind.bits] using hi
    exact this.2
  have hj := Go.wf_bits .and .i64 i 31
  have hj' : bits .and .i64 i 31 ≤ 9223372036854775807 := by
    have : -9223372036854775808 ≤ bits .and .i64 i 31 ∧ bits .and .i64 i 31 ≤ 9223372036854775807 := by simpa [Lit.wf, IntKind.min, IntKind.max, IntKind.signed, IntKind.bits] using hj
    exact this.2
  clear hi hj
  go_enter Try.func9, Try.ntmps9
  go_wp2_with fail
  refine (lsame_any h k hk i hi' x hn).mono ?_
  rintro e w1 ⟨rfl, hc1⟩
  go_wp2_with fail
  refine (lsame_any (h.keep hc1) k hk _ hj' x hn).mono ?_
  rintro e w2 ⟨rfl, hc2⟩
  go_wp2_with fail
  refine lknown_any.mono ?_
  rintro e w3 ⟨rfl, hc3⟩
  go_wp2_with fail
  go_ret
  exact ⟨rfl, (hc1.new hc2).new hc3⟩
end
end Go.Proofs.Ytamdpmbonoolcaa
