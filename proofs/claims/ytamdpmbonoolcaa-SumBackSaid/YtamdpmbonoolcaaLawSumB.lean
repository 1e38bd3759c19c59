/-
  The walk of SumBack.
-/
import Derived.Test.YtamdpmbonoolcaaLawSum
import Derived.Test.YtamdpmbonoolcaaLawB
namespace Go.Proofs.Ytamdpmbonoolcaa
open Go.RowKit

theorem numB_be4 (k : Nat) (hk : k < 4294967296) : numB (be4 k) = k := by
  simp only [numB, be4, List.foldl_cons, List.foldl_nil, UInt8.toNat_ofNat']
  omega
theorem getI_back (l m : List UInt8) (k : Nat) (hk : k < 4294967296) : getI (l ++ (be4 k ++ m)) (l.length : Int) = k := by
  unfold getI
  rw [if_pos ⟨by omega, by simp only [List.length_append, be4_len]; omega⟩, Int.toNat_natCast, List.drop_left, List.take_left' (be4_len k), numB_be4 k hk]

section
variable {w : World} {A : Option Addr} {n c : Nat} {l : List UInt8}
theorem Bs.take (h : Bs w A n c l) {m : Nat} (hm : m ≤ n) : Bs w A m c (l.take m) :=
  ⟨by rw [List.length_take, h.len]; omega, src_pre m h.src, Nat.le_trans hm h.cap, h.max, fun h0 => h.spot (by omega)⟩
where
  src_pre (m : Nat) {w : World} {A : Option Addr} {l : List UInt8} (hs : Src w A (bts l)) : Src w A (bts (l.take m)) := fun hp => by
    obtain ⟨ad, e, hb, hx⟩ := hs (by simp [bts] at hp ⊢; omega)
    refine ⟨ad, e, hb, fun j v hj => hx j v ?_⟩
    unfold bts at hj ⊢
    rw [List.map_take, List.getElem?_take] at hj
    split at hj
    · exact hj
    · cases hj

theorem bts_app (l m : List UInt8) : bts (l ++ m) = bts l ++ bts m := by simp [bts]
theorem add0 (A : Option Addr) : Option.map (fun x : Addr => x.add 0) A = A := by cases A <;> simp [Addr.add]
set_option maxHeartbeats 2000000 in
set_option maxRecDepth 100000 in
theorem sumBack_any (h : Bs w A n c l) (k : Nat) (hk : k < 4294967296) (x : UInt8) (hn : n + 4 ≤ 140737488355328) :
    Calls Try.prog 10 #[.slice A n c, .int .u32 (k : Int), .int .u8 (x.toNat : Int)] w (LawPost w) := by
  obtain ⟨i, hi, hz, hs1, hb⟩ := info_parts info_byte
  have hgb := getI_back l [] k hk
  rw [List.append_nil, h.len] at hgb
  go_enter Try.func10, Try.ntmps10
  go_wp2_with fail
  refine (put_b h k hk hn).mono ?_
  rintro e w1 ⟨v, rfl, ho, hc1⟩
  obtain ⟨A1, c1, rfl, hB, _⟩ := Bs.of_own ho
  have el : (l ++ be4 k).length = n + 4 := by rw [List.length_append, be4_len, h.len]
  rw [el] at hB
  have h1 := h.keep hc1
  have hp := (hB.take (m := n) (by omega))
  rw [List.take_left' h.len] at hp
  clear ho
  simp only [el]
  go_wp2_with fail
  refine wp_flow (by kernel_rfl) (lowT w1.heap.size [30] [25, 27, 29, 30]) (lowT_ok _ _ _) (by kernel_rfl) ?_
  have m4 : IntKind.i64.wrap ((n : Int) + 4) = (n : Int) + 4 := IntWalk.i64_in _ (by omega)
  have hcc : ¬ c1 < n := by have := hp.cap; omega
  have ha0 := add0 A1
  have T := lowT_ok w1.heap.size [30] [25, 27, 29, 30]
  have kp : ∀ W, Low w1.heap.size w1.drew W → Chg [] w1 W := fun W hW => (Chg.refl [] w1).drew.new (hW.chg (Nat.le_refl _))
  refine flow_move_out T rfl rfl rfl ?_
  refine flow_lend (n := n + 4) T (.inn rfl) (fun ev W he e1 => by go_simp) rfl ?_
  refine flow_move_out T rfl rfl rfl ?_
  refine flow_lend (n := n) T (.inn rfl) (fun ev W he e1 => by go_simp) rfl ?_
  refine flow2 (r := .int .i64 ((n + 4 : Nat) : Int)) T rfl (.inn rfl) (.const _) rfl (fun ev W he e1 e2 => by go_simp) ?_
  refine flow_eql T (.inn rfl) (.inn rfl) (fun ev W he e1 e2 => by go_simp) rfl ?_
  refine flow_move T rfl (keeps_isV _) (.inr (keeps_isV _)) rfl ?_
  refine flow_move_out T rfl rfl rfl ?_
  refine flow_move_out T rfl rfl rfl ?_
  refine flow_lend (n := n) T (.inn rfl) (fun ev W he e1 => by go_simp) rfl ?_
  refine flow_callv (.int .u32 (k : Int)) (by kernel_rfl) rfl (.cons (.inn rfl) (.cons (.inn rfl) .nil)) (fun W hW => (get_b (hB.keep (kp W hW)) n (by have := h.le; omega)).mono ?_) ?_
  · rintro e w' ⟨rfl, rfl⟩; rw [hgb]; exact ⟨rfl, low_by _ (Chg.refl _ _)⟩
  refine flow_move_out T rfl rfl rfl ?_
  refine flow_eql T (.inn rfl) (.inn rfl) (fun ev W he e1 e2 => by go_simp) rfl ?_
  refine flow_and T rfl rfl rfl ?_
  refine flow_move T rfl (keeps_isV _) (.inr (keeps_isV _)) rfl ?_
  -- string(c[:len(b)]) == string(b)
  refine flow_move_out T rfl rfl rfl ?_
  refine flow_move_out T rfl rfl rfl ?_
  refine flow_lend (n := n) T (.inn rfl) (fun ev W he e1 => by go_simp) rfl ?_
  refine flow_slice_hi (r := .slice A1 n c1) T (.inn rfl) (.inn rfl) (fun ev W he e1 e2 => by go_simp) rfl ?_
  refine flow_strd T (.inn rfl) (fun W hW => hp.keep (kp W hW)) Try.underlying28 Try.underlying5 Try.underlying9 rfl ?_
  refine flow_move_out T rfl rfl rfl ?_
  refine flow_strd T (.inn rfl) (fun W hW => h1.keep (kp W hW)) Try.underlying28 Try.underlying5 Try.underlying9 rfl ?_
  refine flow_eql T (.inn rfl) (.inn rfl) (fun ev W he e1 e2 => by go_simp) rfl ?_
  refine flow_and T rfl rfl rfl ?_
  refine flow_move T rfl (keeps_isV _) (.inr (keeps_isV _)) rfl ?_
  -- sum.Of(append(append([]byte{}, b...), x)) == sum.Step(sum.Of(b), x)
  refine flow_build0 (e := 5) (Nat.le_refl _) (fun ev W he => by go_simp) rfl rfl ?_
  refine flow_move_out T rfl rfl rfl ?_
  refine flow_append_empty (news := bts l) (Nat.le_refl _) rfl rfl (.inn rfl) Try.underlying28 hi hz hs1 hb cells_u8 (by rw [bts_len]; exact h.len) (fun W hW => (h1.keep (kp W hW)).src) (by omega) (by unfold maxLen; omega) rfl rfl ?_
  refine flow_move_out T rfl rfl rfl ?_
  refine flow_build1 (e := 5) (Nat.le_refl _) (.inn rfl) (fun ev W he e1 => by go_simp) rfl rfl ?_
  refine flow_append_own (Nat.le_refl _) rfl rfl rfl rfl Try.underlying28 hi hz hs1 hb cells_u8 (bts_one [x]) (by rw [bts_len, h.len]; simp only [List.length_cons, List.length_nil]; omega) (by rw [bts_len, h.len]; unfold maxLen; simp only [List.length_cons, List.length_nil]; omega) rfl rfl rfl ?_
  refine flow_call (isV (.int .u32 (sumL 2166136261 (l ++ [x])))) (keeps_isV _) (.inr (keeps_isV _)) (by kernel_rfl) rfl (fun ev W he hW hf => ?_) ?_
  · have hf1 : ownF w1.heap.size 5 (bts l ++ bts [x]) (ev (.tmp 41)) W := hf.1
    rw [← bts_app] at hf1
    obtain ⟨A2, c2, e2, hB2, _⟩ := Bs.of_own (l := l ++ [x]) hf1
    refine (?_ : Calls _ _ #[ev (.tmp 41)] _ _)
    rw [e2]
    refine (sum_b hB2).mono ?_
    rintro e w' ⟨rfl, rfl⟩
    exact ⟨_, rfl, low_by _ (Chg.refl _ _), rfl⟩
  refine flow_move_out T rfl rfl rfl ?_
  refine flow_callv (.int .u32 (sumL 2166136261 l)) (by kernel_rfl) rfl (.cons (.inn rfl) .nil) (fun W hW => (sum_b (h1.keep (kp W hW))).mono ?_) ?_
  · rintro e w' ⟨rfl, rfl⟩; exact ⟨rfl, low_by _ (Chg.refl _ _)⟩
  refine flow_move_out T rfl rfl rfl ?_
  refine flow_callv (.int .u32 (sumL 2166136261 (l ++ [x]))) (by kernel_rfl) rfl (.cons (.inn rfl) (.cons (.inn rfl) .nil)) (fun W hW => (step_any _ x).mono ?_) ?_
  · rintro e w' ⟨rfl, rfl⟩; rw [sumL_snoc]; exact ⟨rfl, low_by _ (Chg.refl _ _)⟩
  refine flow_eql T (.inn rfl) (.inn rfl) (fun ev W he e1 e2 => by go_simp) rfl ?_
  refine flow_and T rfl rfl rfl ?_
  refine flow_move T rfl (keeps_isV _) (.inr (keeps_isV _)) rfl ?_
  refine flow_callv (.bool true) (by kernel_rfl) rfl .nil (fun W hW => (lknown_any).mono ?_) ?_
  · rintro e w' ⟨rfl, hc⟩; exact ⟨rfl, low_by _ hc⟩
  refine flow_and T rfl rfl rfl ?_
  refine flow_assign T rfl (keeps_isV _) (.inr (keeps_isV _)) rfl ?_
  intro vs W hW hF
  have e6 : vs 6 = .bool true := hF 6 _ rfl rfl
  simp only [putAll, Act.put, List.setIfInBounds_toArray, List.set_cons_zero, List.set_cons_succ, e6]
  go_wp2_with fail
  go_ret
  exact ⟨rfl, hc1.new (kp W hW)⟩
end
end Go.Proofs.Ytamdpmbonoolcaa
