/-
  The reference's Of.
-/
import Derived.Test.YtlhkmbcjgdjegaaRefMore
namespace Go.Proofs.Ytlhkmbcjgdjegaa
open Go.RowKit

section
variable {w : World} {A : Option Addr} {n c : Nat} {l : List UInt8}

set_option maxHeartbeats 400000 in
theorem rof_no (hn : n ≤ 1000000) (h : n < 64 ∨ 10304 ≤ n ∨ n % 64 ≠ 0) :
    Calls Try.prog 93 #[.slice A n c] w fun e w' => e = .returned (.pointer none) ∧ w = w' := by
  by_cases h3 : n % 64 = 0
  · have hd3 : ((n : Int) % 64 != 0) = false := by simp; omega
    by_cases h1 : n < 64
    · have hd : decide ((n : Int) / 64 < 1) = true := by simp; omega
      clear h h3
      go_enter Try.func93, Try.ntmps93
      go_wp2_with fail
      go_ret
      exact ⟨rfl, rfl⟩
    · have hd1 : decide ((n : Int) / 64 < 1) = false := by simp; omega
      have hd2 : decide (160 < (n : Int) / 64) = true := by simp; omega
      clear h h3
      go_enter Try.func93, Try.ntmps93
      go_wp2_with fail
      go_ret
      exact ⟨rfl, rfl⟩
  · have hd3 : ((n : Int) % 64 != 0) = true := by simp; omega
    clear h
    go_enter Try.func93, Try.ntmps93
    go_wp2_with fail
    go_ret
    exact ⟨rfl, rfl⟩

theorem rfd_end {W F : World} {q gL gN gW : Nat} {rL rN : List Value} (hF : Chg [] (W.alloc (.cells #[.slice (some ⟨gL, 0, none⟩) l.length (l.length + rL.length), .slice (some ⟨gN, 0, none⟩) l.length (l.length + rN.length), .slice (some ⟨gW, 0, none⟩) (l.length / 64) (l.length / 64), .int .i64 (-1), .int .i64 0] 143)) F)
    (hq : q = W.heap.size) (hL : Whole W gL 5 (bts l ++ rL)) (hN : Whole W gN 5 (bts l ++ rN)) (hV : Whole W gW 4 (bls (falses (l.length / 64)))) (hne : gL ≠ gN)
    (h1 : 64 ≤ l.length) (h2 : l.length < 10304) (h3 : l.length % 64 = 0) (hc : Chg [] w W) (b1 : w.heap.size ≤ gL) (b2 : w.heap.size ≤ gN) (b3 : w.heap.size ≤ gW) :
    ∃ p gL' gN' gW' rL' rN' m, Ending.returned (.pointer (some ⟨q, 0, none⟩)) = .returned (.pointer (some ⟨p, 0, none⟩)) ∧
      Rfd F p gL' gN' gW' rL' rN' m ⟨l, l, falses (l.length / 64)⟩ ∧ w.heap.size ≤ p ∧ w.heap.size ≤ gL' ∧ w.heap.size ≤ gN' ∧ w.heap.size ≤ gW' ∧ Chg [] w F := by
  subst hq
  have hk := ((Chg.refl [] W).alloc (.cells #[.slice (some ⟨gL, 0, none⟩) l.length (l.length + rL.length), .slice (some ⟨gN, 0, none⟩) l.length (l.length + rN.length), .slice (some ⟨gW, 0, none⟩) (l.length / 64) (l.length / 64), .int .i64 (-1), .int .i64 0] 143)).new hF
  refine ⟨W.heap.size, gL, gN, gW, rL, rN, 0, rfl, ⟨?_, hL.keep hk, hN.keep hk, hV.keep hk, ?_, ?_, ?_, hne⟩, hc.size, b1, b2, b3, hc.new hk⟩
  · have := (Whole.new W 143 [.slice (some ⟨gL, 0, none⟩) l.length (l.length + rL.length), .slice (some ⟨gN, 0, none⟩) l.length (l.length + rN.length), .slice (some ⟨gW, 0, none⟩) (l.length / 64) (l.length / 64), .int .i64 (-1), .int .i64 0]).keep hF
    simpa only [falses_len] using this
  · show l.length = 64 * (falses (l.length / 64)).length
    rw [falses_len]; omega
  · show l.length = 64 * (falses (l.length / 64)).length
    rw [falses_len]; omega
  · show (falses (l.length / 64)).length ≤ 160
    rw [falses_len]; omega

set_option maxHeartbeats 4000000 in
theorem rof_yes (hl : l.length = n) (hs : Src w A (bts l)) (h1 : 64 ≤ n) (h2 : n < 10304) (h3 : n % 64 = 0) :
    Calls Try.prog 93 #[.slice A n c] w fun e w' => ∃ p gL gN gW rL rN m, e = .returned (.pointer (some ⟨p, 0, none⟩)) ∧ Rfd w' p gL gN gW rL rN m ⟨l, l, falses (n / 64)⟩ ∧
      w.heap.size ≤ p ∧ w.heap.size ≤ gL ∧ w.heap.size ≤ gN ∧ w.heap.size ≤ gW ∧ Chg [] w w' := by
  obtain ⟨i0, hi, hz0, hz1, hz2⟩ := info_parts info_u8
  have hd1 : decide ((n : Int) / 64 < 1) = false := by simp; omega
  have hd2 : decide (160 < (n : Int) / 64) = false := by simp; omega
  have hd3 : ((n : Int) % 64 != 0) = false := by simp; omega
  have hmk : ∀ W : World, (Instr.makeSlice 98 (.int .i64 ((n : Int) / 64)) (.int .i64 ((n : Int) / 64))).run Try.prog W = .ok (.slice (some ⟨W.heap.size, 0, none⟩) (n / 64) (n / 64)) (W.alloc (.cells (bls (falses (n / 64))).toArray 4)) :=
    fun W => make_bool (n / 64) (by omega) W
  have HL := Lib.hid hl
  have H3 := Lib.hid h3
  have hpos : 0 < n := by omega
  have hb : n * 1 ≤ 140737488355328 := by omega
  have hb2 : n ≤ maxLen := by unfold maxLen; omega
  clear hl h3
  go_enter Try.func93, Try.ntmps93
  go_wp2_with fail
  go_region_law (first
    | (with_reducible refine step_append_fresh rfl (.tmp 19) (.tmp 20) _ rfl 5 i0 (.int .u8 0) 1 Try.underlying22 hi hz0 hz1 hz2 rfl _ rfl A n c rfl (bts l) ?_ hpos (hs.keep ?_) hb hb2 ?_; (rw [bts_len]; exact HL.out); (repeat (first | exact Chg.refl _ _ | apply Chg.drew | apply Chg.alloc)); (intro r1 O1 hO1; have HO1 := Lib.hid hO1; clear hO1))
    | (with_reducible refine step_append_fresh rfl (.tmp 22) (.tmp 23) _ rfl 5 i0 (.int .u8 0) 1 Try.underlying22 hi hz0 hz1 hz2 rfl _ rfl A n c rfl (bts l) ?_ hpos (hs.keep ?_) hb hb2 ?_; (rw [bts_len]; exact HL.out); (repeat (first | exact Chg.refl _ _ | apply Chg.drew | apply Chg.alloc)); (intro r2 O2 hO2; have HO2 := Lib.hid hO2; clear hO2)))
  all_goals (go_wp2_with fail; go_ret)
  all_goals (obtain rfl := HL.out)
  all_goals (obtain rfl := HO1.out)
  all_goals (obtain rfl := HO2.out)
  all_goals (refine rfd_end (by repeat (first | exact Chg.refl _ _ | apply Chg.drew | apply Chg.drewN)) ?_ ?_ ?_ ?_ ?_ h1 h2 H3.out ?_ ?_ ?_ ?_)
  all_goals first
    | omega
    | ((repeat (first | exact Chg.refl _ _ | apply Chg.drew | apply Chg.drewN | apply Chg.alloc)); done)
    | ((repeat (first | exact whole_at (Whole.new _ _ _) (by simp) | apply Whole.drew | apply Whole.drewN | refine Whole.keep ?_ ((Chg.refl _ _).alloc _))); done)
    | (simp; done)
end
end Go.Proofs.Ytlhkmbcjgdjegaa
