/-
  The reference's Read, as a row of its own.
-/
import Derived.Test.YtlhkmbcjgdjegaaRefMore
import Derived.Test.YtlhkmbcjgdjegaaShare
import Derived.Test.YtlhkmbcjgdjegaaBs
namespace Go.Proofs.Ytlhkmbcjgdjegaa
open Go.RowKit
section
variable {w : World} {p gL gN gW : Nat} {rL rN : List Value} {m : Int} {s : St}
set_option maxHeartbeats 1000000 in
set_option maxRecDepth 100000 in
theorem rread_own (h : Rfd w p gL gN gW rL rN m s) (k : Nat) (hk : k < s.V.length) :
    Calls Try.prog 52 #[.pointer (some ⟨p, 0, none⟩), .int .i64 (k : Int)] w fun e w' => ∃ v, e = .returned (.tuple #[v, .bool true]) ∧
      w'.ownsRow w.heap.size 5 1 v 64 (bts ((s.S.drop (k * 64)).take 64)) ∧ Chg [] w w' := by
  obtain ⟨i0, hi, hz0, hz1, hz2⟩ := info_parts info_u8
  have hd : decide ((k : Int) < 0) = false := by simp
  have hd1 : decide ((s.V.length : Int) ≤ (k : Int)) = false := by simp; omega
  have c1 := fun o => (h.keep ((Chg.refl [] w).alloc o)).rec_.cell 1
  have hS := h.lenS
  have hv := h.le
  have s1 : 64 * (k + 1) ≤ s.S.length := by omega
  have s2 : s.S.length ≤ 1000000 := by omega
  have hne : ¬ (s.S.length + rN.length = k * 64) := by omega
  have hu : (k + 1) * 64 ≤ s.S.length + rN.length := by omega
  clear hS
  have Hl := Lib.hid (show (bts ((s.S.drop (k * 64)).take 64)).length = 64 by rw [bts_len, List.length_take, List.length_drop]; omega)
  have hsr : Src w (some ⟨gN, k * 64, none⟩) (bts ((s.S.drop (k * 64)).take 64)) := by
    have := Src.of_whole h.now (k * 64) 64
    rwa [List.drop_append_of_le_length (by rw [bts_len]; omega), List.take_append_of_le_length (by rw [List.length_drop, bts_len]; omega), bts_cut] at this
  have h1 := bts_one ((s.S.drop (k * 64)).take 64)
  obtain ⟨Y, hY⟩ : ∃ Y, Y = bts ((s.S.drop (k * 64)).take 64) := ⟨_, rfl⟩
  rw [← hY] at Hl hsr h1
  rw [← hY]
  clear hY
  go_enter Try.func52, Try.ntmps52
  have Hm := Lib.hid (show Y.length = (k + 1) * 64 - k * 64 by rw [Hl.out]; omega)
  have Hb : (0 + ((k + 1) * 64 - k * 64)) * 1 ≤ 140737488355328 := by omega
  have Hb2 : 0 + ((k + 1) * 64 - k * 64) ≤ maxLen := by unfold maxLen; omega
  have H64 := Lib.hid (show 0 + ((k + 1) * 64 - k * 64) = 64 by omega)
  have ho0 : (w.alloc (.cells #[] 5)).ownsRow w.heap.size 5 1 (.slice (some ⟨w.heap.size, 0, none⟩) 0 0) 0 [] :=
    own_of_whole (B := w.heap.size) (n := 0) (c := 0) (Whole.new w 5 []) (Nat.le_refl _) rfl (by omega) (by unfold maxLen; omega)
  go_wp2_with (first
    | (go_at_call 50; refine (rlen_any h).mono ?_; rintro e w' ⟨rfl, rfl⟩)
    | (at_builtin
       refine wpList_append_src rfl (.tmp 14) (.tmp 24) 22 rfl w.heap.size 5 i0 (.int .u8 0) 1 Try.underlying22 hi hz0 hz1 hz2 rfl (.slice (some ⟨w.heap.size, 0, none⟩) 0 0) 0 [] rfl ho0 (some ⟨gN, k * 64, none⟩) ((k + 1) * 64 - k * 64) (s.S.length + rN.length - k * 64) Y rfl Hm.out (hsr.keep ((Chg.refl _ _).alloc _)) h1 Hb2 Hb (by simp) ?_
       intro v4 w4 ho4 hg4 _))
  go_ret2
  rw [H64.out] at ho4
  rw [List.nil_append] at ho4
  exact ⟨_, rfl, ho4, ((Chg.refl [] w).alloc _).own ho0 (Nat.le_refl _) hg4⟩
end
end Go.Proofs.Ytlhkmbcjgdjegaa
