/-
  The reference's Write, Read, Flush, Waits.
-/
import Derived.Test.YtlhkmbcjgdjegaaRef
import Derived.Test.YtlhkmbcjgdjegaaAppend
namespace Go.Proofs.Ytlhkmbcjgdjegaa
open Go.RowKit

section
variable {w w' : World} {p gL gN gW : Nat} {rL rN : List Value} {m : Int} {s : St}

set_option maxHeartbeats 400000 in
theorem rwrite_no (h : Rfd w p gL gN gW rL rN m s) (i : Int) (A : Option Addr) (n c : Nat) (hi : i < 0 ∨ (s.V.length : Int) ≤ i ∨ n ≠ 64) :
    Calls Try.prog 53 #[.pointer (some ⟨p, 0, none⟩), .int .i64 i, .slice A n c] w fun e w' => e = .returned (.bool false) ∧ w = w' := by
  by_cases h0 : i < 0
  · have hd : decide (i < 0) = true := by simp; omega
    go_enter Try.func53, Try.ntmps53
    go_wp2_with fail
    go_ret
    exact ⟨rfl, rfl⟩
  · have hd : decide (i < 0) = false := by simp; omega
    by_cases h1 : (s.V.length : Int) ≤ i
    · have hd1 : decide ((s.V.length : Int) ≤ i) = true := by simp; omega
      go_enter Try.func53, Try.ntmps53
      go_wp2_with (go_at_call 50; refine (rlen_any h).mono ?_; rintro e w' ⟨rfl, rfl⟩)
      go_ret
      exact ⟨rfl, rfl⟩
    · have hd1 : decide ((s.V.length : Int) ≤ i) = false := by simp; omega
      have hd2 : ((n : Int) != 64) = true := by simp; omega
      clear hi
      go_enter Try.func53, Try.ntmps53
      go_wp2_with (go_at_call 50; refine (rlen_any h).mono ?_; rintro e w' ⟨rfl, rfl⟩)
      go_ret
      exact ⟨rfl, rfl⟩

set_option maxHeartbeats 1000000 in
theorem rwrite_yes (h : Rfd w p gL gN gW rL rN m s) (k : Nat) (hk : k < s.V.length) {A : Option Addr} {c : Nat} {x : List UInt8} (hx : x.length = 64) (hs : Src w A (bts x)) (hA : ∀ ad, A = some ad → ad.block ≠ p) :
    Calls Try.prog 53 #[.pointer (some ⟨p, 0, none⟩), .int .i64 (k : Int), .slice A 64 c] w fun e w' => ∃ m', e = .returned (.bool true) ∧
      Rfd w' p gL gN gW rL rN m' (s.write k x) ∧ Chg [p, gN, gW] w w' := by
  have hd : decide ((k : Int) < 0) = false := by simp
  have hd1 : decide ((s.V.length : Int) ≤ (k : Int)) = false := by simp; omega
  have hS := h.lenS
  have hv := h.le
  have s1 : 64 * (k + 1) ≤ s.S.length := by omega
  have s2 : s.S.length ≤ 1000000 := by omega
  have hne : ¬ (s.S.length + rN.length = k * 64) := by omega
  have hle : k * 64 ≤ s.S.length := by omega
  clear hS
  have hfit : k * 64 + (bts x).length ≤ (bts s.S ++ rN).length := by rw [List.length_append, bts_len, bts_len]; omega
  have Hn := Lib.hid (show (bts x).length = Nat.min 64 (s.S.length - k * 64) by rw [bts_len, hx]; exact (Nat.min_eq_left (by omega)).symm)
  have Hx := Lib.hid hx
  have b1 := bts_one x
  have HA := Lib.hid hA
  have n2 := Lib.hid (show p ∉ [gN] by simpa using h.rec_.ne_ h.now (by decide))
  have n3 := Lib.hid (show gW ∉ [gN] by simpa using h.wait.ne_ h.now (by decide))
  have HX := Lib.hid (show splice (bts s.S ++ rN) (k * 64) (bts x) = bts (splice s.S (k * 64) x) ++ rN by rw [splice_app _ _ _ _ (by rw [bts_len, bts_len]; omega), bts_splice])
  obtain ⟨Y, hY⟩ : ∃ Y, Y = bts x := ⟨_, rfl⟩
  rw [← hY] at hfit Hn b1 hs HX
  clear hx hY hA
  go_enter Try.func53, Try.ntmps53
  go_wp2_with (go_at_call 50; refine (rlen_any h).mono ?_; rintro e w' ⟨rfl, rfl⟩)
  refine (rdeed_any h).mono ?_
  rintro e w1 ⟨m1, rfl, h1, hc1⟩
  have c1 := h1.rec_.cell 1
  have hs1 : Src w1 A Y := hs.chg hc1 (fun _ ad e => by simpa using HA.out ad e)
  go_wp2_with (with_reducible refine wpList_copy_chg rfl (.tmp 28) (.tmp 29) _ _ rfl 5 Try.underlying22 size_u8 (some ⟨gN, k * 64, none⟩) A (s.S.length - k * 64) (s.S.length + rN.length - k * 64) 64 c rfl rfl gN (k * 64) 5 (bts s.S ++ rN) Y h1.now Hn.out (fun _ => rfl) hs1 hfit b1 ?_
               intro w2 HG HC
               have R2 := h1.rec_.chg HC n2.out
               have V2 := h1.wait.chg HC n3.out
               have c2 := R2.cell 2
               have c4 := (V2.cell k).trans (bls_get s.V k hk)
               have c5 := V2.frozen k)
  go_ret
  rw [HX.out] at HG
  have eS : (splice s.S (k * 64) x).length = s.S.length := length_splice _ _ _ (by rw [Hx.out]; omega)
  have d1 := h1.rec_.ne_ h1.wait (by decide)
  have d2 := h1.last.ne_ h1.wait (by decide)
  have d3 := h1.now.ne_ h1.wait (by decide)
  have hw : Whole (w2.setCell ⟨gW, k, none⟩ (.bool true)) gW 4 (bls (s.V.set k true)) := by
    have := V2.set_ k (.bool true)
    rwa [bls_set] at this
  refine ⟨m1, rfl, ⟨?_, (h1.last.chg HC (by simpa using h1.ne)).far d2 _, HG.far d3 _, hw, by simp only [St.write, List.length_set]; exact h.lenL, by simp only [St.write, List.length_set]; rw [eS]; exact h.lenS, by simp only [St.write, List.length_set]; exact h.le, h.ne⟩, ?_⟩
  · simp only [St.write, List.length_set]
    rw [eS]
    exact R2.far d1 _
  · exact (((hc1.sub (by simp)).trans (HC.sub (T' := [p, gN, gW]) (by simp)))).setCell (by simp) _

set_option maxHeartbeats 400000 in
theorem rread_no (h : Rfd w p gL gN gW rL rN m s) (i : Int) (hi : i < 0 ∨ (s.V.length : Int) ≤ i) :
    Calls Try.prog 52 #[.pointer (some ⟨p, 0, none⟩), .int .i64 i] w fun e w' => e = .returned (.tuple #[.slice none 0 0, .bool false]) ∧ w = w' := by
  by_cases h0 : i < 0
  · have hd : decide (i < 0) = true := by simp; omega
    go_enter Try.func52, Try.ntmps52
    go_wp2_with fail
    go_ret2
    exact ⟨rfl, rfl⟩
  · have hd : decide (i < 0) = false := by simp; omega
    have hd1 : decide ((s.V.length : Int) ≤ i) = true := by simp; omega
    go_enter Try.func52, Try.ntmps52
    go_wp2_with (go_at_call 50; refine (rlen_any h).mono ?_; rintro e w' ⟨rfl, rfl⟩)
    go_ret2
    exact ⟨rfl, rfl⟩

set_option maxHeartbeats 1000000 in
set_option maxRecDepth 100000 in
theorem rread_yes (h : Rfd w p gL gN gW rL rN m s) (k : Nat) (hk : k < s.V.length) :
    Calls Try.prog 52 #[.pointer (some ⟨p, 0, none⟩), .int .i64 (k : Int)] w fun e w' => ∃ g c, e = .returned (.tuple #[.slice (some ⟨g, 0, none⟩) 64 c, .bool true]) ∧
      (∃ r, Whole w' g 5 (bts ((s.S.drop (k * 64)).take 64) ++ r)) ∧ Chg [] w w' := by
  obtain ⟨i0, hi, hz0, hz1, hz2⟩ := info_parts info_u8
  have hd : decide ((k : Int) < 0) = false := by simp
  have hd1 : decide ((s.V.length : Int) ≤ (k : Int)) = false := by simp; omega
  have c1 := fun o => (h.keep ((Chg.refl [] w).alloc o)).rec_.cell 1
  have hS := h.lenS
  have hv := h.le
  have s1 : 64 * (k + 1) ≤ s.S.length := by omega
  have s2 : s.S.length ≤ 1000000 := by omega
  have hne : ¬ (s.S.length + rN.length = k * 64) := by omega
  have hu : (k + 1) * 64 ≤ s.S.length + rN.length := by omega
  clear hS
  have Hl := Lib.hid (show (bts ((s.S.drop (k * 64)).take 64)).length = 64 by rw [bts_len, List.length_take, List.length_drop]; omega)
  have hsr : Src w (some ⟨gN, k * 64, none⟩) (bts ((s.S.drop (k * 64)).take 64)) := by
    have := Src.of_whole h.now (k * 64) 64
    rwa [List.drop_append_of_le_length (by rw [bts_len]; omega), List.take_append_of_le_length (by rw [List.length_drop, bts_len]; omega), bts_cut] at this
  obtain ⟨Y, hY⟩ : ∃ Y, Y = bts ((s.S.drop (k * 64)).take 64) := ⟨_, rfl⟩
  rw [← hY] at Hl hsr
  rw [← hY]
  clear hY
  go_enter Try.func52, Try.ntmps52
  have Hm := Lib.hid (show Y.length = (k + 1) * 64 - k * 64 by rw [Hl.out]; omega)
  have Hpos : 0 < (k + 1) * 64 - k * 64 := by omega
  have Hb : ((k + 1) * 64 - k * 64) * 1 ≤ 140737488355328 := by omega
  have Hb2 : (k + 1) * 64 - k * 64 ≤ maxLen := by unfold maxLen; omega
  have H64 := Lib.hid (show (k + 1) * 64 - k * 64 = 64 by omega)
  go_wp2_with (first
    | (go_at_call 50; refine (rlen_any h).mono ?_; rintro e w' ⟨rfl, rfl⟩)
    | (at_builtin
       refine wpList_append_fresh rfl (.tmp 14) (.tmp 24) _ rfl 5 i0 (.int .u8 0) 1 Try.underlying22 hi hz0 hz1 hz2 rfl ⟨w.heap.size, 0, none⟩ rfl (some ⟨gN, k * 64, none⟩) ((k + 1) * 64 - k * 64) (s.S.length + rN.length - k * 64) rfl Y Hm.out Hpos (hsr.keep ((Chg.refl _ _).alloc _)) Hb Hb2 ?_
       intro r))
  go_ret2
  rw [H64.out]
  refine ⟨_, _, rfl, ⟨r, ?_⟩, (((Chg.refl [] w).alloc _).drew).alloc _⟩
  exact whole_at (Whole.new _ _ _) (by simp)
end
end Go.Proofs.Ytlhkmbcjgdjegaa
