/-
  The reference's Flush and Waits.
-/
import Derived.Test.YtigbnmckdjlihaaRefMore
namespace Go.Proofs.Ytigbnmckdjlihaa
open Go.RowKit

section
variable {w w' : World} {p gL gN gW : Nat} {rL rN : List Value} {m : Int} {s : St}

set_option maxHeartbeats 1000000 in
theorem rwaits_any (h : Rfd w p gL gN gW rL rN m s) :
    Calls Try.prog 75 #[.pointer (some ⟨p, 0, none⟩)] w fun e w' => ∃ A c, e = .returned (.slice A (wl s.V s.V.length).length c) ∧ Src w' A (nmsN (wl s.V s.V.length)) ∧ (∀ ad, A = some ad → ad.spot = none ∧ w.heap.size ≤ ad.block) ∧ Chg [] w w' := by
  obtain ⟨i0, hi, hz0, hz1, hz2⟩ := info_parts info_int
  have c2 := h.rec_.cell 2
  have hle := h.le
  go_enter Try.func75, Try.ntmps75
  go_wp2_with fail
  go_loopw [3, 10] (fun v i wr => ∃ k : Nat, k ≤ s.V.length ∧ i = .int .i64 (k : Int) ∧ wr.ownsRow w.heap.size 3 1 v (wl s.V k).length (nmsN (wl s.V k)) ∧ Chg [] w wr) (fun _ i _ => s.V.length - (intOf i).toNat)
  case atStart => exact ⟨0, Nat.zero_le _, rfl, by simpa [wl, nmsN] using World.ownsRow_nil w w.heap.size 3 1, Chg.refl _ _⟩
  case round =>
    obtain ⟨k, hk, rfl, hown, hcg⟩ := hrel
    have hd := h.keep hcg
    have c2' := hd.rec_.cell 2
    have hll := wl_le s.V k
    have hwr := hcg.size
    by_cases hlt : k < s.V.length
    · have c4 := (hd.wait.cell k).trans (bls_get s.V k hlt)
      cases hv : s.V[k] with
      | true =>
        rw [hv] at c4
        have HY := Lib.hid (wl_yes s.V k hlt hv)
        clear hv
        obtain ⟨X, hX⟩ : ∃ X, X = nmsN (wl s.V k) := ⟨_, rfl⟩
        obtain ⟨N, hN⟩ : ∃ N, N = (wl s.V k).length := ⟨_, rfl⟩
        rw [← hX, ← hN] at hown
        have HX := Lib.hid hX
        have HN := Lib.hid hN
        rw [← hN] at hll
        clear hX hN
        go_wp2_with (first
          | (at_builtin
             refine wpList_append_own _ rfl (.tmp 20) (.tmp 22) _ rfl w.heap.size 3 i0 (.int .i64 0) 1 8 Try.underlying43 hi hz0 hz1 hz2 rfl (by decide) _ N X rfl (hown.alloc _) ⟨wr.heap.size, 0, none⟩ 1 1 [.int .i64 (k : Int)] rfl rfl ?c1 ?c2 ?c3 ?c4 ?c5 ?_
             case c1 => exact cell_one_new _ _ _
             case c2 => simp [Value.oneCell']
             case c3 => simp only [maxLen]; omega
             case c4 => omega
             case c5 => simp; omega
             intro v' w1 hown' hg' _))
        go_roundw
        case rel =>
          refine ⟨k + 1, by omega, by go_num, ?_, chg_grown (hcg.alloc _) hg' fun g hgg => (hown.lt g hgg).1⟩
          rw [HY.out, nmsN_app, List.length_append, ← HX.out, ← HN.out]
          exact hown'
        case measure => simp [intOf]; omega
      | false =>
        rw [hv] at c4
        have HY := Lib.hid (wl_no s.V k hlt hv)
        clear hv
        go_wp2_with fail
        go_roundw
        case rel => exact ⟨k + 1, by omega, by go_num, by rw [HY.out]; exact hown, hcg⟩
        case measure => simp [intOf]; omega
    · obtain rfl : k = s.V.length := by omega
      obtain ⟨A, c, rfl, hs, _, hA⟩ := own_form hown
      go_wp2_with fail
      go_ret
      exact ⟨A, c, rfl, hs, hA, hcg⟩

set_option maxHeartbeats 2000000 in
theorem rflush_any (h : Rfd w p gL gN gW rL rN m s) :
    Calls Try.prog 59 #[.pointer (some ⟨p, 0, none⟩)] w fun e w' => ∃ gW' m', e = .returned (.tuple #[]) ∧
      Rfd w' p gL gN gW' rL rN m' ⟨s.S, s.S, falses s.V.length⟩ ∧ w.heap.size ≤ gW' ∧ Chg [p, gL] w w' := by
  have hmk := make_bool s.V.length (by have := h.le; omega)
  have hLS : s.L.length = s.S.length := by rw [h.lenL, h.lenS]
  have Hn := Lib.hid (show (bts s.S).length = Nat.min s.S.length s.L.length by rw [bts_len, hLS]; exact (Nat.min_self _).symm)
  have hfit : 0 + (bts s.S).length ≤ (bts s.L ++ rL).length := by rw [List.length_append, bts_len, bts_len]; omega
  have HX := Lib.hid (show splice (bts s.L ++ rL) 0 (bts s.S) = bts s.S ++ rL by rw [splice_app _ _ _ _ (by rw [bts_len, bts_len]; omega), bts_splice, splice_all _ _ (by omega)])
  have HLS := Lib.hid hLS
  have b1 := bts_one s.S
  clear hLS
  go_enter Try.func59, Try.ntmps59
  go_wp2_with fail
  refine (rdeed_any h).mono ?_
  rintro e w1 ⟨m1, rfl, h1, hc1⟩
  have c0 := h1.rec_.cell 0
  have c1 := h1.rec_.cell 1
  have hs1 : Src w1 (some ⟨gN, 0, none⟩) (bts s.S) := by
    have := Src.of_whole h1.now 0 s.S.length
    rwa [List.drop_zero, List.take_append_of_le_length (by rw [bts_len]; omega), List.take_of_length_le (by rw [bts_len]; omega)] at this
  have n2 := Lib.hid (show p ∉ [gL] by simpa using h.rec_.ne_ h.last (by decide))
  have n4 := Lib.hid (show gN ∉ [gL] by simpa using fun e => h.ne e.symm)
  obtain ⟨Y, hY⟩ : ∃ Y, Y = bts s.S := ⟨_, rfl⟩
  have HY := Lib.hid hY
  rw [← hY] at Hn hfit HX b1 hs1
  clear hY
  go_wp2_with fail
  go_region_law (with_reducible refine step_copy_chg rfl (.tmp 7) (.tmp 11) _ _ rfl 5 Try.underlying40 size_u8 (some ⟨gL, 0, none⟩) (some ⟨gN, 0, none⟩) s.L.length (s.L.length + rL.length) s.S.length (s.S.length + rN.length) rfl rfl gL 0 5 (bts s.L ++ rL) Y h1.last.drew Hn.out (fun _ => rfl) hs1.drew hfit b1 ?_; intro w2 HG HC)
  all_goals
    have R2 := h1.rec_.drew.chg HC n2.out
    have N2 := h1.now.drew.chg HC n4.out
    clear c0 c1
    have c2 : w2.cell? ⟨p, 2, none⟩ = some (.slice (some ⟨gW, 0, none⟩) s.V.length s.V.length) := R2.cell 2
    have c2' : ∀ o, (w2.alloc o).cell? ⟨p, 2, none⟩ = some (.slice (some ⟨gW, 0, none⟩) s.V.length s.V.length) := fun o => (R2.keep ((Chg.refl [] w2).alloc o)).cell 2
    have f2' := fun o => (R2.keep ((Chg.refl [] w2).alloc o)).frozen 2
    rw [HX.out, HY.out] at HG
    go_wp2_with fail
    go_end0
    have hal : ∀ o, Chg [] w2 (w2.alloc o) := fun o => (Chg.refl [] w2).alloc o
    have z1 := hc1.size
    have z2 := HC.size
    have z3 : w1.drew.heap.size = w1.heap.size := rfl
    have lp := R2.lt
    have lL := HG.lt
    have lN := N2.lt
    refine ⟨w2.heap.size, m1, rfl, ⟨?_, (HG.keep (hal _)).far (by simpa using HG.ne_ R2 (by decide)) _, (N2.keep (hal _)).far (by simpa using N2.ne_ R2 (by decide)) _, (Whole.new w2 _ _).far (by simp; omega) _, by simp only [falses_len]; exact h.lenS, by simp only [falses_len]; exact h.lenS, by simp only [falses_len]; exact h.le, h.ne⟩, by omega, ?_⟩
    · have := (R2.keep (hal (.cells (bls (falses s.V.length)).toArray 4))).set_ 2 (.slice (some ⟨w2.heap.size, 0, none⟩) s.V.length s.V.length)
      simp only [falses_len]
      rw [HLS.out] at this
      exact this
    · have a1 : Chg [p, gL] w w1 := hc1.sub (by simp)
      have a2 : Chg [p, gL] w w2 := a1.drew.trans (HC.sub (by simp))
      exact (a2.alloc _).setCell (by simp) _
end
end Go.Proofs.Ytigbnmckdjlihaa
