/-
  The reference's Flush and Waits.
-/
import Derived.Test.YtlhkmbcjgdjegaaRefMore
import Derived.Test.YtlhkmbcjgdjegaaWaits
import Derived.Test.YtlhkmbcjgdjegaaDskS
namespace Go.Proofs.Ytlhkmbcjgdjegaa
open Go.RowKit

section
variable {w w' : World} {p gL gN gW : Nat} {rL rN : List Value} {m : Int} {s : St}

set_option maxHeartbeats 1000000 in
theorem rwaits_any (h : Rfd w p gL gN gW rL rN m s) :
    Calls Try.prog 96 #[.pointer (some ⟨p, 0, none⟩)] w fun e w' => ∃ A c, e = .returned (.slice A (wl s.V s.V.length).length c) ∧ Src w' A (nmsN (wl s.V s.V.length)) ∧ (∀ ad, A = some ad → ad.spot = none ∧ w.heap.size ≤ ad.block) ∧ Chg [] w w' := by
  obtain ⟨i0, hi, hz0, hz1, hz2⟩ := info_parts info_int
  have c2 := h.rec_.cell 2
  have hle := h.le
  go_enter Try.func96, Try.ntmps96
  go_wp2_with fail
  go_loopw [3, 10] (fun v i wr => ∃ k : Nat, k ≤ s.V.length ∧ i = .int .i64 (k : Int) ∧ wr.ownsRow w.heap.size 3 1 v (wl s.V k).length (nmsN (wl s.V k)) ∧ Chg [] w wr) (fun _ i _ => s.V.length - (intOf i).toNat)
  case atStart => exact ⟨0, Nat.zero_le _, rfl, by simpa [wl, nmsN] using World.ownsRow_nil w w.heap.size 3 1, Chg.refl _ _⟩
  case round =>
    obtain ⟨k, hk, rfl, hown, hcg⟩ := hrel
    have hd := h.keep hcg
    have c2' := hd.rec_.cell 2
    have hll := wl_le s.V k
    have hwr := hcg.size
    by_cases hlt : k < s.V.length
    · have c4 := (hd.wait.cell k).trans (bls_get s.V k hlt)
      cases hv : s.V[k] with
      | true =>
        rw [hv] at c4
        have HY := Lib.hid (wl_yes s.V k hlt hv)
        clear hv
        obtain ⟨X, hX⟩ : ∃ X, X = nmsN (wl s.V k) := ⟨_, rfl⟩
        obtain ⟨N, hN⟩ : ∃ N, N = (wl s.V k).length := ⟨_, rfl⟩
        rw [← hX, ← hN] at hown
        have HX := Lib.hid hX
        have HN := Lib.hid hN
        rw [← hN] at hll
        clear hX hN
        go_wp2_with (first
          | (at_builtin
             refine wpList_append_own _ rfl (.tmp 20) (.tmp 22) _ rfl w.heap.size 3 i0 (.int .i64 0) 1 8 Try.underlying56 hi hz0 hz1 hz2 rfl (by decide) _ N X rfl (hown.alloc _) ⟨wr.heap.size, 0, none⟩ 1 1 [.int .i64 (k : Int)] rfl rfl ?c1 ?c2 ?c3 ?c4 ?c5 ?_
             case c1 => exact cell_one_new _ _ _
             case c2 => simp [Value.oneCell']
             case c3 => simp only [maxLen]; omega
             case c4 => omega
             case c5 => simp; omega
             intro v' w1 hown' hg' _))
        go_roundw
        case rel =>
          refine ⟨k + 1, by omega, by go_num, ?_, chg_grown (hcg.alloc _) hg' fun g hgg => (hown.lt g hgg).1⟩
          rw [HY.out, nmsN_app, List.length_append, ← HX.out, ← HN.out]
          exact hown'
        case measure => simp [intOf]; omega
      | false =>
        rw [hv] at c4
        have HY := Lib.hid (wl_no s.V k hlt hv)
        clear hv
        go_wp2_with fail
        go_roundw
        case rel => exact ⟨k + 1, by omega, by go_num, by rw [HY.out]; exact hown, hcg⟩
        case measure => simp [intOf]; omega
    · obtain rfl : k = s.V.length := by omega
      obtain ⟨A, c, rfl, hs, _, hA⟩ := own_form hown
      go_wp2_with fail
      go_ret
      exact ⟨A, c, rfl, hs, hA, hcg⟩

end
end Go.Proofs.Ytlhkmbcjgdjegaa
