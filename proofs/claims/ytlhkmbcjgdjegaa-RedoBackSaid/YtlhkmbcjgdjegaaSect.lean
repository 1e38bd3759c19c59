/-
  disk.sector, Image, Seen.
-/
import Derived.Test.YtlhkmbcjgdjegaaDsk
namespace Go.Proofs.Ytlhkmbcjgdjegaa
open Go.RowKit
set_option maxHeartbeats 400000 in
theorem dsector_any {w : World} {g n c : Nat} (k : Nat) (h : 64 * (k + 1) ≤ n) (hc : n ≤ c) (hn : c ≤ 1000000) :
    Calls Try.prog 98 #[.slice (some ⟨g, 0, none⟩) n c, .int .i64 (k : Int)] w fun e w' => e = .returned (.slice (some ⟨g, k * 64, none⟩) 64 (c - k * 64)) ∧ w = w' := by
  go_enter Try.func98, Try.ntmps98
  go_wp2_with fail
  go_ret
  exact ⟨by show Ending.returned (.slice _ ((k + 1) * 64 - k * 64) _) = _; rw [show (k + 1) * 64 - k * 64 = 64 by omega], rfl⟩

section
variable {w : World} {p bL bS bW : Nat} {L S : List UInt8} {V : List Bool}
set_option maxHeartbeats 400000 in
theorem image_any (h : Dsk w p bL bS bW L S V) :
    Calls Try.prog 95 #[.pointer (some ⟨p, 0, none⟩)] w fun e w' => e = .returned (.slice (some ⟨w.heap.size, 0, none⟩) L.length L.length) ∧ Whole w' w.heap.size 5 (bts L) ∧ Chg [] w w' := by
  have c0 := h.rec_.cell 0
  have hb := h.lenL
  have hv := h.le
  have hlt : L.length ≤ 1000000 := by omega
  clear hb
  go_enter Try.func95, Try.ntmps95
  go_wp2_with (go_at_call 60; refine (fresh_any (bts_len L) (Src.of_all h.last) (bts_one L) hlt).mono ?_; rintro e w1 ⟨rfl, HB, HC⟩)
  go_ret
  exact ⟨rfl, HB, HC⟩
set_option maxHeartbeats 400000 in
theorem seen_any (h : Dsk w p bL bS bW L S V) :
    Calls Try.prog 23 #[.pointer (some ⟨p, 0, none⟩)] w fun e w' => e = .returned (.slice (some ⟨w.heap.size, 0, none⟩) S.length S.length) ∧ Whole w' w.heap.size 5 (bts S) ∧ Chg [] w w' := by
  have c0 := h.rec_.cell 1
  have hb := h.lenS
  have hv := h.le
  have hlt : S.length ≤ 1000000 := by omega
  clear hb
  go_enter Try.func23, Try.ntmps23
  go_wp2_with (go_at_call 60; refine (fresh_any (bts_len S) (Src.of_all h.seen) (bts_one S) hlt).mono ?_; rintro e w1 ⟨rfl, HB, HC⟩)
  go_ret
  exact ⟨rfl, HB, HC⟩
end
end Go.Proofs.Ytlhkmbcjgdjegaa
