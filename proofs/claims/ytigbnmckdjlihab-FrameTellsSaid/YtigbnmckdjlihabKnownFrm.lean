/-
  The known runs of layer 3.
-/
import Derived.Test.YtigbnmckdjlihabFrmPure
import Derived.Lib.SlBytesConst
namespace Go.Proofs.Ytigbnmckdjlihab
open Go.RowKit

theorem at_next {l : List UInt8} {ep k : Nat} {rs : List (List UInt8)} {a : Nat} (h : At l ep k rs a) (r m : List UInt8) (he : ep < 4294967296) (hk : k < 4294967296) (hr : r.length < 4294967296) (hl : l.drop a = frameL ep k r ++ m) :
    At l ep (k + 1) (rs ++ [r]) (a + (16 + r.length)) := by
  have h2 := h.next (by rw [hl]; exact frame_ok ep k r m he hk hr)
  rwa [hl, frame_rec ep k r m he hk hr, frame_len ep k r m he hk hr] at h2
theorem known_scan : scanS (frameL 3 0 [97, 98] ++ frameL 3 1 []) 3 = ([[97, 98], []], 34) := by
  have h1 := at_next (At.zero (frameL 3 0 [97, 98] ++ frameL 3 1 []) 3) [97, 98] (frameL 3 1 []) (by omega) (by omega) (by decide) rfl
  have h2 := at_next h1 [] [] (by omega) (by omega) (by decide) (by simp only [List.append_nil]; exact List.drop_left' (by rw [frameL_len]; rfl))
  have h3 := h2.last (by intro h; have h4 := h.1; rw [List.length_drop, List.length_append, frameL_len, frameL_len] at h4; simp at h4)
  exact h3

/-- A constant's row. -/
theorem Bs.of_const (w : World) (t : TypeId) (l : List UInt8) (fz : Nat × Nat) (hm : l.length ≤ 9223372036854775807) : Bs (w.alloc (.cells (bts l).toArray t fz)) (some ⟨w.heap.size, 0, none⟩) l.length l.length l := by
  refine ⟨rfl, fun _ => ⟨_, rfl, by simp, fun j v hj => ?_⟩, Nat.le_refl _, hm, fun _ ad e => by injection e with e; subst e; rfl⟩
  rw [add_plain, Nat.zero_add, cell_of_row _ _ _ _ _ _ (heap_alloc_new w _)]
  simpa using hj
section
variable {w : World}
set_option maxHeartbeats 1000000 in
theorem fknown_any : Calls Try.prog 14 #[] w (LawPost w) := by
  obtain ⟨i0, hi, hz, hs1, hb⟩ := info_parts info_byte
  have kc := fun (w : World) (C : Array Value) (n c : Nat) => Lib.run_convert_bytes_const (P := Try.prog) w 23 5 C n c Try.underlying23 Try.underlying5
  have hm1 := Lib.hid (show 18 + 16 ≤ maxLen by unfold maxLen; omega)
  have hm3 := Lib.hid (show (18 + 16) * 1 ≤ 140737488355328 by omega)
  go_enter Try.func14, Try.ntmps14
  go_wp2_with fail
  have hc0 : Chg [] w (w.alloc (.cells #[.int .u8 97, .int .u8 98] 5 (2, 3))) := (Chg.refl _ _).alloc _
  refine (frame_any (l := [97, 98]) (Bs.of_const w 5 [97, 98] (2, 3) (by simp)) 3 0 (by omega) (by omega) (by simp)).mono ?_
  rintro e w1 ⟨v1, rfl, ho1, hc1⟩
  obtain ⟨A1, c1, rfl, hB1, _⟩ := Bs.of_own ho1
  have hc01 := hc0.new hc1
  go_wp2_with fail
  refine (frame_any (Bs.nil w1) 3 1 (by omega) (by omega) (by simp)).mono ?_
  rintro e w2 ⟨v2, rfl, ho2, hc2⟩
  obtain ⟨A2, c2, rfl, hB2, _⟩ := Bs.of_own ho2
  have hc02 := hc01.new hc2
  have ho1' := own_more (own_keep ho1 hc2) hc0.size
  go_wp2_with (at_builtin
               refine wpList_append_src rfl (.tmp 9) (.tmp 10) 23 rfl w.heap.size 5 i0 _ 1 Try.underlying23 hi hz hs1 hb cells_u8 (.slice A1 18 c1) 18 (bts (frameL 3 0 [97, 98])) rfl ho1' A2 16 c2 (bts (frameL 3 1 [])) rfl rfl hB2.src (bts_one _) hm1.out hm3.out hc02.size ?_
               intro v3 w3 ho3 hg3 _
               have hc3 : Chg [] w w3 := hc02.own ho1' (Nat.le_refl _) hg3
               clear hg3
               rw [← bts_app] at ho3
               obtain ⟨A3, c3, rfl, hB3, _⟩ := Bs.of_own ho3)
  refine (scan_any hB3 3 (by simp)).mono ?_
  rintro e w4 ⟨v4, vs, rfl, ho4, hr4, hc4⟩
  rw [known_scan] at ho4 hr4 ⊢
  go_wp2_with fail
  refine (read_any' (hB3.keep hc4) 4 0 (by simp)).mono ?_
  rintro e w5 (⟨hyes, _⟩ | ⟨_, rfl, hc5⟩)
  · exact absurd hyes (frame_other 3 0 [97, 98] (frameL 3 1 []) (by omega) (by omega) (by simp) 4 0 (.inl (by omega)))
  obtain ⟨g, r, rfl, _, hW4, _⟩ := own_whole ho4 (by simp)
  obtain ⟨x0, x1, rfl⟩ : ∃ x0 x1, vs = [x0, x1] := by
    have hvl : vs.length = 2 := hr4.1
    match vs, hvl with
    | [x0, x1], _ => exact ⟨x0, x1, rfl⟩
  have hx0 := hr4.2 0 x0 [97, 98] rfl rfl
  obtain ⟨A5, c5, rfl, hB5, _⟩ := Bs.of_own (n := 2) hx0
  have c0 : w5.cell? ⟨g, 0, none⟩ = some (.slice A5 2 c5) := by rw [(hW4.keep hc5).cell]; rfl
  have hv := (hB5.keep hc5).str (P := Try.prog) 23 5 9 Try.underlying23 Try.underlying5 Try.underlying9
  have es : strOf [97, 98] = ⟨#[97, 98]⟩ := rfl
  rw [es] at hv
  go_wp2_with fail
  refine (frame_any (Bs.nil w5) 0 0 (by omega) (by omega) (by simp)).mono ?_
  rintro e w6 ⟨v6, rfl, ho6, hc6⟩
  obtain ⟨A6, c6, rfl, _⟩ := Bs.of_own ho6
  have hl6 : (frameL 0 0 []).length = 16 := rfl
  go_wp2_with fail
  go_ret
  exact ⟨rfl, ((hc3.new hc4).new hc5).new hc6⟩
end
end Go.Proofs.Ytigbnmckdjlihab
