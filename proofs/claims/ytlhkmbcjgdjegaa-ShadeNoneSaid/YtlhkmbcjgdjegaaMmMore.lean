/-
  cells: Bytes, Copy, Dirty.
-/
import Derived.Test.YtlhkmbcjgdjegaaShare
import Derived.Test.YtlhkmbcjgdjegaaMmNew
import Derived.Test.YtlhkmbcjgdjegaaFlow
import Derived.Test.YtlhkmbcjgdjegaaLaw
namespace Go.Proofs.Ytlhkmbcjgdjegaa
open Go.RowKit

/-- Bytes of the call's own. -/
def OwnB (w : World) (l : List UInt8) (e : Ending) (w' : World) : Prop := ∃ v, e = .returned v ∧ w'.ownsRow w.heap.size 5 1 v l.length (bts l) ∧ Chg [] w w'
/-- The places that are true, below k. -/
def trues (V : List Bool) (k : Nat) : List Int := ((List.range k).filter fun i => V.getD i false).map Int.ofNat
theorem trues_yes (V : List Bool) (k : Nat) (h : V.getD k false = true) : trues V (k + 1) = trues V k ++ [(k : Int)] := by
  unfold trues; rw [List.range_succ, List.filter_append, List.map_append, List.filter_cons, if_pos h]; rfl
theorem trues_no (V : List Bool) (k : Nat) (h : V.getD k false = false) : trues V (k + 1) = trues V k := by
  unfold trues; rw [List.range_succ, List.filter_append, List.filter_cons, if_neg (by rw [h]; decide)]; simp
theorem trues_le (V : List Bool) (k : Nat) : (trues V k).length ≤ k := by
  unfold trues; rw [List.length_map]; exact Nat.le_trans (List.length_filter_le _ _) (by simp)
/-- Numbers of the call's own. -/
def OwnI (w : World) (l : List Int) (e : Ending) (w' : World) : Prop := ∃ v, e = .returned v ∧ w'.ownsRow w.heap.size 3 1 v l.length (nms l) ∧ Chg [] w w'
theorem cells_i64 : (Value.int .i64 0).cells.size = 1 := rfl
section
variable {w : World} {p gC gD : Nat} {L : List UInt8} {X : List Value} {V : List Bool} {Y : List Value} {most : Nat}
set_option maxHeartbeats 1000000 in
theorem mbytes_any (h : Mm w p gC gD L X V Y most) : Calls Try.prog 28 #[.pointer (some ⟨p, 0, none⟩)] w (OwnB w L) := by
  obtain ⟨i, hi, hz, hs1, hb⟩ := info_parts info_u8
  have c0 := h.rec_.cell 0
  have hsr := h.src
  have hl := Lib.hid (bts_len L)
  have h1 := bts_one L
  have b1 := h.small
  have x1 := Lib.hid (show 0 + L.length ≤ maxLen by unfold maxLen; omega)
  have x2 := Lib.hid (show (0 + L.length) * 1 ≤ 140737488355328 by omega)
  go_enter Try.func28, Try.ntmps28
  go_wp2_with (at_builtin
               refine wpList_append_src rfl (.const (.slice none 0 0)) (.tmp 6) 22 rfl w.heap.size 5 i _ 1 Try.underlying22 hi hz hs1 hb cells_u8 (.slice none 0 0) 0 [] rfl (own_nil _ _ _) (some ⟨gC, 0, none⟩) L.length (L.length + X.length) (bts L) rfl hl.out hsr h1 x1.out x2.out (Nat.le_refl _) ?_
               intro v4 w4 ho4 hg4 _)
  go_ret
  rw [Nat.zero_add, List.nil_append] at ho4
  exact ⟨v4, rfl, ho4, Chg.of_grown hg4 (fun g hg => by simp [Value.ownBlock] at hg)⟩

/-- A pointer to a memory of the call's own. -/
def newF (B : Nat) (l : List UInt8) (k most : Nat) : Fact := fun v W => ∃ p gC gD, v = .pointer (some ⟨p, 0, none⟩) ∧ Mm W p gC gD l [] (falses k) [] most ∧ B ≤ p ∧ B ≤ gC ∧ B ≤ gD
theorem keeps_newF (B : Nat) (l : List UInt8) (k most : Nat) : Keeps (Chg []) (newF B l k most) := fun _ _ _ ⟨p, gC, gD, h, hM, h1, h2, h3⟩ hc => ⟨p, gC, gD, h, hM.keep hc, h1, h2, h3⟩
set_option maxHeartbeats 1000000 in
set_option maxRecDepth 100000 in
theorem mcopy_any (h : Mm w p gC gD L X V Y most) : Calls Try.prog 26 #[.pointer (some ⟨p, 0, none⟩)] w (NewPost w L V.length most) := by
  have c0 := h.rec_.cell 0
  have c1 := h.rec_.cell 1
  have hlen := h.len
  have hle := h.le
  have htop := h.top
  have H1 := Lib.hid (show L.length % 64 = 0 by omega)
  have H2 := Lib.hid (show L.length / 64 = V.length by omega)
  have H3 := Lib.hid (show L.length / 64 ≤ most by omega)
  clear hlen
  go_enter Try.func26, Try.ntmps26
  go_wp2_with fail
  have hd := h.keep (Chg.refl [] w).drew
  clear c0 c1
  refine wp_flow (by kernel_rfl) plainT plainT_ok (by kernel_rfl) ?_
  refine flow_move_out plainT_ok rfl rfl rfl ?_
  refine flow1 (r := .pointer (some ⟨p, 0, none⟩)) plainT_ok rfl (.inn rfl) rfl (fun ev W he e1 => by go_simp) ?_
  refine flow1 (r := .pointer (some ⟨p, 0, none⟩)) plainT_ok rfl (.inn rfl) rfl (fun ev W he e1 => by go_simp) ?_
  refine flow1h (r := .slice (some ⟨gC, 0, none⟩) L.length (L.length + X.length)) plainT_ok rfl (.inn rfl) rfl (fun ev W he hW e1 => by have c0 := (hd.keep hW).rec_.cell 0; go_simp) ?_
  refine flow_move_out plainT_ok rfl rfl rfl ?_
  refine flow1 (r := .pointer (some ⟨p, 0, none⟩)) plainT_ok rfl (.inn rfl) rfl (fun ev W he e1 => by go_simp) ?_
  refine flow1 (r := .pointer (some ⟨p, 1, none⟩)) plainT_ok rfl (.inn rfl) rfl (fun ev W he e1 => by go_simp) ?_
  refine flow1h (r := .int .i64 (most : Int)) plainT_ok rfl (.inn rfl) rfl (fun ev W he hW e1 => by have c1 := (hd.keep hW).rec_.cell 1; go_simp) ?_
  refine flow_calld (newF w.heap.size L V.length most) (keeps_newF _ _ _ _) (.inr (keeps_newF _ _ _ _)) (by kernel_rfl) rfl (.cons (.inn rfl) (.cons (.inn rfl) .nil)) (fun W hW => (cof_yes (l := L) rfl (hd.keep hW).src most H1.out H3.out htop).mono ?_) ?_
  · rintro e w' hp
    rw [H2.out] at hp
    obtain ⟨p', gC', gD', rfl, hM, h1, h2, h3, hc⟩ := hp
    have hz : w.heap.size ≤ W.heap.size := hW.size
    exact ⟨_, rfl, hc, p', gC', gD', rfl, hM, by omega, by omega, by omega⟩
  refine flow_assign plainT_ok rfl (keeps_newF _ _ _ _) (.inr (keeps_newF _ _ _ _)) rfl ?_
  intro vs W hW hF
  obtain ⟨p', gC', gD', e2, hM, h1, h2, h3⟩ := hF 2 _ rfl rfl
  simp only [putAll, Act.put, List.setIfInBounds_toArray, List.set_cons_zero, List.set_cons_succ, e2]
  go_wp2_with fail
  go_ret
  have hz : w.heap.size = w.drew.heap.size := rfl
  exact ⟨p', gC', gD', rfl, hM, h1, h2, h3, (Chg.refl [] w).drew.new hW⟩

end
end Go.Proofs.Ytlhkmbcjgdjegaa
