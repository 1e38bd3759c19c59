/-
  The law's 'alike': true where the disk and the reference hold the same.
-/
import Derived.Test.YtlhkmbcjgdjegaaSame
import Derived.Test.YtlhkmbcjgdjegaaRefFlush
import Derived.Test.YtlhkmbcjgdjegaaSect
import Derived.Test.YtlhkmbcjgdjegaaSrcF
namespace Go.Proofs.Ytlhkmbcjgdjegaa
open Go.RowKit
section
variable {w : World} {p bL bS bW q gL gN gW : Nat} {rL rN : List Value} {m : Int} {s : St}
set_option maxHeartbeats 2000000 in
set_option maxRecDepth 100000 in
theorem alikeH_yes (h : DskS w p bL bS bW s) (r : Rfd w q gL gN gW rL rN m s) :
    Calls Try.prog 54 #[.pointer (some ⟨p, 0, none⟩), .pointer (some ⟨q, 0, none⟩)] w (LawPost w) := by
  have hwl : (wl s.V s.V.length).length ≤ 1000000 := by have := wl_le s.V s.V.length; have := r.le; omega
  have kd : ∀ W, Chg [] w.drew W → DskS W p bL bS bW s := fun W hW => Dsk.keep h ((Chg.refl [] w).drew.new hW)
  have kr : ∀ W, Chg [] w.drew W → Rfd W q gL gN gW rL rN m s := fun W hW => r.keep ((Chg.refl [] w).drew.new hW)
  have uq : Try.prog.underlying 22 = some (.slice 5) := Try.underlying22
  go_enter Try.func54, Try.ntmps54
  go_wp2_with fail
  refine wp_flow (by kernel_rfl) plainT plainT_ok (by kernel_rfl) ?_
  -- Image
  refine flow_move_out plainT_ok rfl rfl rfl ?_
  refine flow_calld (ownF w.drew.heap.size 5 (bts s.L)) (keeps_own _ _ _) (.inr (keeps_own _ _ _)) (by kernel_rfl) rfl (.cons (.inn rfl) .nil) (fun W hW => (image_any (kd W hW)).mono ?_) ?_
  · rintro e w' ⟨rfl, hI, hc⟩
    have hl : s.L.length ≤ maxLen := by have := h.lenL; have := h.le; unfold maxLen; omega
    have := own_of_whole (B := w.drew.heap.size) (n := s.L.length) (c := s.L.length) hI (Chg.size hW) (bts_len _) (Nat.le_refl _) hl
    rw [List.take_of_length_le (by rw [bts_len]; exact Nat.le_refl _)] at this
    exact ⟨_, rfl, hc, by rw [ownF, bts_len]; exact this⟩
  refine flow_str plainT_ok rfl uq Try.underlying5 Try.underlying9 rfl ?_
  refine flow_move_out plainT_ok rfl rfl rfl ?_
  refine flow1 (r := .pointer (some ⟨q, 0, none⟩)) plainT_ok rfl (.inn rfl) rfl (fun ev W he e1 => by go_simp) ?_
  refine flow1 (r := .pointer (some ⟨q, 0, none⟩)) plainT_ok rfl (.inn rfl) rfl (fun ev W he e1 => by go_simp) ?_
  refine flow1h (r := .slice (some ⟨gL, 0, none⟩) s.L.length (s.L.length + rL.length)) plainT_ok rfl (.inn rfl) rfl (fun ev W he hW e1 => by have c0 := (kr W hW).rec_.cell 0; go_simp) ?_
  refine flow1h (r := .string (strOf s.L)) plainT_ok rfl (.inn rfl) rfl (fun ev W he hW e1 => by have v0 := str_front (kr W hW).last s.L.length rfl (s.L.length + rL.length); go_simp) ?_
  refine flow_eql plainT_ok (.inn rfl) (.inn rfl) (fun ev W he e1 e2 => by go_simp) rfl ?_
  refine flow_move plainT_ok rfl (keeps_isV _) (.inr (keeps_isV _)) rfl ?_
  -- Seen
  refine flow_move_out plainT_ok rfl rfl rfl ?_
  refine flow_calld (ownF w.drew.heap.size 5 (bts s.S)) (keeps_own _ _ _) (.inr (keeps_own _ _ _)) (by kernel_rfl) rfl (.cons (.inn rfl) .nil) (fun W hW => (seen_any (kd W hW)).mono ?_) ?_
  · rintro e w' ⟨rfl, hI, hc⟩
    have hl : s.S.length ≤ maxLen := by have := h.lenS; have := h.le; unfold maxLen; omega
    have := own_of_whole (B := w.drew.heap.size) (n := s.S.length) (c := s.S.length) hI (Chg.size hW) (bts_len _) (Nat.le_refl _) hl
    rw [List.take_of_length_le (by rw [bts_len]; exact Nat.le_refl _)] at this
    exact ⟨_, rfl, hc, by rw [ownF, bts_len]; exact this⟩
  refine flow_str plainT_ok rfl uq Try.underlying5 Try.underlying9 rfl ?_
  refine flow_move_out plainT_ok rfl rfl rfl ?_
  refine flow1 (r := .pointer (some ⟨q, 0, none⟩)) plainT_ok rfl (.inn rfl) rfl (fun ev W he e1 => by go_simp) ?_
  refine flow1 (r := .pointer (some ⟨q, 1, none⟩)) plainT_ok rfl (.inn rfl) rfl (fun ev W he e1 => by go_simp) ?_
  refine flow1h (r := .slice (some ⟨gN, 0, none⟩) s.S.length (s.S.length + rN.length)) plainT_ok rfl (.inn rfl) rfl (fun ev W he hW e1 => by have c0 := (kr W hW).rec_.cell 1; go_simp) ?_
  refine flow1h (r := .string (strOf s.S)) plainT_ok rfl (.inn rfl) rfl (fun ev W he hW e1 => by have v0 := str_front (kr W hW).now s.S.length rfl (s.S.length + rN.length); go_simp) ?_
  refine flow_eql plainT_ok (.inn rfl) (.inn rfl) (fun ev W he e1 e2 => by go_simp) rfl ?_
  refine flow_and plainT_ok rfl rfl rfl ?_
  refine flow_move plainT_ok rfl (keeps_isV _) (.inr (keeps_isV _)) rfl ?_
  -- Waits
  refine flow_move_out plainT_ok rfl rfl rfl ?_
  refine flow_calld (srcF (wl s.V s.V.length).length (nmsN (wl s.V s.V.length))) (keeps_src _ _) (.inr (keeps_src _ _)) (by kernel_rfl) rfl (.cons (.inn rfl) .nil) (fun W hW => (waits_any (kd W hW)).mono ?_) ?_
  · rintro e w' ⟨v, rfl, hown, hc⟩
    obtain ⟨A4, c4, rfl, hs4, _, hA4⟩ := own_form hown
    exact ⟨_, rfl, hc, A4, c4, rfl, hs4, fun ad e => (hA4 ad e).1⟩
  refine flow_move_out plainT_ok rfl rfl rfl ?_
  refine flow_calld (srcF (wl s.V s.V.length).length (nmsN (wl s.V s.V.length))) (keeps_src _ _) (.inr (keeps_src _ _)) (by kernel_rfl) rfl (.cons (.inn rfl) .nil) (fun W hW => (rwaits_any (kr W hW)).mono ?_) ?_
  · rintro e w' ⟨A5, c5, rfl, hs5, hA5, hc⟩
    exact ⟨_, rfl, hc, A5, c5, rfl, hs5, fun ad e => (hA5 ad e).1⟩
  refine flow_call (isV (.bool true)) (keeps_isV _) (.inr (keeps_isV _)) (by kernel_rfl) rfl (fun ev W he hW hf => ?_) ?_
  · have f1 : srcF (wl s.V s.V.length).length (nmsN (wl s.V s.V.length)) (ev (.tmp 27)) W := hf.1
    have f2 : srcF (wl s.V s.V.length).length (nmsN (wl s.V s.V.length)) (ev (.tmp 29)) W := hf.2.1
    obtain ⟨A1, c1, e1, s1, p1⟩ := f1
    obtain ⟨A2, c2, e2, s2, p2⟩ := f2
    refine (?_ : Calls _ _ #[ev (.tmp 27), ev (.tmp 29)] _ _)
    rw [e1, e2]
    refine (same_yes rfl hwl s1 s2 p1 p2).mono ?_
    rintro e w' ⟨rfl, hc⟩
    exact ⟨_, rfl, hc, rfl⟩
  refine flow_and plainT_ok rfl rfl rfl ?_
  refine flow_assign plainT_ok rfl (keeps_isV _) (.inr (keeps_isV _)) rfl ?_
  intro vs W hW hF
  have e4 : vs 4 = .bool true := hF 4 _ rfl rfl
  simp only [putAll, Act.put, List.setIfInBounds_toArray, List.set_cons_zero, List.set_cons_succ, e4]
  go_wp2_with fail
  go_ret
  exact ⟨rfl, (Chg.refl [] w).drew.new hW⟩
end
end Go.Proofs.Ytlhkmbcjgdjegaa
