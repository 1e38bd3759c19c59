/-
  The law's same of layer 3.
-/
import Derived.Test.YtigbnmckdjlihabFrmRefScan
import Derived.Test.YtigbnmckdjlihabLaw
namespace Go.Proofs.Ytigbnmckdjlihab
open Go.RowKit
/-- What Read answers, as one. -/
noncomputable def readV (l : List UInt8) (ep sq : Nat) : List UInt8 × Nat × Bool :=
  open Classical in if readOk l ep sq then (recL l, 16 + getI l 8, true) else ([], 0, false)
def ReadVPost (w : World) (l : List UInt8) (ep sq : Nat) (e : Ending) (w' : World) : Prop :=
  ∃ A1 c1, e = .returned (.tuple #[.slice A1 (readV l ep sq).1.length c1, .int .i64 ((readV l ep sq).2.1 : Nat), .bool (readV l ep sq).2.2]) ∧ Bs w' A1 (readV l ep sq).1.length c1 (readV l ep sq).1 ∧ Chg [] w w'
theorem readV_of {w w' : World} {l : List UInt8} {ep sq : Nat} {e : Ending} (h : ReadPost w l ep sq e w') : ReadVPost w l ep sq e w' := by
  unfold ReadVPost readV
  rcases h with ⟨hok, v, rfl, ho, hc⟩ | ⟨hno, rfl, hc⟩
  · rw [if_pos hok]
    obtain ⟨A1, c1, rfl, hB, _⟩ := Bs.of_own ho
    exact ⟨A1, c1, rfl, hB, hc⟩
  · rw [if_neg hno]
    exact ⟨none, 0, rfl, Bs.nil w', hc⟩
theorem cell_keep {w w' : World} {p : Addr} {v : Value} (h : w.cell? p = some v) (hc : Chg [] w w') : w'.cell? p = some v := by
  have hs : Src w (some p) [v] := fun _ => ⟨p, rfl, by
    rcases Nat.lt_or_ge p.block w.heap.size with hlt | hge
    · exact hlt
    · simp [World.cell?, Array.getElem?_eq_none hge] at h, fun j u hj => by
    cases j with
    | zero =>
      simp at hj
      subst hj
      have e : p.add 0 = p := by simp [Addr.add]
      rw [e]; exact h
    | succ j => simp at hj⟩
  obtain ⟨ad, e, _, hx⟩ := hs.keep hc (by simp)
  injection e with e
  subst e
  have := hx 0 v rfl
  have e : p.add 0 = p := by simp [Addr.add]
  rwa [e] at this
section
variable {w : World} {A : Option Addr} {n c : Nat} {l : List UInt8}
set_option maxHeartbeats 2000000 in
set_option maxRecDepth 100000 in
theorem fsame_any (h : Bs w A n c l) (ep sq : Nat) (he : ep < 4294967296) (hs : sq < 4294967296) (hn : n ≤ 1000000) :
    Calls Try.prog 13 #[.slice A n c, .int .u32 (ep : Int), .int .u32 (sq : Int)] w (LawPost w) := by
  go_enter Try.func13, Try.ntmps13
  go_wp2_with fail
  refine ((read_any' h ep sq (by omega)).mono fun _ _ => readV_of).mono ?_
  rintro e w1 ⟨A1, c1, rfl, hB1, hc1⟩
  go_wp2_with fail
  refine ((rread_any' (h.keep hc1) ep sq (by omega)).mono fun _ _ => readV_of).mono ?_
  rintro e w2 ⟨A2, c2, rfl, hB2, hc2⟩
  generalize readV l ep sq = RV at hB1 hB2 ⊢
  obtain ⟨X, N, b⟩ := RV
  simp only at hB1 hB2 ⊢
  have hc02 := hc1.new hc2
  go_wp2_with fail
  refine (scan_any (h.keep hc02) ep (by omega)).mono ?_
  rintro e w3 ⟨v3, vs, rfl, ho3, hr3, hc3⟩
  go_wp2_with fail
  refine (rscan_any ((h.keep hc02).keep hc3) ep (by omega)).mono ?_
  rintro e w4 ⟨v4, us, rfl, ho4, hr4, hc4⟩
  generalize scanS l ep = SV at ho3 hr3 ho4 hr4 ⊢
  obtain ⟨rs, at_⟩ := SV
  simp only at ho3 hr3 ho4 hr4 ⊢
  have hmx := own_le ho3
  obtain ⟨A3, c3, rfl, hl3, _, hs3, hA3⟩ := own_slice ho3
  obtain ⟨A4, c4, rfl, hl4, _, hs4, hA4⟩ := own_slice ho4
  have hc04 := (hc02.new hc3).new hc4
  have hs34 := hs3.keep hc4
  have hr34 := hr3.keep hc4
  have hX1 := (((hB1.keep hc2).keep hc3).keep hc4).str (P := Try.prog) 23 5 9 Try.underlying23 Try.underlying5 Try.underlying9
  have hX2 := ((hB2.keep hc3).keep hc4).str (P := Try.prog) 23 5 9 Try.underlying23 Try.underlying5 Try.underlying9
  have HL3 := Lib.hid hl3
  have HL4 := Lib.hid hl4
  clear hl3 hl4
  obtain ⟨t, ht⟩ : ∃ t, t = rs.length := ⟨_, rfl⟩
  rw [← ht] at hmx ⊢
  unfold maxLen at hmx
  have HT := Lib.hid ht
  clear ht
  go_wp2_with fail
  go_loopw [75] (fun i wr => (∃ j : Nat, j ≤ t ∧ i = .int .i64 (j : Int)) ∧ Chg [] w4 wr) (fun i _ => t - (intOf i).toNat)
  case atStart => exact ⟨⟨0, Nat.zero_le _, rfl⟩, Chg.refl _ _⟩
  case round =>
    obtain ⟨⟨j, hj, rfl⟩, hcr⟩ := hrel
    by_cases hl2 : j < t
    · obtain ⟨⟨b3, o3, s3⟩, rfl, _, hx3⟩ := (hs34.keep hcr) (by have := HL3.out; have := HT.out; omega)
      obtain rfl : s3 = none := (hA3 _ rfl).1
      obtain ⟨⟨b4, o4, s4⟩, rfl, _, hx4⟩ := (hs4.keep hcr) (by have := HL4.out; have := HT.out; omega)
      obtain rfl : s4 = none := (hA4 _ rfl).1
      obtain ⟨x3, hv3⟩ : ∃ x, vs[j]? = some x := ⟨_, List.getElem?_eq_getElem (by have := HL3.out; have := HT.out; omega)⟩
      obtain ⟨x4, hv4⟩ : ∃ x, us[j]? = some x := ⟨_, List.getElem?_eq_getElem (by have := HL4.out; have := HT.out; omega)⟩
      obtain ⟨r, hr⟩ : ∃ r, rs[j]? = some r := ⟨_, List.getElem?_eq_getElem (by have := HT.out; omega)⟩
      obtain ⟨A5, c5, rfl, hB5, _⟩ := Bs.of_own (hr34.2 j x3 r hv3 hr)
      obtain ⟨A6, c6, rfl, hB6, _⟩ := Bs.of_own (hr4.2 j x4 r hv4 hr)
      have c3j := hx3 j _ hv3
      have c4j := hx4 j _ hv4
      rw [add_plain] at c3j c4j
      clear hx3 hx4 hv3 hv4 hr
      have hjt : (j : Int) < (t : Int) := by omega
      have hj0 : (0 : Int) ≤ (j : Int) := by omega
      have kp : ∀ W, Chg [] wr.drew W → Chg [] wr W := fun W hW => (Chg.refl [] wr).drew.new hW
      go_wp2_with fail
      refine wp_flow (by kernel_rfl) plainT plainT_ok (by kernel_rfl) ?_
      refine flow_move_out plainT_ok rfl rfl rfl ?_
      refine flow_move_out plainT_ok rfl rfl rfl ?_
      refine flow2 (r := .pointer (some ⟨b3, o3 + j, none⟩)) plainT_ok rfl (.inn rfl) (.inn rfl) rfl (fun ev W he e1 e2 => by go_simp) ?_
      refine flow1h (r := .slice A5 r.length c5) plainT_ok rfl (.inn rfl) rfl (fun ev W he hW e1 => by have c0 := cell_keep c3j (kp W hW); go_simp) ?_
      refine flow_strd plainT_ok (.inn rfl) (fun W hW => (hB5.keep hcr).keep (kp W hW)) Try.underlying23 Try.underlying5 Try.underlying9 rfl ?_
      refine flow_move_out plainT_ok rfl rfl rfl ?_
      refine flow_move_out plainT_ok rfl rfl rfl ?_
      refine flow2 (r := .pointer (some ⟨b4, o4 + j, none⟩)) plainT_ok rfl (.inn rfl) (.inn rfl) rfl (fun ev W he e1 e2 => by go_simp) ?_
      refine flow1h (r := .slice A6 r.length c6) plainT_ok rfl (.inn rfl) rfl (fun ev W he hW e1 => by have c0 := cell_keep c4j (kp W hW); go_simp) ?_
      refine flow_strd plainT_ok (.inn rfl) (fun W hW => (hB6.keep hcr).keep (kp W hW)) Try.underlying23 Try.underlying5 Try.underlying9 rfl ?_
      refine flow2 (r := .bool false) plainT_ok rfl (.inn rfl) (.inn rfl) rfl (fun ev W he e1 e2 => by go_simp) ?_
      intro vs W hW hF
      have e88 : vs 88 = .bool false := hF 88 _ rfl rfl
      have hcW := kp W hW
      simp only [putAll, Act.put, List.setIfInBounds_toArray, List.set_cons_zero, List.set_cons_succ, e88]
      go_wp2_with fail
      go_roundw
      case rel => exact ⟨⟨j + 1, by omega, by go_num⟩, hcr.new hcW⟩
      case measure => simp [intOf]; omega
    · obtain rfl : j = t := by omega
      go_wp2_with fail
      have kp : ∀ W, Chg [] wr.drew W → Chg [] w W := fun W hW => (hc04.new hcr).new ((Chg.refl [] wr).drew.new hW)
      refine wp_flow (by kernel_rfl) plainT plainT_ok (by kernel_rfl) ?_
      refine flow_move_out plainT_ok rfl rfl rfl ?_
      refine flow_move_out plainT_ok rfl rfl rfl ?_
      refine flow_move_out plainT_ok rfl rfl rfl ?_
      refine flow_calld (ownF wr.drew.heap.size 5 (bts (frameL ep sq l))) (keeps_own _ _ _) (.inr (keeps_own _ _ _)) (by kernel_rfl) rfl (.cons (.inn rfl) (.cons (.inn rfl) (.cons (.inn rfl) .nil))) (fun W hW => (frame_any (h.keep (kp W hW)) ep sq he hs (by omega)).mono ?_) ?_
      · rintro e w' ⟨v, rfl, ho, hc⟩
        exact ⟨v, rfl, hc, by rw [ownF, bts_len]; exact own_more ho hW.size⟩
      refine flow_str plainT_ok rfl Try.underlying23 Try.underlying5 Try.underlying9 rfl ?_
      refine flow_move_out plainT_ok rfl rfl rfl ?_
      refine flow_move_out plainT_ok rfl rfl rfl ?_
      refine flow_move_out plainT_ok rfl rfl rfl ?_
      refine flow_calld (ownF wr.drew.heap.size 5 (bts (frameL ep sq l))) (keeps_own _ _ _) (.inr (keeps_own _ _ _)) (by kernel_rfl) rfl (.cons (.inn rfl) (.cons (.inn rfl) (.cons (.inn rfl) .nil))) (fun W hW => (rframe_any (h.keep (kp W hW)) ep sq he hs (by omega)).mono ?_) ?_
      · rintro e w' ⟨v, rfl, ho, hc⟩
        exact ⟨v, rfl, hc, by rw [ownF, bts_len]; exact own_more ho hW.size⟩
      refine flow_str plainT_ok rfl Try.underlying23 Try.underlying5 Try.underlying9 rfl ?_
      refine flow_eql plainT_ok (.inn rfl) (.inn rfl) (fun ev W he e1 e2 => by simp [execOp, e1, e2, go_sem]) rfl ?_
      refine flow_assign plainT_ok rfl (keeps_isV _) (.inr (keeps_isV _)) rfl ?_
      intro vs W hW hF
      have e6 : vs 6 = .bool true := hF 6 _ rfl rfl
      simp only [putAll, Act.put, List.setIfInBounds_toArray, List.set_cons_zero, List.set_cons_succ, e6]
      go_wp2_with fail
      go_ret
      exact ⟨rfl, kp W hW⟩
end
end Go.Proofs.Ytigbnmckdjlihab
