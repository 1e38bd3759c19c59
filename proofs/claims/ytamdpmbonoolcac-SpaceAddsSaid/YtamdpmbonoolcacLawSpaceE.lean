/-
  The walk of SpaceAdds.
-/
import Derived.Test.YtamdpmbonoolcacKnownSpace
import Derived.Test.YtamdpmbonoolcacInto
namespace Go.Proofs.Ytamdpmbonoolcac
open Go.RowKit
theorem adds_room (L u n : Int) (h0 : 0 ≤ u) (h : fitsB L u n = true) : u + needI n ≤ sizeI L := by
  unfold fitsB leftI at h
  simp only [Bool.and_eq_true, decide_eq_true_eq] at h
  have := sizeI_bd L
  omega
theorem left_room (L u : Int) (h0 : 0 ≤ u) (h1 : u ≤ sizeI L) : leftI L u = sizeI L - u := by unfold leftI; omega
section
variable {w : World}
set_option maxHeartbeats 2000000 in
set_option maxRecDepth 100000 in
theorem spaceAdds_any (a : Int) (ha0 : -9223372036854775808 ≤ a) (ha : a ≤ 9223372036854775807) {A : Option Addr} {m c : Nat} {l : List Int} (hl : l.length = m) (hs : Src w A (nms l)) (hwf : ∀ n ∈ l, -9223372036854775808 ≤ n ∧ n ≤ 9223372036854775807) (hm : m ≤ 9223372036854775807)
    (hsp : 0 < m → ∀ ad, A = some ad → ad.spot = none) : Calls Try.prog 3 #[.int .i64 a, .slice A m c] w (LawPost w) := by
  obtain ⟨L1, L2, _⟩ := into_within a 1 64 (by omega)
  have HLEN := Lib.hid hl
  have HWF := Lib.hid hwf
  have HSP := Lib.hid hsp
  clear hl hwf hsp
  go_enter Try.func3, Try.ntmps3
  go_wp2_with fail
  refine (within_is a 1 64 (by omega) (by omega) (by omega) ha0 ha).mono ?_
  rintro e w' ⟨rfl, rfl⟩
  generalize withinI a 1 64 = L at L1 L2 ⊢
  have HR := Whole.new w 26 [.int .i64 L, .int .i64 64, .int .u32 0]
  have hw1 : Chg [] w (w.alloc (.cells #[.int .i64 L, .int .i64 64, .int .u32 0] 26)) := (Chg.refl [] w).alloc _
  have hs1 := hs.keep hw1
  go_wp2_with fail
  generalize w.alloc (.cells #[.int .i64 L, .int .i64 64, .int .u32 0] 26) = w1 at HR hw1 hs1 ⊢
  have hsb := sizeI_bd L
  go_loopw [6, 7] (fun t i wr => ∃ (k : Nat) (u : Int), k ≤ 40 ∧ k ≤ m ∧ i = .int .i64 (k : Int) ∧ t = .int .i64 u ∧ 0 ≤ u ∧ u ≤ sizeI L ∧ Chg [] w1 wr) (fun _ i _ => 40 - (intOf i).toNat)
  case atStart => exact ⟨0, 0, by omega, by omega, rfl, rfl, by omega, by omega, Chg.refl _ _⟩
  case round =>
    obtain ⟨k, u, hk, hkm, rfl, rfl, hu0, hu1, hcr⟩ := hrel
    by_cases hlt : k < m
    · by_cases hl40 : k < 40
      · have h40 : (k : Int) < 40 := by omega
        have hltI : (k : Int) < (m : Int) := by omega
        have hdk : decide ((k : Int) < (m : Int)) = true := by simpa using hlt
        obtain ⟨⟨b, o, s⟩, rfl, _, hx⟩ := (hs1.keep hcr) (by rw [show (nms l).length = l.length by simp [nms], HLEN.out]; omega)
        obtain rfl : s = none := HSP.out (by omega) _ rfl
        obtain ⟨q, hq⟩ : ∃ q, l[k]? = some q := ⟨_, List.getElem?_eq_getElem (by rw [HLEN.out]; exact hlt)⟩
        have hq2 := HWF.out q (List.mem_of_getElem? hq)
        have cq := hx k (.int .i64 q) (by simp [nms, hq])
        rw [add_plain] at cq
        have HRr := HR.keep hcr
        obtain ⟨c0, c1, c2⟩ := root_load HRr
        obtain ⟨n1, n2, _⟩ := into_within q 0 9 (by omega)
        clear hx hq
        go_wp2_with fail
        refine (within_is q 0 9 (by omega) (by omega) (by omega) hq2.1 hq2.2).mono ?_
        rintro e w' ⟨rfl, rfl⟩
        generalize withinI q 0 9 = n at n1 n2 ⊢
        have hnb := needI_bd n
        go_wp2_with fail
        refine (fits_any L 64 0 u n (by omega) (by omega) (by omega)).mono ?_
        rintro e w2 ⟨rfl, hc2⟩
        have HR2 := HRr.keep hc2
        by_cases hf : fitsB L u n = true
        · have hr := adds_room L u n hu0 hf
          rw [hf]
          go_wp2_with fail
          refine (rneed_any n (by omega)).mono ?_
          rintro e w' ⟨rfl, rfl⟩
          obtain ⟨U, hU⟩ : ∃ U, U = u + needI n := ⟨_, rfl⟩
          have hU0 : 0 ≤ U := by omega
          have hU1 : U ≤ sizeI L := by omega
          have hlr := left_room L U hU0 hU1
          go_wp2_with fail
          rw [← hU]
          clear hU hr
          have hdg : decide (sizeI L < U) = false := by simp; omega
          have hsb2 := hsb
          obtain ⟨g0, g1⟩ := hsb2
          have mw : IntKind.i64.wrap (sizeI L - U) = sizeI L - U := IntWalk.i64_in _ (by omega)
          refine wp_flow (by kernel_rfl) plainT plainT_ok (by kernel_rfl) ?_
          refine flow_move_out plainT_ok rfl rfl rfl ?_
          refine flow1h (r := rootV L 64 0) plainT_ok rfl (.out rfl rfl) rfl (fun ev W he hW e1 => by obtain ⟨c0, c1, c2⟩ := root_load (HR2.drew.keep hW); go_simp; rfl) ?_
          refine flow_callv (.int .i64 (sizeI L)) (by kernel_rfl) rfl (.cons (.inn rfl) .nil) (fun W hW => (size_any L 64 0 (by omega)).mono ?_) ?_
          · rintro e w' ⟨rfl, hc⟩; exact ⟨rfl, hc⟩
          refine flow2 (r := .bool false) plainT_ok rfl (.inn rfl) (.inn rfl) rfl (fun ev W he e1 e2 => by go_simp) ?_
          refine flow_move plainT_ok rfl (keeps_isV _) (.inr (keeps_isV _)) rfl ?_
          refine flow1h (r := rootV L 64 0) plainT_ok rfl (.out rfl rfl) rfl (fun ev W he hW e1 => by obtain ⟨c0, c1, c2⟩ := root_load (HR2.drew.keep hW); go_simp; rfl) ?_
          refine flow_move_out plainT_ok rfl rfl rfl ?_
          refine flow_callv (.int .i64 (sizeI L - U)) (by kernel_rfl) rfl (.cons (.inn rfl) (.cons (.inn rfl) .nil)) (fun W hW => (left_any L 64 0 U (by omega) (by omega)).mono ?_) ?_
          · rintro e w' ⟨rfl, hc⟩; rw [hlr]; exact ⟨rfl, hc⟩
          refine flow1h (r := rootV L 64 0) plainT_ok rfl (.out rfl rfl) rfl (fun ev W he hW e1 => by obtain ⟨c0, c1, c2⟩ := root_load (HR2.drew.keep hW); go_simp; rfl) ?_
          refine flow_callv (.int .i64 (sizeI L)) (by kernel_rfl) rfl (.cons (.inn rfl) .nil) (fun W hW => (size_any L 64 0 (by omega)).mono ?_) ?_
          · rintro e w' ⟨rfl, hc⟩; exact ⟨rfl, hc⟩
          refine flow_move_out plainT_ok rfl rfl rfl ?_
          refine flow2 (r := .int .i64 (sizeI L - U)) plainT_ok rfl (.inn rfl) (.inn rfl) rfl (fun ev W he e1 e2 => by go_simp) ?_
          refine flow2 (r := .bool false) plainT_ok rfl (.inn rfl) (.inn rfl) rfl (fun ev W he e1 e2 => by go_simp) ?_
          refine flow_or_false plainT_ok rfl rfl rfl ?_
          intro vs W hW hF
          have e48 : vs 48 = .bool false := hF 48 _ rfl rfl
          simp only [putAll, Act.put, List.setIfInBounds_toArray, List.set_cons_zero, List.set_cons_succ, e48]
          go_wp2_with fail
          go_roundw
          case rel => exact ⟨k + 1, U, by omega, by omega, by go_num, rfl, hU0, hU1, (hcr.new hc2).drew.new hW⟩
          case measure => simp [intOf]; omega
        · have hf' : fitsB L u n = false := by simpa using hf
          rw [hf']
          obtain ⟨U, hU⟩ : ∃ U, U = u := ⟨_, rfl⟩
          have hU0 : 0 ≤ U := by omega
          have hU1 : U ≤ sizeI L := by omega
          have hlr := left_room L U hU0 hU1
          go_wp2_with fail
          subst hU
          have hdg : decide (sizeI L < U) = false := by simp; omega
          have hsb2 := hsb
          obtain ⟨g0, g1⟩ := hsb2
          have mw : IntKind.i64.wrap (sizeI L - U) = sizeI L - U := IntWalk.i64_in _ (by omega)
          refine wp_flow (by kernel_rfl) plainT plainT_ok (by kernel_rfl) ?_
          refine flow_move_out plainT_ok rfl rfl rfl ?_
          refine flow1h (r := rootV L 64 0) plainT_ok rfl (.out rfl rfl) rfl (fun ev W he hW e1 => by obtain ⟨c0, c1, c2⟩ := root_load (HR2.drew.keep hW); go_simp; rfl) ?_
          refine flow_callv (.int .i64 (sizeI L)) (by kernel_rfl) rfl (.cons (.inn rfl) .nil) (fun W hW => (size_any L 64 0 (by omega)).mono ?_) ?_
          · rintro e w' ⟨rfl, hc⟩; exact ⟨rfl, hc⟩
          refine flow2 (r := .bool false) plainT_ok rfl (.inn rfl) (.inn rfl) rfl (fun ev W he e1 e2 => by go_simp) ?_
          refine flow_move plainT_ok rfl (keeps_isV _) (.inr (keeps_isV _)) rfl ?_
          refine flow1h (r := rootV L 64 0) plainT_ok rfl (.out rfl rfl) rfl (fun ev W he hW e1 => by obtain ⟨c0, c1, c2⟩ := root_load (HR2.drew.keep hW); go_simp; rfl) ?_
          refine flow_move_out plainT_ok rfl rfl rfl ?_
          refine flow_callv (.int .i64 (sizeI L - U)) (by kernel_rfl) rfl (.cons (.inn rfl) (.cons (.inn rfl) .nil)) (fun W hW => (left_any L 64 0 U (by omega) (by omega)).mono ?_) ?_
          · rintro e w' ⟨rfl, hc⟩; rw [hlr]; exact ⟨rfl, hc⟩
          refine flow1h (r := rootV L 64 0) plainT_ok rfl (.out rfl rfl) rfl (fun ev W he hW e1 => by obtain ⟨c0, c1, c2⟩ := root_load (HR2.drew.keep hW); go_simp; rfl) ?_
          refine flow_callv (.int .i64 (sizeI L)) (by kernel_rfl) rfl (.cons (.inn rfl) .nil) (fun W hW => (size_any L 64 0 (by omega)).mono ?_) ?_
          · rintro e w' ⟨rfl, hc⟩; exact ⟨rfl, hc⟩
          refine flow_move_out plainT_ok rfl rfl rfl ?_
          refine flow2 (r := .int .i64 (sizeI L - U)) plainT_ok rfl (.inn rfl) (.inn rfl) rfl (fun ev W he e1 e2 => by go_simp) ?_
          refine flow2 (r := .bool false) plainT_ok rfl (.inn rfl) (.inn rfl) rfl (fun ev W he e1 e2 => by go_simp) ?_
          refine flow_or_false plainT_ok rfl rfl rfl ?_
          intro vs W hW hF
          have e48 : vs 48 = .bool false := hF 48 _ rfl rfl
          simp only [putAll, Act.put, List.setIfInBounds_toArray, List.set_cons_zero, List.set_cons_succ, e48]
          go_wp2_with fail
          go_roundw
          case rel => exact ⟨k + 1, U, by omega, by omega, by go_num, rfl, hU0, hU1, (hcr.new hc2).drew.new hW⟩
          case measure => simp [intOf]; omega
      · have h40 : ¬ (k : Int) < 40 := by omega
        have hdk : decide ((k : Int) < (m : Int)) = true := by simpa using hlt
        go_wp2_with fail
        refine spknown_any.mono ?_
        rintro e w5 ⟨rfl, hc5⟩
        go_wp2_with fail
        go_ret
        exact ⟨rfl, (hw1.new hcr).new hc5⟩
    · have hdk : decide ((k : Int) < (m : Int)) = false := by simp; omega
      go_wp2_with fail
      refine spknown_any.mono ?_
      rintro e w5 ⟨rfl, hc5⟩
      go_wp2_with fail
      go_ret
      exact ⟨rfl, (hw1.new hcr).new hc5⟩
end
end Go.Proofs.Ytamdpmbonoolcac
