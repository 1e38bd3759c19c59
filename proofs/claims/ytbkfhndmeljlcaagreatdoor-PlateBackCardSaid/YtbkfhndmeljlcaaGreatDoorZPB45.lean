/-
  PB: PlRead.
-/
import Derived.Test.YtbkfhndmeljlcaaGreatDoorZPB44
namespace Go.Proofs.YtbkfhndmeljlcaaGreatDoor
open Go.RowKit
/-- The text that stands in pages, and how many pages the memory has. -/
def RdYes (zs : List (List UInt8)) (T : List UInt8) (p : Nat) : Prop :=
  (∀ z ∈ zs, z.length = 64) ∧ ∃ z r, zs = z :: r ∧ isMeta z ∧ getI z 8 = p ∧ 1 + holdN (getI z 4) ≤ zs.length ∧ T = ((r.take (holdN (getI z 4))).flatten).take (getI z 4) ∧ (∀ b ∈ ((r.take (holdN (getI z 4))).flatten).drop (getI z 4), b = 0)
def RpPost (zs : List (List UInt8)) (w : World) (e : Ending) (w' : World) : Prop :=
  (∃ T p, RdYes zs T p ∧ e = .returned (.tuple #[.string (strOf T), .int .i64 ((p : Nat) : Int), .bool true]) ∧ Chg [] w w') ∨
  ((¬ ∃ T p, RdYes zs T p) ∧ e = .returned (.tuple #[.string ⟨#[]⟩, .int .i64 0, .bool false]) ∧ Chg [] w w')
theorem byte_zero {x : UInt8} : ((x.toNat : Int) = 0) ↔ x = 0 := by
  constructor
  · intro h
    apply UInt8.toNat_inj.1
    have : x.toNat = 0 := by omega
    rw [this]; rfl
  · intro h; subst h; rfl
section
variable {w : World} {A : Option Addr} {n c : Nat} {ys : List Value} {zs : List (List UInt8)}
set_option maxHeartbeats 8000000 in
set_option maxRecDepth 100000 in
theorem plread_any (h : Pgs w A n c ys zs) (hn : n ≤ 100000) : Calls Tryz.prog 47 #[.slice A n c] w (RpPost zs w) := by
  have HPG := Lib.hid h
  have HZL := Lib.hid h.zlen
  have hcap := h.cap
  have HNO := Lib.hid (show ∀ w', (¬ ∃ T p, RdYes zs T p) → Chg [] w w' → RpPost zs w (.returned (.tuple #[.string ⟨#[]⟩, .int .i64 0, .bool false])) w' from fun w' h1 hc => .inr ⟨h1, rfl, hc⟩)
  have HYES := Lib.hid (show ∀ w' (T : List UInt8) (p : Nat), RdYes zs T p → Chg [] w w' → RpPost zs w (.returned (.tuple #[.string (strOf T), .int .i64 ((p : Nat) : Int), .bool true])) w' from fun w' T p h1 hc => .inl ⟨T, p, h1, rfl, hc⟩)
  generalize RpPost zs w = PO at HNO HYES ⊢
  clear h
  go_enter Tryz.func47, Tryz.ntmps47
  go_wp2_with fail
  go_loopw [15] (fun i wr => ∃ k : Nat, i = .int .i64 (k : Int) ∧ k ≤ n ∧ Hid (∀ z ∈ zs.take k, z.length = 64) ∧ wr = w) (fun i _ => n - (intOf i).toNat)
  case atStart => exact ⟨0, rfl, by omega, Lib.hid (by simp), rfl⟩
  case round =>
    obtain ⟨k, rfl, hk, HZ, hwr⟩ := hrel
    subst hwr
    by_cases hkn : k < n
    · have hkI : (k : Int) < (n : Int) := by omega
      obtain ⟨z, hz⟩ : ∃ z, zs[k]? = some z := ⟨zs[k]'(by rw [HZL.out]; exact hkn), by simp⟩
      obtain ⟨y, B, m, d, hy, rfl, hB⟩ := HPG.out.at_ hz
      obtain ⟨b, o, rfl, _, hx⟩ := HPG.out.form (by omega)
      have y0 := hx k _ hy
      have HM := Lib.hid hB.len
      clear hx hy hB
      by_cases hm : m = 64
      · subst hm
        go_wp2_with fail
        go_roundw
        case rel => exact ⟨k + 1, by go_num, by omega, Lib.hid (fun x hx => by
          rw [List.take_add_one, hz] at hx
          rcases List.mem_append.1 hx with hx | hx
          · exact HZ.out x hx
          · simp at hx; subst hx; exact HM.out), by first | rfl | trivial⟩
        case measure => simp [intOf]; omega
      · have hmI : ¬ (m : Int) = 64 := by omega
        have hmd : ((m : Int) == 64) = false := by simpa using hmI
        have HN := Lib.hid (show ¬ ∃ T p, RdYes zs T p from fun ⟨T, p, h1, _⟩ => hm (by rw [← HM.out]; exact h1 z (List.mem_of_getElem? hz)))
        go_wp2_with fail
        go_ret3
        exact HNO.out _ HN.out (Chg.refl [] _)
    · have hkI : ¬ (k : Int) < (n : Int) := by omega
      obtain rfl : n = k := by omega
      have H64 := Lib.hid (show ∀ z ∈ zs, z.length = 64 from fun z hz => HZ.out z (by rw [List.take_of_length_le (by rw [HZL.out]; exact Nat.le_refl _)]; exact hz))
      clear HZ hkI hkn hk
      by_cases hn0 : n = 0
      · subst hn0
        have HN := Lib.hid (show ¬ ∃ T p, RdYes zs T p from fun ⟨T, p, _, z, r, hz, _⟩ => by have := HZL.out; rw [hz] at this; simp at this)
        go_wp2_with fail
        go_ret3
        exact HNO.out _ HN.out (Chg.refl [] _)
      · have hnI : ¬ (n : Int) = 0 := by omega
        have hnd : ((n : Int) == 0) = false := by simpa using hnI
        have hnp : (0 : Int) < (n : Int) := by omega
        obtain ⟨z, r, hzr⟩ : ∃ z r, zs = z :: r := by
          cases hc : zs with
          | nil => have := HZL.out; rw [hc] at this; simp at this; omega
          | cons z r => exact ⟨z, r, rfl⟩
        obtain ⟨y, B, m, d, hy, rfl, hB⟩ := HPG.out.at_ (i := 0) (z := z) (by rw [hzr]; rfl)
        obtain ⟨b, o, rfl, _, hx⟩ := HPG.out.form (by omega)
        have y0 := hx 0 _ hy
        rw [Nat.add_zero] at y0
        have HSR := Lib.hid (shread_any hB)
        have HZR := Lib.hid hzr
        clear hx hy hB hzr
        go_upto_region 10 with (go_at_call 73
                                refine HSR.out.mono ?_
                                intro e w2 hq
                                have HQ := Lib.hid hq
                                rcases hq with ⟨hm, rfl, hc2⟩ | ⟨hm, rfl, hc2⟩)
        · have HMT := Lib.hid hm
          have HC2 := Lib.hid hc2
          have hp64 := hm.2.1
          have ht := hm.1
          clear hm hc2 HQ HSR y0
          obtain ⟨t, htt⟩ : ∃ t, t = getI z 4 := ⟨_, rfl⟩
          obtain ⟨p, hpp⟩ : ∃ p, p = getI z 8 := ⟨_, rfl⟩
          rw [← htt] at ht ⊢
          rw [← hpp] at hp64 ⊢
          have HTT := Lib.hid htt
          have HPP := Lib.hid hpp
          clear htt hpp
          have HHD := Lib.hid (fun (W : World) => plhold_any t (by omega) W)
          obtain ⟨q, hq⟩ : ∃ q, q = holdN t := ⟨_, rfl⟩
          rw [← hq] at HHD
          have hq33 : q ≤ 32 := by rw [hq]; unfold holdN; omega
          have HTQ := Lib.hid (show t ≤ q * 64 ∧ (q = 0 → t = 0) from by rw [hq]; unfold holdN; omega)
          have HQQ := Lib.hid hq
          clear hq
          have HDEC := Lib.hid (show ∀ T p', RdYes zs T p' ↔ (p = p' ∧ 1 + q ≤ n ∧ T = ((r.take q).flatten).take t ∧ (∀ b ∈ ((r.take q).flatten).drop t, b = 0)) from fun T p' => by
            constructor
            · rintro ⟨_, z', r', e1, h2, h3, h4, h5, h6⟩
              rw [HZR.out] at e1
              injection e1 with e1 e2
              subst e1; subst e2
              rw [← HTT.out, ← HQQ.out] at h4 h5 h6
              exact ⟨by rw [HPP.out]; exact h3, by rw [← HZL.out]; exact h4, h5, h6⟩
            · rintro ⟨h3, h4, h5, h6⟩
              refine ⟨H64.out, z, r, HZR.out, HMT.out, by rw [← HPP.out]; exact h3, ?_, ?_, ?_⟩
              · rw [← HTT.out, ← HQQ.out, HZL.out]; exact h4
              · rw [← HTT.out, ← HQQ.out]; exact h5
              · rw [← HTT.out, ← HQQ.out]; exact h6)
          by_cases hqn : 1 + q ≤ n
          · have hqnI : ¬ (n : Int) < 1 + (q : Int) := by omega
            have hFL : ((r.take q).flatten).length = 64 * q := by
              have h1 := (lens_64 (r.take q) (fun x hx => H64.out x (by rw [HZR.out]; exact List.mem_cons_of_mem _ (List.mem_of_mem_take hx)))).2
              rw [h1, List.length_take]
              have h2 : zs.length = r.length + 1 := by rw [HZR.out]; rfl
              have := HZL.out
              omega
            have HPT := Lib.hid ((HPG.out.keep HC2.out).part (lo := 1) (k := q) (by omega) (by omega))
            have hJ := fun (W : World) (hc : Chg [] w2 W) => pljoin_any (HPT.out.keep hc) (fun x hx => H64.out x (by rw [HZR.out]; exact List.mem_cons_of_mem _ (List.mem_of_mem_take (List.mem_of_mem_drop (i := 0) (by simpa [HZR.out] using hx))))) (by omega)
            have HJ := Lib.hid hJ
            clear hJ
            rw [show (zs.drop 1).take q = r.take q from by rw [HZR.out]; rfl] at HJ
            unfold JnPost at HJ
            obtain ⟨FL, hFLe⟩ : ∃ FL, FL = (r.take q).flatten := ⟨_, rfl⟩
            rw [← hFLe] at HJ hFL
            have HFQ := Lib.hid (show (r.take q).flatten = FL from hFLe.symm)
            clear hFLe HPT
            rw [hFL] at HJ
            have hq0c : 1 + q ≤ c := by omega
            by_cases hq0 : q = 0
            · subst hq0
              obtain rfl : t = 0 := HTQ.out.2 rfl
              have HJ0 := Lib.hid (fun (W : World) (A : Option Addr) (c : Nat) => (Tryz.bytes_Join_none A c (.slice none 0 0) W).mono (R' := fun e w' => ∃ A' c', e = .returned (.slice A' 0 c') ∧ Chg [] W w') (by
                rintro e w' ⟨rfl, rfl⟩
                exact ⟨_, _, rfl, (Chg.refl [] W).alloc _⟩))
              obtain rfl : FL = [] := List.length_eq_zero_iff.1 hFL
              have HY := Lib.hid (show RdYes zs [] p from (HDEC.out _ _).2 ⟨rfl, hqn, by rw [HFQ.out]; rfl, fun x hx => by rw [HFQ.out] at hx; simp at hx⟩)
              clear HJ hFL hqnI
              have hst := fun (A : Option Addr) (c : Nat) (W : World) => run_str0 (P := Tryz.prog) 33 5 9 Tryz.underlying33 Tryz.underlying5 Tryz.underlying9 A c W
              by_cases hc1 : c = 1
              · subst hc1
                go_wp2_with (first
                  | (go_at_call 70
                     refine (HHD.out _).mono ?_
                     rintro e wh ⟨rfl, rfl⟩)
                  | (go_at_call 49
                     refine (HJ0.out _ _ _).mono ?_
                     rintro e w3 ⟨A3, c3, rfl, hc3⟩
                     have HCQ := Lib.hid (HC2.out.trans hc3)
                     clear hc3))
                all_goals
                  go_loopw [54] (fun i wr => i = .int .i64 0 ∧ wr = w3) (fun _ _ => 0)
                  case atStart => exact ⟨rfl, rfl⟩
                  case round =>
                    obtain ⟨rfl, rfl⟩ := hrel
                    go_wp2_with fail
                    go_ret3
                    exact HYES.out _ _ _ HY.out HCQ.out
              · have hc1I : ¬ (c : Int) = 1 := by omega
                go_wp2_with (first
                  | (go_at_call 70
                     refine (HHD.out _).mono ?_
                     rintro e wh ⟨rfl, rfl⟩)
                  | (go_at_call 49
                     refine (HJ0.out _ _ _).mono ?_
                     rintro e w3 ⟨A3, c3, rfl, hc3⟩
                     have HCQ := Lib.hid (HC2.out.trans hc3)
                     clear hc3))
                all_goals
                  go_loopw [54] (fun i wr => i = .int .i64 0 ∧ wr = w3) (fun _ _ => 0)
                  case atStart => exact ⟨rfl, rfl⟩
                  case round =>
                    obtain ⟨rfl, rfl⟩ := hrel
                    go_wp2_with fail
                    go_ret3
                    exact HYES.out _ _ _ HY.out HCQ.out
            · have hc1 : ¬ c = 1 := by omega
              have hqc : q ≤ c - 1 := by omega
              go_upto_region 13 with (first
                | (go_at_call 70
                   refine (HHD.out _).mono ?_
                   rintro e wh ⟨rfl, rfl⟩)
                | (go_at_call 49
                   refine (HJ.out _ (Chg.refl [] _)).mono ?_
                   rintro e w3 ⟨A3, c3, rfl, hB3, hc3, _⟩
                   have HB3 := Lib.hid hB3
                   have HCQ := Lib.hid (HC2.out.trans hc3)
                   clear hc3 hB3))
              obtain ⟨g3, o3, rfl⟩ : ∃ g o, A3 = some ⟨g, o, none⟩ := by
                obtain ⟨⟨g, o, s⟩, e, _, _⟩ := HB3.out.src (by rw [bts_len, hFL]; omega)
                obtain rfl : s = none := HB3.out.spot (by omega) _ e
                exact ⟨g, o, e⟩
              have hc3 := HB3.out.cap
              have htq := HTQ.out.1
              have hcut := HB3.out.cut (lo := t) (hi := 64 * q) (by omega) (Nat.le_refl _)
              have HBT := Lib.hid (HB3.out.take (m := t) (by omega))
              rw [List.take_of_length_le (by rw [List.length_drop, hFL]; exact Nat.le_refl _)] at hcut
              obtain ⟨m2, hm2⟩ : ∃ m2, m2 = 64 * q - t := ⟨_, rfl⟩
              rw [← hm2] at hcut
              have HM2 := Lib.hid hm2
              obtain ⟨q64, hq64⟩ : ∃ q64, q64 = 64 * q := ⟨_, rfl⟩
              have HQ64 := Lib.hid hq64
              rw [← hq64] at HB3 hc3 hm2 ⊢
              have htq2 : t ≤ q64 := by omega
              have hm2b : m2 ≤ 2048 := by omega
              have hmI : (q64 : Int) - (t : Int) = (m2 : Int) := by omega
              have htqI : (t : Int) ≤ (q64 : Int) := by omega
              have htcI : (t : Int) ≤ (c3 : Int) := by omega
              clear hq64
              by_cases hct : c3 = t
              · have hct' : t = c3 := hct.symm
                have hm0 : m2 = 0 := by omega
                have hqe : q64 = c3 := by omega
                clear hmI htqI htcI hm2 hct
                subst hct'
                subst hqe
                rw [if_pos rfl] at hcut
                have HBC := Lib.hid hcut
                clear hcut
                subst hm0
                have HY := Lib.hid (show RdYes zs (FL.take q64) p from (HDEC.out _ _).2 ⟨rfl, hqn, by rw [HFQ.out], fun x hx => by rw [HFQ.out, List.length_eq_zero_iff.1 HBC.out.len] at hx; simp at hx⟩)
                have hst := (HBT.out).str (P := Tryz.prog) 33 5 9 Tryz.underlying33 Tryz.underlying5 Tryz.underlying9
                go_wp2_with fail
                go_loopw [54] (fun i wr => i = .int .i64 0 ∧ wr = w3) (fun _ _ => 0)
                case atStart => exact ⟨rfl, rfl⟩
                case round =>
                  obtain ⟨rfl, rfl⟩ := hrel
                  go_wp2_with fail
                  go_ret3
                  exact HYES.out _ _ _ HY.out HCQ.out
              · rw [if_neg hct, Option.map_some, add_plain] at hcut
                have HBC := Lib.hid hcut
                have hctI : ¬ (c3 : Int) = (t : Int) := by omega
                clear hcut
                go_wp2_with fail
                go_loopw [54] (fun i wr => ∃ k : Nat, i = .int .i64 (k : Int) ∧ k ≤ m2 ∧ Hid (∀ x ∈ (FL.drop t).take k, x = 0) ∧ wr = w3) (fun i _ => m2 - (intOf i).toNat)
                case atStart => exact ⟨0, rfl, by omega, Lib.hid (by simp), rfl⟩
                case round =>
                  obtain ⟨k, rfl, hk, HZZ, hwr⟩ := hrel
                  subst hwr
                  by_cases hkm : k < m2
                  · have hkI : (k : Int) < (m2 : Int) := by omega
                    obtain ⟨x, hx⟩ : ∃ x, (FL.drop t)[k]? = some x := ⟨(FL.drop t)[k]'(by rw [HBC.out.len]; exact hkm), by simp⟩
                    have y1 := (show wr.cell? ⟨g3, o3 + t + k, none⟩ = some (.int .u8 (x.toNat : Int)) from by
                      obtain ⟨ad, e, _, hcc⟩ := HBC.out.src (by rw [bts_len, HBC.out.len]; omega)
                      injection e with e
                      subst e
                      have := hcc k (B8 x) (by unfold bts; rw [List.getElem?_map, hx]; rfl)
                      rwa [add_plain] at this)
                    by_cases hx0 : x = 0
                    · have hxI : (x.toNat : Int) = 0 := byte_zero.2 hx0
                      rw [hxI] at y1
                      have HX := Lib.hid hx
                      have HX0 := Lib.hid hx0
                      clear hxI hx hx0
                      go_wp2_with fail
                      go_roundw
                      case rel => exact ⟨k + 1, by go_num, by omega, Lib.hid (fun u hu => by
                        rw [List.take_add_one, HX.out] at hu
                        rcases List.mem_append.1 hu with hu | hu
                        · exact HZZ.out u hu
                        · simp at hu; rw [hu]; exact HX0.out), by first | rfl | trivial⟩
                      case measure => simp [intOf]; omega
                    · have hxI : ¬ (x.toNat : Int) = 0 := fun h => hx0 (byte_zero.1 h)
                      have hxd : ((x.toNat : Int) == 0) = false := by simpa using hxI
                      have HN := Lib.hid (show ¬ ∃ T p, RdYes zs T p from fun ⟨T, p', h⟩ => hx0 (((HDEC.out T p').1 h).2.2.2 x (List.mem_of_getElem? (by rw [HFQ.out]; exact hx))))
                      obtain ⟨xi, hxi⟩ : ∃ xi, xi = (x.toNat : Int) := ⟨_, rfl⟩
                      rw [← hxi] at y1 hxI hxd
                      clear hx hx0 hxi
                      go_wp2_with fail
                      go_ret3
                      exact HNO.out _ HN.out HCQ.out
                  · have hkI : ¬ (k : Int) < (m2 : Int) := by omega
                    have HY := Lib.hid (show RdYes zs (FL.take t) p from (HDEC.out _ _).2 ⟨rfl, hqn, by rw [HFQ.out], fun x hx => HZZ.out x (by rw [List.take_of_length_le (by rw [HBC.out.len]; omega)]; rw [HFQ.out] at hx; exact hx)⟩)
                    have hst := (HBT.out).str (P := Tryz.prog) 33 5 9 Tryz.underlying33 Tryz.underlying5 Tryz.underlying9
                    clear hkm hk
                    go_wp2_with fail
                    go_ret3
                    exact HYES.out _ _ _ HY.out HCQ.out
          · have hqnI : (n : Int) < 1 + (q : Int) := by omega
            have HN := Lib.hid (show ¬ ∃ T p, RdYes zs T p from fun ⟨T, p', h⟩ => hqn ((HDEC.out T p').1 h).2.1)
            go_wp2_with (go_at_call 70
                         refine (HHD.out _).mono ?_
                         rintro e w3 ⟨rfl, rfl⟩)
            go_ret3
            exact HNO.out _ HN.out HC2.out
        · have HN := Lib.hid (show ¬ ∃ T p, RdYes zs T p from fun ⟨T, p, _, z', r', hz, h1, _⟩ => by
            rw [HZR.out] at hz
            injection hz with e1 e2
            subst e1
            exact hm h1)
          have HC2 := Lib.hid hc2
          clear hm hc2 HQ HSR
          go_wp2_with fail
          go_ret3
          exact HNO.out _ HN.out HC2.out
end
end Go.Proofs.YtbkfhndmeljlcaaGreatDoor
