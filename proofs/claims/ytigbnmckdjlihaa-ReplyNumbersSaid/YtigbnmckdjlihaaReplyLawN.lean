/-
  The walk of ReplyNumbers.
-/
import Derived.Test.YtigbnmckdjlihaaReplyLawR
namespace Go.Proofs.Ytigbnmckdjlihaa
open Go.RowKit
def txs : List ByteArray := [⟨#[]⟩, ⟨#[97]⟩, ⟨#[195, 169, 228, 184, 150]⟩, ⟨#[97, 255, 98]⟩, ⟨#[228, 184]⟩, ⟨#[240, 159, 152, 128]⟩]
def txC : List Value := txs.map Value.string
theorem txs_small : ∀ s ∈ txs, s.size ≤ 100 := by decide
theorem txC_get (k : Nat) (h : k < 6) : ∃ s, txC[k]? = some (.string s) ∧ s.size ≤ 100 := by
  have hk : k < txs.length := h
  exact ⟨txs[k], by simp [txC, hk], txs_small _ (List.getElem_mem hk)⟩
def nums4 : List Value := [.int .i64 0, .int .i64 (-1), .int .i64 9223372036854775807, .int .i64 (-9223372036854775808)]
theorem nums4_get (j : Nat) (h : j < 4) : nums4[j]? = some (.int .i64 0) ∨ nums4[j]? = some (.int .i64 (-1)) ∨ nums4[j]? = some (.int .i64 9223372036854775807) ∨ nums4[j]? = some (.int .i64 (-9223372036854775808)) := by
  match j, h with
  | 0, _ => exact .inl rfl
  | 1, _ => exact .inr (.inl rfl)
  | 2, _ => exact .inr (.inr (.inl rfl))
  | 3, _ => exact .inr (.inr (.inr rfl))
/-- One, two, three .. -/
def upI (k : Nat) : List Value := (List.range k).map fun (i : Nat) => Value.iface 3 (.int .i64 ((i : Int) + 1))
def upR (k : Nat) : List (Option Int) := (List.range k).map fun (i : Nat) => some ((i : Int) + 1)
theorem upI_next (k : Nat) : upI (k + 1) = upI k ++ [.iface 3 (.int .i64 ((k : Int) + 1))] := by simp [upI, List.range_succ]
theorem upI_len (k : Nat) : (upI k).length = k := by simp [upI]
theorem upR_len (k : Nat) : (upR k).length = k := by simp [upR]
theorem up_nums (k : Nat) (h : k ≤ 69) : Nums (upI k) (upR k) := by
  refine ⟨by simp [upI, upR], fun i v r hv hr => ?_⟩
  have hi : i < k := by have := (List.getElem?_eq_some_iff.1 hv).1; simpa [upI] using this
  simp [upI, hi] at hv
  simp [upR, hi] at hr
  subst hv; subst hr
  exact Num.int _ (by omega) (by omega)
theorem up_next (j : Nat) : nextR ((upR 69).take 64) j = some (if j < 64 then (j : Int) + 1 else 0) := by
  unfold nextR
  have hl : ((upR 69).take 64).length = 64 := by rw [List.length_take, upR_len]; rfl
  rw [hl]
  by_cases h : j < 64
  · rw [if_pos h, if_pos h]
    have h2 : j < 69 := by omega
    simp [upR, h]
  · rw [if_neg h, if_neg h]
section
variable {w : World}
set_option maxHeartbeats 8000000 in
set_option maxRecDepth 100000 in
theorem numbers12_any : Calls Try.prog 9 #[] w (LawPost w) := by
  obtain ⟨i0, hi, hz0, hz1, hz2⟩ := info_parts info_any
  go_enter Try.func9, Try.ntmps9
  go_wp2_with fail
  have hT := Whole.new w 9 txC
  obtain ⟨g, hg⟩ : ∃ g, g = w.heap.size := ⟨_, rfl⟩
  rw [← hg] at hT
  have hc0 : Chg [] w (w.alloc (.cells txC.toArray 9)) := (Chg.refl [] w).alloc _
  change Code.wp _ _ _ _ (w.alloc (.cells txC.toArray 9))
  rw [← hg]
  clear hg
  go_loopw [16] (fun i wr => ∃ k : Nat, k ≤ 6 ∧ i = .int .i64 (k : Int) ∧ Whole wr g 9 txC ∧ Chg [] w wr) (fun i _ => 6 - (intOf i).toNat)
  case atStart => exact ⟨0, by omega, rfl, hT, hc0⟩
  case round =>
    obtain ⟨k, hk, rfl, hTr, hcr⟩ := hrel
    clear hT hc0
    by_cases hlt : k < 6
    · obtain ⟨s, hs, hss⟩ := txC_get k hlt
      have ck := (hTr.cell k).trans hs
      have hkI : (k : Int) < 6 := by omega
      have HT := Lib.hid hTr
      have HC := Lib.hid hcr
      clear hTr hcr hs
      go_wp2_with fail
      have hN := Whole.new wr 2 nums4
      obtain ⟨g2, hg2⟩ : ∃ g2, g2 = wr.heap.size := ⟨_, rfl⟩
      rw [← hg2] at hN
      have hcn : Chg [] wr (wr.alloc (.cells nums4.toArray 2)) := (Chg.refl [] wr).alloc _
      change Code.wp _ _ _ _ (wr.alloc (.cells nums4.toArray 2))
      rw [← hg2]
      clear hg2 ck
      go_loopw [22] (fun i wx => ∃ j : Nat, j ≤ 4 ∧ i = .int .i64 (j : Int) ∧ Whole wx g2 2 nums4 ∧ Chg [] wr wx) (fun i _ => 4 - (intOf i).toNat)
      case atStart => exact ⟨0, by omega, rfl, hN, hcn⟩
      case round =>
        obtain ⟨j, hj, rfl, hNx, hcx⟩ := hrel
        clear hN hcn
        by_cases hltj : j < 4
        · have cj := hNx.cell j
          have hjI : (j : Int) < 4 := by omega
          have HN := Lib.hid hNx
          have HCX := Lib.hid hcx
          clear hNx hcx
          rcases nums4_get j hltj with hv | hv | hv | hv
          · rw [hv] at cj
            clear hv
            go_wp2_with fail
            with_reducible refine (all_false (0) (0) s (by omega) (by omega) (by omega) (by omega) (by omega) (by omega)).mono ?_
            rintro e wa ⟨rfl, hca⟩
            have hcb : Chg [] wa (wa.alloc (.cells #[.iface 3 (.int .i64 1), .iface 9 (.string ⟨#[97]⟩)] 20)) := (Chg.refl [] wa).alloc _
            go_wp2_with fail
            with_reducible refine (all_true (0) 120 s (by omega) (by omega) (by omega) (by omega) (by omega) (by omega)).mono ?_
            rintro e wb ⟨rfl, hcc⟩
            go_wp2_with fail
            go_roundw
            case rel => exact ⟨j + 1, by omega, by go_num, ((HN.out.keep hca).keep hcb).keep hcc, ((HCX.out.new hca).new hcb).new hcc⟩
            case measure => simp [intOf]; omega
          · rw [hv] at cj
            clear hv
            go_wp2_with fail
            with_reducible refine (all_false (-1) (-1) s (by omega) (by omega) (by omega) (by omega) (by omega) (by omega)).mono ?_
            rintro e wa ⟨rfl, hca⟩
            have hcb : Chg [] wa (wa.alloc (.cells #[.iface 3 (.int .i64 1), .iface 9 (.string ⟨#[97]⟩)] 20)) := (Chg.refl [] wa).alloc _
            go_wp2_with fail
            with_reducible refine (all_true (-1) 120 s (by omega) (by omega) (by omega) (by omega) (by omega) (by omega)).mono ?_
            rintro e wb ⟨rfl, hcc⟩
            go_wp2_with fail
            go_roundw
            case rel => exact ⟨j + 1, by omega, by go_num, ((HN.out.keep hca).keep hcb).keep hcc, ((HCX.out.new hca).new hcb).new hcc⟩
            case measure => simp [intOf]; omega
          · rw [hv] at cj
            clear hv
            have hw3 : IntKind.i32.wrap 9223372036854775807 = -1 := by decide
            go_wp2_with fail
            with_reducible refine (all_true (9223372036854775807) (-1) s (by omega) (by omega) (by omega) (by omega) (by omega) (by omega)).mono ?_
            rintro e wa ⟨rfl, hca⟩
            have hcb : Chg [] wa (wa.alloc (.cells #[.iface 3 (.int .i64 1), .iface 9 (.string ⟨#[97]⟩)] 20)) := (Chg.refl [] wa).alloc _
            go_wp2_with fail
            with_reducible refine (all_true (9223372036854775807) 120 s (by omega) (by omega) (by omega) (by omega) (by omega) (by omega)).mono ?_
            rintro e wb ⟨rfl, hcc⟩
            go_wp2_with fail
            go_roundw
            case rel => exact ⟨j + 1, by omega, by go_num, ((HN.out.keep hca).keep hcb).keep hcc, ((HCX.out.new hca).new hcb).new hcc⟩
            case measure => simp [intOf]; omega
          · rw [hv] at cj
            clear hv
            have hw3 : IntKind.i32.wrap (-9223372036854775808) = 0 := by decide
            go_wp2_with fail
            with_reducible refine (all_false (-9223372036854775808) (0) s (by omega) (by omega) (by omega) (by omega) (by omega) (by omega)).mono ?_
            rintro e wa ⟨rfl, hca⟩
            have hcb : Chg [] wa (wa.alloc (.cells #[.iface 3 (.int .i64 1), .iface 9 (.string ⟨#[97]⟩)] 20)) := (Chg.refl [] wa).alloc _
            go_wp2_with fail
            with_reducible refine (all_true (-9223372036854775808) 120 s (by omega) (by omega) (by omega) (by omega) (by omega) (by omega)).mono ?_
            rintro e wb ⟨rfl, hcc⟩
            go_wp2_with fail
            go_roundw
            case rel => exact ⟨j + 1, by omega, by go_num, ((HN.out.keep hca).keep hcb).keep hcc, ((HCX.out.new hca).new hcb).new hcc⟩
            case measure => simp [intOf]; omega
        · have hjI : (4 : Int) ≤ (j : Int) := by omega
          go_wp2_with fail
          go_roundw
          case rel => exact ⟨k + 1, by omega, by go_num, HT.out.keep hcx, HC.out.new hcx⟩
          case measure => simp [intOf]; omega
    · have hkI : (6 : Int) ≤ (k : Int) := by omega
      have HC := Lib.hid hcr
      clear hTr hcr
      go_wp2_with fail
      go_loopw [5, 6] (fun v i wx => ∃ j : Nat, j ≤ 69 ∧ i = .int .i64 (j : Int) ∧ wx.ownsRow w.heap.size 20 1 v j (upI j) ∧ Chg [] w wx) (fun _ i _ => 69 - (intOf i).toNat)
      case atStart => exact ⟨0, by omega, rfl, World.ownsRow_nil _ _ _ _, HC.out⟩
      case round =>
        obtain ⟨j, hj, rfl, hown, hcx⟩ := hrel
        have hwx := hcx.size
        by_cases hltj : j < 69
        · have hjI : (j : Int) < 69 := by omega
          obtain ⟨X, hX⟩ : ∃ X, X = upI j := ⟨_, rfl⟩
          rw [← hX] at hown
          have HX := Lib.hid hX
          clear hX
          go_wp2_with (first
            | (at_builtin
               refine wpList_append_own _ rfl (.tmp 49) (.tmp 53) _ rfl w.heap.size 20 i0 .nilIface 1 16 Try.underlying53 hi hz0 hz1 hz2 rfl (by decide) _ j X rfl (own_keep hown ((Chg.refl _ _).alloc _)) ⟨wr.heap.size, 0, none⟩ 1 1 [.iface 3 (.int .i64 ((j : Int) + 1))] rfl rfl ?c1 ?c2 ?c3 ?c4 ?c5 ?_
               case c1 => exact cell_one_new _ _ _
               case c2 => simp [Value.oneCell']
               case c3 => simp only [maxLen]; omega
               case c4 => omega
               case c5 => simp; omega
               intro v' w2 hown' hg' _))
          go_roundw
          case rel =>
            refine ⟨j + 1, by omega, by go_num, ?_, chg_grown (hcx.alloc _) hg' fun g hgg => (hown.lt g hgg).1⟩
            rw [upI_next, ← HX.out]
            exact hown'
          case measure => simp [intOf]; omega
        · have hj69 : j = 69 := by omega
          rw [hj69] at hown
          have hjI : (69 : Int) ≤ (j : Int) := by omega
          clear hj69
          obtain ⟨A1, c1, rfl, hvl, _, hsv, hA1⟩ := own_slice hown
          have HN := Lib.hid (up_nums 69 (by omega))
          have HA1 := Lib.hid hA1
          have HVL := Lib.hid hvl
          have HSV := Lib.hid hsv
          have HCX := Lib.hid hcx
          clear hown hvl hsv hA1 hcx HC
          go_wp2_with fail
          refine (rnew_any (n := 69) HN.out HSV.out (fun ad e => (HA1.out ad e).1) HVL.out (by omega) 64 (by decide)).mono ?_
          rintro e w5 ⟨p, a5, q5, rfl, hR5, hc5⟩
          have HUP := Lib.hid up_next
          obtain ⟨rs, hrs⟩ : ∃ rs, rs = (upR 69).take 64 := ⟨_, rfl⟩
          rw [← hrs] at hR5
          have HRS := Lib.hid hrs
          clear hrs
          obtain ⟨B, hB⟩ : ∃ B, B = wr.heap.size := ⟨_, rfl⟩
          rw [← hB] at hR5
          have b5 : B ≤ w5.heap.size := by rw [hB]; exact hc5.size
          have hBw : w.heap.size ≤ B := by omega
          have h5 := HCX.out.new hc5
          clear hc5 hB HVL HSV HA1 HN HCX hwx
          go_wp2_with fail
          go_loopw [8] (fun i wz => ∃ j : Nat, j ≤ 73 ∧ i = .int .i64 (j : Int) ∧ (∃ qs a q, qs.length = j ∧ Rw wz B p rs qs a q ∧ B ≤ wz.heap.size) ∧ Chg [] w wz) (fun i _ => 73 - (intOf i).toNat)
          case atStart => exact ⟨0, by omega, rfl, ⟨[], _, _, rfl, hR5, b5⟩, h5⟩
          case round =>
            obtain ⟨j, hj, rfl, ⟨qs, aa, qq, hql, hRx, hbx⟩, hcx⟩ := hrel
            clear hR5 h5 b5
            have HCX := Lib.hid hcx
            have HRX := Lib.hid hRx
            have HQL := Lib.hid hql
            clear hcx hRx hql
            by_cases hgo : j < 73
            · by_cases h64 : j < 64
              · have hjI : (j : Int) < 73 := by omega
                have h64I : (j : Int) < 64 := by omega
                have HX := Lib.hid (fun x => ask_is HRX.out hbx (by have := HQL.out; omega) x (j : Int) (some ((j : Int) + 1)) (by rw [HQL.out, HRS.out, HUP.out]; rw [if_pos h64]) (qs ++ [(x, (j : Int))]) rfl ((j : Int) + 1) true rfl rfl)
                go_wp2_with fail
                refine (HX.out _).mono ?_
                rintro e wa ⟨a6, q6, rfl, hRa, hLa⟩
                have hxa := (Low.of_chg (B := B) HCX.out).trans hLa
                have hCa : Chg [] w wa := hxa.chg hBw
                have hba : B ≤ wa.heap.size := Nat.le_trans hbx hLa.size
                have HRa := Lib.hid hRa
                have HCa := Lib.hid hCa
                clear hRa hLa hxa hCa HX
                go_wp2_with fail
                refine (asks_any HRa.out (by rw [List.length_append]; have := HQL.out; simp; omega) (by simp)).mono ?_
                rintro e wb ⟨vb, rfl, hob, hcb⟩
                obtain ⟨A7, c7, rfl, _, _, _⟩ := rown_slice hob
                rw [List.length_append, HQL.out]
                simp only [List.length_cons, List.length_nil]
                have HRb := Lib.hid (Rw.keep HRa.out hcb)
                have HCb := Lib.hid (HCa.out.new hcb)
                have hbb : B ≤ wb.heap.size := Nat.le_trans hba hcb.size
                clear hob hcb
                go_wp2_with fail
                go_roundw
                case rel => exact ⟨j + 1, by omega, by go_num, ⟨_, _, _, by rw [List.length_append, HQL.out]; rfl, HRb.out, hbb⟩, HCb.out⟩
                case measure => simp [intOf]; omega
              · have hjI : (j : Int) < 73 := by omega
                have h64I : (64 : Int) ≤ (j : Int) := by omega
                have HX := Lib.hid (fun x => ask_is HRX.out hbx (by have := HQL.out; omega) x (j : Int) (some (0)) (by rw [HQL.out, HRS.out, HUP.out]; rw [if_neg h64]) (qs ++ [(x, (j : Int))]) rfl (0) true rfl rfl)
                go_wp2_with fail
                refine (HX.out _).mono ?_
                rintro e wa ⟨a6, q6, rfl, hRa, hLa⟩
                have hxa := (Low.of_chg (B := B) HCX.out).trans hLa
                have hCa : Chg [] w wa := hxa.chg hBw
                have hba : B ≤ wa.heap.size := Nat.le_trans hbx hLa.size
                have HRa := Lib.hid hRa
                have HCa := Lib.hid hCa
                clear hRa hLa hxa hCa HX
                go_wp2_with fail
                refine (asks_any HRa.out (by rw [List.length_append]; have := HQL.out; simp; omega) (by simp)).mono ?_
                rintro e wb ⟨vb, rfl, hob, hcb⟩
                obtain ⟨A7, c7, rfl, _, _, _⟩ := rown_slice hob
                rw [List.length_append, HQL.out]
                simp only [List.length_cons, List.length_nil]
                have HRb := Lib.hid (Rw.keep HRa.out hcb)
                have HCb := Lib.hid (HCa.out.new hcb)
                have hbb : B ≤ wb.heap.size := Nat.le_trans hba hcb.size
                clear hob hcb
                go_wp2_with fail
                go_roundw
                case rel => exact ⟨j + 1, by omega, by go_num, ⟨_, _, _, by rw [List.length_append, HQL.out]; rfl, HRb.out, hbb⟩, HCb.out⟩
                case measure => simp [intOf]; omega
            · have hjI : (73 : Int) ≤ (j : Int) := by omega
              go_wp2_with fail
              refine (all_yes (n := 0) (ns := []) (vs := []) Nums.nil (Src.nil _ _) (fun ad e => by cases e) rfl (by omega)).mono ?_
              rintro e wa ⟨va, rfl, hoa, hca⟩
              obtain ⟨A9, c9, rfl, _, _, _, _⟩ := own_slice hoa
              have ha := HCX.out.new hca
              clear hca hoa
              go_wp2_with fail
              refine rknown_any.mono ?_
              rintro e wb ⟨rfl, hcb⟩
              go_wp2_with fail
              go_ret
              exact ⟨rfl, ha.new hcb⟩
end
end Go.Proofs.Ytigbnmckdjlihaa
