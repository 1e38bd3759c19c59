/-
  The walk of ReplyRows.
-/
import Derived.Test.YtigbnmckdjlihaaReplyLawA
import Derived.Test.YtigbnmckdjlihaaArgs
import Derived.Deep.QuietTactic
import Derived.BigQuiet
namespace Go.Proofs.Ytigbnmckdjlihaa
open Go.RowKit
/-- What the law makes of its i-th number. -/
def rowR (l : List Int) (bd : List Bool) (i : Nat) : Option Int := if bd.getD i false then none else some (l.getD i 0)
def rowsR (l : List Int) (bd : List Bool) (k : Nat) : List (Option Int) := (List.range k).map (rowR l bd)
theorem rowsR_len (l : List Int) (bd : List Bool) (k : Nat) : (rowsR l bd k).length = k := by simp [rowsR]
theorem rowsR_next (l : List Int) (bd : List Bool) (k : Nat) : rowsR l bd (k + 1) = rowsR l bd k ++ [rowR l bd k] := by simp [rowsR, List.range_succ]
theorem rowsR_get (l : List Int) (bd : List Bool) (k j : Nat) (h : j < k) : nextR (rowsR l bd k) j = rowR l bd j := by
  unfold nextR
  rw [if_pos (by rw [rowsR_len]; exact h)]
  simp [rowsR, List.getD, h]
theorem rowsR_end (l : List Int) (bd : List Bool) (k j : Nat) (h : k ≤ j) : nextR (rowsR l bd k) j = some 0 := by
  unfold nextR
  rw [if_neg (by rw [rowsR_len]; omega)]
theorem rowR_bad {l : List Int} {bd : List Bool} {i : Nat} (h : i < bd.length) (hb : bd[i] = true) : rowR l bd i = none := by simp [rowR, List.getD, h, hb]
theorem rowR_good {l : List Int} {bd : List Bool} {i : Nat} (hl : i < l.length) (h : i < bd.length) (hb : bd[i] = false) : rowR l bd i = some l[i] := by simp [rowR, List.getD, h, hb, hl]
theorem rowR_far {l : List Int} {bd : List Bool} {i : Nat} (hl : i < l.length) (h : bd.length ≤ i) : rowR l bd i = some l[i] := by
  simp [rowR, List.getD, List.getElem?_eq_none h, hl]
theorem Nums.more {vs : List Value} {rs : List (Option Int)} (h : Nums vs rs) {v : Value} {r : Option Int} (hv : Num v r) : Nums (vs ++ [v]) (rs ++ [r]) := h.app (Nums.cons hv Nums.nil)
def i32s (l : List Int) : List Value := l.map (Value.int .i32)
theorem i32s_len (l : List Int) : (i32s l).length = l.length := by simp [i32s]
theorem i32s_get (l : List Int) (i : Nat) (h : i < l.length) : (i32s l)[i]? = some (.int .i32 l[i]) := by simp [i32s, h]
/-- What the first loop holds. -/
def MadeR (w wr : World) (l : List Int) (bd : List Bool) (v : Value) (k : Nat) : Prop := ∃ vs, wr.ownsRow w.heap.size 20 1 v k vs ∧ Nums vs (rowsR l bd k) ∧ Chg [] w wr
section
variable {w : World} {A A2 A3 : Option Addr} {n c n2 c2 n3 c3 : Nat}
set_option maxHeartbeats 8000000 in
set_option maxRecDepth 100000 in
theorem rows12_any {l nm : List Int} {bd : List Bool} (hl : l.length = n) (hs0 : Src w A (nms l)) (hA : 0 < n → ∀ ad, A = some ad → ad.spot = none) (hb : IsBools w A2 n2 bd) (hm : nm.length = n3) (hs3 : Src w A3 (i32s nm)) (hA3 : 0 < n3 → ∀ ad, A3 = some ad → ad.spot = none)
    (hn : n ≤ 9223372036854775807) (hn2 : n2 ≤ 9223372036854775807) (hn3 : n3 ≤ 9223372036854775807) :
    Calls Try.prog 11 #[.slice A n c, .slice A2 n2 c2, .slice A3 n3 c3] w (LawPost w) := by
  obtain ⟨i0, hi, hz0, hz1, hz2⟩ := info_parts info_any
  have HLL := Lib.hid hl
  have HLS := Lib.hid hs0
  have HA := Lib.hid hA
  have HB := Lib.hid hb
  have HML := Lib.hid hm
  have HMS := Lib.hid hs3
  have HMA := Lib.hid hA3
  clear hl hs0 hA hb hm hs3 hA3
  go_enter Try.func11, Try.ntmps11
  go_wp2_with fail
  go_loopw [7, 8] (fun v i wr => ∃ k : Nat, k ≤ n ∧ k ≤ 30 ∧ i = .int .i64 (k : Int) ∧ MadeR w wr l bd v k) (fun _ i _ => 30 - (intOf i).toNat)
  case atStart => exact ⟨0, Nat.zero_le _, by omega, rfl, ⟨[], World.ownsRow_nil _ _ _ _, Nums.nil, Chg.refl _ _⟩⟩
  case round =>
    obtain ⟨k, hk, hk30, rfl, vs, hown, hnums, hcg⟩ := hrel
    have hwr := hcg.size
    have HC := Lib.hid hcg
    have HN := Lib.hid hnums
    clear hcg hnums
    by_cases hgo : k < n ∧ k < 30
    · obtain ⟨hlt, hlt30⟩ := hgo
      have hla : k < l.length := by rw [HLL.out]; exact hlt
      obtain ⟨ad, rfl, _, hx⟩ := (HLS.out.keep HC.out) (by rw [nms_len]; omega)
      have hx1 := hx k _ (nms_get l k hla)
      obtain ⟨b1, o1, s1⟩ := ad
      obtain rfl : s1 = none := HA.out (by omega) _ rfl
      rw [add_plain] at hx1
      have hlI : (k : Int) < (n : Int) := by omega
      clear hx
      by_cases hkb : k < n2
      · have hkl : k < bd.length := by rw [HB.out.1]; exact hkb
        obtain ⟨ad, rfl, _, hx⟩ := (HB.out.2.1.keep HC.out) (by rw [bls_len]; omega)
        have hy1 := hx k _ (bls_get bd k hkl)
        obtain ⟨b2, o2, s2⟩ := ad
        obtain rfl : s2 = none := HB.out.2.2 (by omega) _ rfl
        rw [add_plain] at hy1
        have hbI : (k : Int) < (n2 : Int) := by omega
        clear hx
        cases hbk : bd[k] with
        | true =>
          rw [hbk] at hy1
          have HR := Lib.hid (rowR_bad (l := l) hkl hbk)
          clear hbk
          go_wp2_with (first
            | (at_builtin
               refine wpList_append_own _ rfl (.tmp 36) (.tmp 40) _ rfl w.heap.size 20 i0 .nilIface 1 16 Try.underlying53 hi hz0 hz1 hz2 rfl (by decide) _ k vs rfl (own_keep hown ((Chg.refl _ _).alloc _)) ⟨wr.heap.size, 0, none⟩ 1 1 [.iface 63 (.agg #[.int .i64 (k : Int)])] rfl rfl ?c1 ?c2 ?c3 ?c4 ?c5 ?_
               case c1 => exact cell_one_new _ _ _
               case c2 => simp [Value.oneCell']
               case c3 => simp only [maxLen]; omega
               case c4 => omega
               case c5 => simp; omega
               intro v' w2 hown' hg' _))
          go_roundw
          case rel =>
            refine ⟨k + 1, by omega, by omega, by go_num, ⟨vs ++ [.iface 63 (.agg #[.int .i64 (k : Int)])], hown', ?_, chg_grown (HC.out.alloc _) hg' fun g hgg => (hown.lt g hgg).1⟩⟩
            rw [rowsR_next, HR.out]
            exact HN.out.more (Num.none_ _ _ (by decide))
          case measure => simp [intOf]; omega
        | false =>
          rw [hbk] at hy1
          have HR := Lib.hid (rowR_good hla hkl hbk)
          clear hbk
          generalize l[k] = z at hx1 HR
          go_wp2_with (first
            | (at_builtin
               refine wpList_append_own _ rfl (.tmp 42) (.tmp 48) _ rfl w.heap.size 20 i0 .nilIface 1 16 Try.underlying53 hi hz0 hz1 hz2 rfl (by decide) _ k vs rfl (own_keep hown ((Chg.refl _ _).alloc _)) ⟨wr.heap.size, 0, none⟩ 1 1 [.iface 2 (.int .i64 z)] rfl rfl ?c1 ?c2 ?c3 ?c4 ?c5 ?_
               case c1 => exact cell_one_new _ _ _
               case c2 => simp [Value.oneCell']
               case c3 => simp only [maxLen]; omega
               case c4 => omega
               case c5 => simp; omega
               intro v' w2 hown' hg' _))
          go_roundw
          case rel =>
            refine ⟨k + 1, by omega, by omega, by go_num, ⟨vs ++ [.iface 2 (.int .i64 z)], hown', ?_, chg_grown (HC.out.alloc _) hg' fun g hgg => (hown.lt g hgg).1⟩⟩
            rw [rowsR_next, HR.out]
            exact HN.out.more (Num.i64 z)
          case measure => simp [intOf]; omega
      · have hbI : (n2 : Int) ≤ (k : Int) := by omega
        have HR := Lib.hid (rowR_far hla (by rw [HB.out.1]; omega))
        generalize l[k] = z at hx1 HR
        go_wp2_with (first
          | (at_builtin
             refine wpList_append_own _ rfl (.tmp 42) (.tmp 48) _ rfl w.heap.size 20 i0 .nilIface 1 16 Try.underlying53 hi hz0 hz1 hz2 rfl (by decide) _ k vs rfl (own_keep hown ((Chg.refl _ _).alloc _)) ⟨wr.heap.size, 0, none⟩ 1 1 [.iface 2 (.int .i64 z)] rfl rfl ?c1 ?c2 ?c3 ?c4 ?c5 ?_
             case c1 => exact cell_one_new _ _ _
             case c2 => simp [Value.oneCell']
             case c3 => simp only [maxLen]; omega
             case c4 => omega
             case c5 => simp; omega
             intro v' w2 hown' hg' _))
        go_roundw
        case rel =>
          refine ⟨k + 1, by omega, by omega, by go_num, ⟨vs ++ [.iface 2 (.int .i64 z)], hown', ?_, chg_grown (HC.out.alloc _) hg' fun g hgg => (hown.lt g hgg).1⟩⟩
          rw [rowsR_next, HR.out]
          exact HN.out.more (Num.i64 z)
        case measure => simp [intOf]; omega
    · have hend : n ≤ k ∨ (k < n ∧ 30 ≤ k) := by omega
      clear hgo
      obtain ⟨A1, c1, rfl, hvl, _, hsv, hA1⟩ := own_slice hown
      have HA1 := Lib.hid hA1
      have HVL := Lib.hid hvl
      have HSV := Lib.hid hsv
      clear hA1 hvl hsv hown
      rcases hend with hend | hend
      all_goals
        go_wp2_with fail
        refine (rnew_any (n := k) HN.out HSV.out (fun ad e => (HA1.out ad e).1) HVL.out (by omega) k (by omega)).mono ?_
        rintro e w5 ⟨p, a5, q5, rfl, hR5, hc5⟩
        rw [List.take_of_length_le (by rw [rowsR_len]; exact Nat.le_refl _)] at hR5
        obtain ⟨B, hB⟩ : ∃ B, B = wr.heap.size := ⟨_, rfl⟩
        rw [← hB] at hR5
        have b5 : B ≤ w5.heap.size := by rw [hB]; exact hc5.size
        have hBw : w.heap.size ≤ B := by omega
        have h5 := HC.out.new hc5
        clear hc5 hB HSV HVL HA1
        obtain ⟨rs, hrs⟩ : ∃ rs, rs = rowsR l bd k := ⟨_, rfl⟩
        rw [← hrs] at hR5
        have HRS := Lib.hid hrs
        clear hrs
        go_wp2_with fail
        go_loopw [10] (fun i wx => ∃ j : Nat, j ≤ n3 ∧ j ≤ 40 ∧ i = .int .i64 (j : Int) ∧ (∃ qs a q, qs.length = j ∧ Rw wx B p rs qs a q ∧ B ≤ wx.heap.size) ∧ Chg [] w wx) (fun i _ => 40 - (intOf i).toNat)
        case atStart => exact ⟨0, Nat.zero_le _, by omega, rfl, ⟨[], _, _, rfl, hR5, b5⟩, h5⟩
        case round =>
          obtain ⟨j, hj, hj40, rfl, ⟨qs, aa, qq, hql, hRx, hbx⟩, hcx⟩ := hrel
          clear hR5 h5 b5
          have HCX := Lib.hid hcx
          have HRX := Lib.hid hRx
          have HQL := Lib.hid hql
          clear hcx hRx hql
          by_cases hgo : j < n3 ∧ j < 40
          · obtain ⟨hlt, hlt40⟩ := hgo
            have hjl : j < nm.length := by rw [HML.out]; exact hlt
            have HMX := Lib.hid (HMS.out.keep HCX.out)
            obtain ⟨ad, rfl, _, hx⟩ := HMX.out (by rw [i32s_len]; omega)
            have hx1 := hx j _ (i32s_get nm j hjl)
            obtain ⟨b3, o3, s3⟩ := ad
            obtain rfl : s3 = none := HMA.out (by omega) _ rfl
            rw [add_plain] at hx1
            obtain ⟨z, hz⟩ : ∃ z, z = nm[j] := ⟨_, rfl⟩
            rw [← hz] at hx1
            have HZ := Lib.hid hz.symm
            clear hz
            have hjI : (j : Int) < (n3 : Int) := by omega
            clear hx
            by_cases hjk : j < k
            · have hjkI : (j : Int) < (k : Int) := by omega
              have hjn : j < l.length := by rw [HLL.out]; omega
              have hjz : 0 < n := by omega
              by_cases hjb : j < n2
              · have hjbI : (j : Int) < (n2 : Int) := by omega
                have hkl : j < bd.length := by rw [HB.out.1]; exact hjb
                cases hbk : bd[j] with
                | true =>
                  have HNX := Lib.hid (show nextR rs qs.length = none by rw [HQL.out, HRS.out, rowsR_get l bd k j hjk, rowR_bad hkl hbk])
                  have HX := Lib.hid (ask_is HRX.out hbx (by have := HQL.out; omega) z (j : Int) (none) HNX.out (qs ++ [(z, (j : Int))]) rfl (0) false rfl rfl)
                  clear HNX
                  go_wp2_with fail
                  refine HX.out.mono ?_
                  rintro e wa ⟨a6, q6, rfl, hRa, hLa⟩
                  have hxa := (Low.of_chg (B := B) HCX.out).trans hLa
                  have hCa : Chg [] w wa := hxa.chg hBw
                  have hba : B ≤ wa.heap.size := Nat.le_trans hbx hLa.size
                  have HRa := Lib.hid hRa
                  have HCa := Lib.hid hCa
                  clear hRa hLa hxa hx1 hCa HX
                  go_wp2_with fail
                  obtain ⟨ad, rfl, _, hx⟩ := (HLS.out.keep HCa.out) (by rw [nms_len]; omega)
                  have hx4 := hx j _ (nms_get l j hjn)
                  obtain ⟨b4, o4, s4⟩ := ad
                  obtain rfl : s4 = none := HA.out hjz _ rfl
                  rw [add_plain] at hx4
                  clear hx
                  generalize l[j] = y at hx4
                  obtain ⟨ad, rfl, _, hx⟩ := (HB.out.2.1.keep HCa.out) (by rw [bls_len]; omega)
                  have hx5 := hx j _ (bls_get bd j hkl)
                  obtain ⟨b5, o5, s5⟩ := ad
                  obtain rfl : s5 = none := HB.out.2.2 (by omega) _ rfl
                  rw [add_plain, hbk] at hx5
                  clear hx hbk
                  have hdn : decide (n2 ≤ j) = false := by simp; omega
                  have hdi : decide ((n2 : Int) ≤ (j : Int)) = false := by simp; omega
                  go_quiet (fail)
                  clear hdn hdi
                  go_wp2_with fail
                  refine (asks_any (Rw.keep HRa.out ((Chg.refl [] wa).drewN _)) (by rw [List.length_append]; have := HQL.out; simp; omega) (by simp)).mono ?_
                  rintro e wb ⟨vb, rfl, hob, hcb⟩
                  obtain ⟨A7, c7, rfl, _, _, hA7⟩ := rown_slice hob
                  have hlq : (qs ++ [(z, (j : Int))]).length = j + 1 := by rw [List.length_append, HQL.out]; rfl
                  have hget : (qs ++ [(z, (j : Int))])[j]? = some (z, (j : Int)) := by rw [List.getElem?_append_right (by rw [HQL.out]; exact Nat.le_refl _), HQL.out]; simp
                  obtain ⟨g7, rfl, k1⟩ := rown_cell hob rfl (qs_get hget).1
                  obtain ⟨g8, hg8, k2⟩ := rown_cell hob rfl (qs_get hget).2
                  injection hg8 with hg8
                  injection hg8 with hg8
                  subst hg8
                  simp only at k1 k2
                  rw [hlq]
                  have hCb : Chg [] w wb := (HCa.out.new ((Chg.refl [] wa).drewN _)).new hcb
                  obtain ⟨ad, had, _, hx⟩ := (HMS.out.keep hCb) (by rw [i32s_len]; omega)
                  injection had with had
                  subst had
                  have hx9 := hx j _ (i32s_get nm j hjl)
                  have hze : nm[j] = z := HZ.out
                  rw [add_plain, hze] at hx9
                  have HRb := Lib.hid (Rw.keep (Rw.keep HRa.out ((Chg.refl [] wa).drewN _)) hcb)
                  have HCb := Lib.hid hCb
                  have HLQ := Lib.hid hlq
                  have hbb : B ≤ wb.heap.size := Nat.le_trans hba hcb.size
                  clear hx hob hcb hCb hlq hget hA7 hze
                  go_wp2_with fail
                  go_quiet (fail)
                  go_wp2_with fail
                  go_roundw
                  case rel => exact ⟨j + 1, by omega, by omega, by go_num, ⟨_, _, _, HLQ.out, HRb.out.keep ((Chg.refl _ _).drewN _), hbb⟩, HCb.out.drewN _⟩
                  case measure => simp [intOf]; omega
                | false =>
                  have HNX := Lib.hid (show nextR rs qs.length = some l[j] by rw [HQL.out, HRS.out, rowsR_get l bd k j hjk, rowR_good hjn hkl hbk])
                  have HX := Lib.hid (ask_is HRX.out hbx (by have := HQL.out; omega) z (j : Int) (some l[j]) HNX.out (qs ++ [(z, (j : Int))]) rfl (l[j]) true rfl rfl)
                  clear HNX
                  generalize hzz : l[j] = y at HX
                  have HY := Lib.hid hzz
                  clear hzz
                  go_wp2_with fail
                  refine HX.out.mono ?_
                  rintro e wa ⟨a6, q6, rfl, hRa, hLa⟩
                  have hxa := (Low.of_chg (B := B) HCX.out).trans hLa
                  have hCa : Chg [] w wa := hxa.chg hBw
                  have hba : B ≤ wa.heap.size := Nat.le_trans hbx hLa.size
                  have HRa := Lib.hid hRa
                  have HCa := Lib.hid hCa
                  clear hRa hLa hxa hx1 hCa HX
                  go_wp2_with fail
                  obtain ⟨ad, rfl, _, hx⟩ := (HLS.out.keep HCa.out) (by rw [nms_len]; omega)
                  have hx4 := hx j _ (nms_get l j hjn)
                  obtain ⟨b4, o4, s4⟩ := ad
                  obtain rfl : s4 = none := HA.out hjz _ rfl
                  rw [add_plain] at hx4
                  clear hx
                  rw [HY.out] at hx4
                  obtain ⟨ad, rfl, _, hx⟩ := (HB.out.2.1.keep HCa.out) (by rw [bls_len]; omega)
                  have hx5 := hx j _ (bls_get bd j hkl)
                  obtain ⟨b5, o5, s5⟩ := ad
                  obtain rfl : s5 = none := HB.out.2.2 (by omega) _ rfl
                  rw [add_plain, hbk] at hx5
                  clear hx hbk
                  have hdn : decide (n2 ≤ j) = false := by simp; omega
                  have hdi : decide ((n2 : Int) ≤ (j : Int)) = false := by simp; omega
                  go_quiet (fail)
                  clear hdn hdi
                  go_wp2_with fail
                  refine (asks_any (Rw.keep HRa.out ((Chg.refl [] wa).drewN _)) (by rw [List.length_append]; have := HQL.out; simp; omega) (by simp)).mono ?_
                  rintro e wb ⟨vb, rfl, hob, hcb⟩
                  obtain ⟨A7, c7, rfl, _, _, hA7⟩ := rown_slice hob
                  have hlq : (qs ++ [(z, (j : Int))]).length = j + 1 := by rw [List.length_append, HQL.out]; rfl
                  have hget : (qs ++ [(z, (j : Int))])[j]? = some (z, (j : Int)) := by rw [List.getElem?_append_right (by rw [HQL.out]; exact Nat.le_refl _), HQL.out]; simp
                  obtain ⟨g7, rfl, k1⟩ := rown_cell hob rfl (qs_get hget).1
                  obtain ⟨g8, hg8, k2⟩ := rown_cell hob rfl (qs_get hget).2
                  injection hg8 with hg8
                  injection hg8 with hg8
                  subst hg8
                  simp only at k1 k2
                  rw [hlq]
                  have hCb : Chg [] w wb := (HCa.out.new ((Chg.refl [] wa).drewN _)).new hcb
                  obtain ⟨ad, had, _, hx⟩ := (HMS.out.keep hCb) (by rw [i32s_len]; omega)
                  injection had with had
                  subst had
                  have hx9 := hx j _ (i32s_get nm j hjl)
                  have hze : nm[j] = z := HZ.out
                  rw [add_plain, hze] at hx9
                  have HRb := Lib.hid (Rw.keep (Rw.keep HRa.out ((Chg.refl [] wa).drewN _)) hcb)
                  have HCb := Lib.hid hCb
                  have HLQ := Lib.hid hlq
                  have hbb : B ≤ wb.heap.size := Nat.le_trans hba hcb.size
                  clear hx hob hcb hCb hlq hget hA7 hze
                  go_wp2_with fail
                  go_quiet (fail)
                  go_wp2_with fail
                  go_roundw
                  case rel => exact ⟨j + 1, by omega, by omega, by go_num, ⟨_, _, _, HLQ.out, HRb.out.keep ((Chg.refl _ _).drewN _), hbb⟩, HCb.out.drewN _⟩
                  case measure => simp [intOf]; omega
              · have hjbI : (n2 : Int) ≤ (j : Int) := by omega
                have HNX := Lib.hid (show nextR rs qs.length = some l[j] by rw [HQL.out, HRS.out, rowsR_get l bd k j hjk, rowR_far hjn (by rw [HB.out.1]; omega)])
                have HX := Lib.hid (ask_is HRX.out hbx (by have := HQL.out; omega) z (j : Int) (some l[j]) HNX.out (qs ++ [(z, (j : Int))]) rfl (l[j]) true rfl rfl)
                clear HNX
                generalize hzz : l[j] = y at HX
                have HY := Lib.hid hzz
                clear hzz
                go_wp2_with fail
                refine HX.out.mono ?_
                rintro e wa ⟨a6, q6, rfl, hRa, hLa⟩
                have hxa := (Low.of_chg (B := B) HCX.out).trans hLa
                have hCa : Chg [] w wa := hxa.chg hBw
                have hba : B ≤ wa.heap.size := Nat.le_trans hbx hLa.size
                have HRa := Lib.hid hRa
                have HCa := Lib.hid hCa
                clear hRa hLa hxa hx1 hCa HX
                go_wp2_with fail
                obtain ⟨ad, rfl, _, hx⟩ := (HLS.out.keep HCa.out) (by rw [nms_len]; omega)
                have hx4 := hx j _ (nms_get l j hjn)
                obtain ⟨b4, o4, s4⟩ := ad
                obtain rfl : s4 = none := HA.out hjz _ rfl
                rw [add_plain] at hx4
                clear hx
                rw [HY.out] at hx4
                go_quiet (fail)
                go_wp2_with fail
                refine (asks_any (Rw.keep HRa.out ((Chg.refl [] wa).drewN _)) (by rw [List.length_append]; have := HQL.out; simp; omega) (by simp)).mono ?_
                rintro e wb ⟨vb, rfl, hob, hcb⟩
                obtain ⟨A7, c7, rfl, _, _, hA7⟩ := rown_slice hob
                have hlq : (qs ++ [(z, (j : Int))]).length = j + 1 := by rw [List.length_append, HQL.out]; rfl
                have hget : (qs ++ [(z, (j : Int))])[j]? = some (z, (j : Int)) := by rw [List.getElem?_append_right (by rw [HQL.out]; exact Nat.le_refl _), HQL.out]; simp
                obtain ⟨g7, rfl, k1⟩ := rown_cell hob rfl (qs_get hget).1
                obtain ⟨g8, hg8, k2⟩ := rown_cell hob rfl (qs_get hget).2
                injection hg8 with hg8
                injection hg8 with hg8
                subst hg8
                simp only at k1 k2
                rw [hlq]
                have hCb : Chg [] w wb := (HCa.out.new ((Chg.refl [] wa).drewN _)).new hcb
                obtain ⟨ad, had, _, hx⟩ := (HMS.out.keep hCb) (by rw [i32s_len]; omega)
                injection had with had
                subst had
                have hx9 := hx j _ (i32s_get nm j hjl)
                have hze : nm[j] = z := HZ.out
                rw [add_plain, hze] at hx9
                have HRb := Lib.hid (Rw.keep (Rw.keep HRa.out ((Chg.refl [] wa).drewN _)) hcb)
                have HCb := Lib.hid hCb
                have HLQ := Lib.hid hlq
                have hbb : B ≤ wb.heap.size := Nat.le_trans hba hcb.size
                clear hx hob hcb hCb hlq hget hA7 hze
                go_wp2_with fail
                go_quiet (fail)
                go_wp2_with fail
                go_roundw
                case rel => exact ⟨j + 1, by omega, by omega, by go_num, ⟨_, _, _, HLQ.out, HRb.out.keep ((Chg.refl _ _).drewN _), hbb⟩, HCb.out.drewN _⟩
                case measure => simp [intOf]; omega
            · have hjkI : (k : Int) ≤ (j : Int) := by omega
              have HNX := Lib.hid (show nextR rs qs.length = some 0 by rw [HQL.out, HRS.out, rowsR_end l bd k j (by omega)])
              have HX := Lib.hid (ask_is HRX.out hbx (by have := HQL.out; omega) z (j : Int) (some 0) HNX.out (qs ++ [(z, (j : Int))]) rfl (0) true rfl rfl)
              clear HNX
              go_wp2_with fail
              refine HX.out.mono ?_
              rintro e wa ⟨a6, q6, rfl, hRa, hLa⟩
              have hxa := (Low.of_chg (B := B) HCX.out).trans hLa
              have hCa : Chg [] w wa := hxa.chg hBw
              have hba : B ≤ wa.heap.size := Nat.le_trans hbx hLa.size
              have HRa := Lib.hid hRa
              have HCa := Lib.hid hCa
              clear hRa hLa hxa hx1 hCa HX
              go_wp2_with fail
              refine (asks_any (Rw.keep HRa.out (Chg.refl [] wa)) (by rw [List.length_append]; have := HQL.out; simp; omega) (by simp)).mono ?_
              rintro e wb ⟨vb, rfl, hob, hcb⟩
              obtain ⟨A7, c7, rfl, _, _, hA7⟩ := rown_slice hob
              have hlq : (qs ++ [(z, (j : Int))]).length = j + 1 := by rw [List.length_append, HQL.out]; rfl
              have hget : (qs ++ [(z, (j : Int))])[j]? = some (z, (j : Int)) := by rw [List.getElem?_append_right (by rw [HQL.out]; exact Nat.le_refl _), HQL.out]; simp
              obtain ⟨g7, rfl, k1⟩ := rown_cell hob rfl (qs_get hget).1
              obtain ⟨g8, hg8, k2⟩ := rown_cell hob rfl (qs_get hget).2
              injection hg8 with hg8
              injection hg8 with hg8
              subst hg8
              simp only at k1 k2
              rw [hlq]
              have hCb : Chg [] w wb := (HCa.out.new (Chg.refl [] wa)).new hcb
              obtain ⟨ad, had, _, hx⟩ := (HMS.out.keep hCb) (by rw [i32s_len]; omega)
              injection had with had
              subst had
              have hx9 := hx j _ (i32s_get nm j hjl)
              have hze : nm[j] = z := HZ.out
              rw [add_plain, hze] at hx9
              have HRb := Lib.hid (Rw.keep (Rw.keep HRa.out (Chg.refl [] wa)) hcb)
              have HCb := Lib.hid hCb
              have HLQ := Lib.hid hlq
              have hbb : B ≤ wb.heap.size := Nat.le_trans hba hcb.size
              clear hx hob hcb hCb hlq hget hA7 hze
              go_wp2_with fail
              go_quiet (fail)
              go_wp2_with fail
              go_roundw
              case rel => exact ⟨j + 1, by omega, by omega, by go_num, ⟨_, _, _, HLQ.out, HRb.out.keep ((Chg.refl _ _).drewN _), hbb⟩, HCb.out.drewN _⟩
              case measure => simp [intOf]; omega
          · have hend3 : n3 ≤ j ∨ (j < n3 ∧ 40 ≤ j) := by omega
            clear hgo
            rcases hend3 with hend3 | hend3
            all_goals
              go_wp2_with fail
              refine rknown_any.mono ?_
              rintro e wz ⟨rfl, hcz⟩
              go_wp2_with fail
              go_ret
              exact ⟨rfl, HCX.out.new hcz⟩
end
end Go.Proofs.Ytigbnmckdjlihaa
