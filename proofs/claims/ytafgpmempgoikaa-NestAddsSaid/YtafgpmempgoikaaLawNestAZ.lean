/-
  The walk of NestAdds.
-/
import Derived.Test.YtafgpmempgoikaaZNestWithin1
import Derived.Test.YtafgpmempgoikaaZNestWithin2
import Derived.Test.YtafgpmempgoikaaZNestWithin3
import Derived.Test.YtafgpmempgoikaaZNestWithin4
import Derived.Test.YtafgpmempgoikaaZNestWithin5
import Derived.Test.YtafgpmempgoikaaZNestWithin6
namespace Go.Proofs.Ytafgpmempgoikaa
open Go.RowKit
theorem within_rng {ss t : List Int} {d : Nat} (h : rNest ss = some (t, d)) {j : Nat} {v : Int} (hv : t[j]? = some v) : -1 ≤ v ∧ v ≤ (ss.length : Int) := by
  obtain ⟨hl, hw⟩ := nest_within h
  have hj : j < ss.length := by rw [← hl]; exact lt_of_some hv
  obtain ⟨u, hu, h1, h2, h3⟩ := hw j ss[j] (by simp [hj])
  rw [hv] at hu
  injection hu with hu
  subst hu
  by_cases a : ss[j] = 63 ∨ ss[j] = 58 ∨ ss[j] = 126
  · have := h1 a; omega
  · by_cases b : ss[j] = 93
    · have := h2 b; omega
    · have := h3 (fun e => a (.inl e)) (fun e => a (.inr (.inl e))) (fun e => a (.inr (.inr e))) b; omega
section
variable {w : World}
set_option maxHeartbeats 4000000 in
set_option maxRecDepth 100000 in
theorem nestAdds_any {A A' : Option Addr} {n c n' c' : Nat} {l l' : List Int} (hs : Src w A (nms l)) (hlen : l.length = n) (hspot : 0 < n → ∀ ad, A = some ad → ad.spot = none) (hn : n ≤ 9223372036854775807) (hrng : ∀ x ∈ l, -9223372036854775808 ≤ x ∧ x ≤ 9223372036854775807)
    (hs' : Src w A' (nms l')) (hlen' : l'.length = n') (hspot' : 0 < n' → ∀ ad, A' = some ad → ad.spot = none) (hn' : n' ≤ 9223372036854775807) (hrng' : ∀ x ∈ l', -9223372036854775808 ≤ x ∧ x ≤ 9223372036854775807) :
    Calls Try.prog 5 #[.slice A n c, .slice A' n' c'] w (LawPost w) := by
  obtain ⟨i0, hi0, hz0, hz1, hz2⟩ := info_parts info_token
  have HUN := Lib.hid (unit_any (c := c) hs hlen hspot hn hrng)
  have HUN' := Lib.hid (fun (W : World) (hW : Chg [] w W) => unit_any (c := c') (hs'.keep hW) hlen' hspot' hn' hrng')
  clear hs hlen hspot hn hrng hs' hlen' hspot' hn' hrng'
  go_enter Try.func5, Try.ntmps5
  go_wp2_with fail
  refine HUN.out.mono ?_
  rintro e w1 ⟨pg, ms, v, fl, rfl, hp0, hp1, hm0, hm1, ho, hg, hfl0, hc1⟩
  obtain ⟨FA, fc, rfl, hFr⟩ := Fnr.of_own ho (by have := hg.lo; omega) (fun f hf => by have := hg.args f hf; omega)
  have HF1 := Lib.hid hFr
  have HG := Lib.hid hg
  have HC1 := Lib.hid hc1
  obtain ⟨fn, hfn⟩ : ∃ fn, fn = fl.length := ⟨_, rfl⟩
  rw [← hfn] at HF1 hfl0 ⊢
  have HFN := Lib.hid hfn
  clear HUN ho hg hc1 hFr hfn hp0 hp1 hm0 hm1
  go_wp2_with fail
  refine (HUN'.out w1 HC1.out).mono ?_
  rintro e w2 ⟨pg', ms', v', fl', rfl, hp0, hp1, hm0, hm1, ho, hg, hfl0', hc2⟩
  obtain ⟨FA', fc', rfl, hFr⟩ := Fnr.of_own ho (by have := hg.lo; omega) (fun f hf => by have := hg.args f hf; omega)
  have HF2' := Lib.hid hFr
  have HG' := Lib.hid hg
  have HC2 := Lib.hid (HC1.out.new hc2)
  have HF2 := Lib.hid (HF1.out.keep hc2)
  obtain ⟨fn', hfn⟩ : ∃ fn, fn = fl'.length := ⟨_, rfl⟩
  rw [← hfn] at HF2' hfl0' ⊢
  have HFN' := Lib.hid hfn
  clear HUN' HF1 ho hg hc2 hFr hfn hp0 hp1 hm0 hm1
  obtain ⟨f, hfk⟩ : ∃ f, fl[0]? = some f := ⟨fl[0]'(by rw [← HFN.out]; exact hfl0), by simp⟩
  obtain ⟨f', hfk'⟩ : ∃ f, fl'[0]? = some f := ⟨fl'[0]'(by rw [← HFN'.out]; exact hfl0'), by simp⟩
  have HFK := Lib.hid hfk
  have HFK' := Lib.hid hfk'
  obtain ⟨_, _, _, hcs, hok⟩ := HG.out.fn 0 f hfk
  obtain ⟨_, _, _, hcs', hok'⟩ := HG'.out.fn 0 f' hfk'
  obtain ⟨ts, t, d, htk, hnt, _⟩ := rFunc_ok hok
  obtain ⟨ms2, t', d', htk', hnt', _⟩ := rFunc_ok hok'
  have hne := rFunc_ne hok htk
  have hne' := rFunc_ne hok' htk'
  have HTK := Lib.hid htk
  have HTK' := Lib.hid htk'
  have HRN := Lib.hid (fun (j : Nat) (v : Int) (h : t'[j]? = some v) => within_rng hnt' h)
  have HNN := Lib.hid ((nest_same (signs ts)).trans hnt)
  have HNN' := Lib.hid ((nest_same (signs ms2)).trans hnt')
  have HADD := Lib.hid (nest_add HNN.out HNN'.out)
  have HCS := Lib.hid hcs
  have HCS' := Lib.hid hcs'
  clear hfk hfk' hcs hcs' hok hok' htk htk' hnt hnt'
  go_upto_region 2 with fail
  have h1 := (Chg.refl [] w2).alloc (.cells #[.int .i64 pg, .int .i64 ms, .slice FA fn fc] 26)
  have hz1' : (w2.alloc (.cells #[.int .i64 pg, .int .i64 ms, .slice FA fn fc] 26)).heap.size = w2.heap.size + 1 := Array.size_push _
  have hX1 := Whole.new w2 26 [.int .i64 pg, .int .i64 ms, .slice FA fn fc]
  obtain ⟨gx, hgx⟩ : ∃ g, g = w2.heap.size := ⟨_, rfl⟩
  rw [← hgx] at hX1 hz1' ⊢
  generalize w2.alloc (.cells #[.int .i64 pg, .int .i64 ms, .slice FA fn fc] 26) = w3 at h1 hX1 hz1' ⊢
  have h2 := (Chg.refl [] w3).alloc (.cells #[.int .i64 pg', .int .i64 ms', .slice FA' fn' fc'] 26)
  have hY1 := Whole.new w3 26 [.int .i64 pg', .int .i64 ms', .slice FA' fn' fc']
  rw [hz1'] at hY1
  have hX2 := hX1.keep h2
  generalize w3.alloc (.cells #[.int .i64 pg', .int .i64 ms', .slice FA' fn' fc'] 26) = w4 at h2 hY1 hX2 ⊢
  have HX := Lib.hid hX2
  have HY := Lib.hid hY1
  have HC4 := Lib.hid (HC2.out.new (h1.trans h2))
  have HF4 := Lib.hid (HF2.out.keep (h1.trans h2))
  have HF4' := Lib.hid (HF2'.out.keep (h1.trans h2))
  clear h1 hz1' hX1 h2 hY1 hX2 hgx HF2 HF2'
  have x2 := HX.out.cell 2
  have y2 := HY.out.cell 2
  have qf : ((fn : Int) == 0) = false := by simp; omega
  have qf' : ((fn' : Int) == 0) = false := by simp; omega
  have hfI : (0 : Int) < (fn : Int) := by omega
  have hfI' : (0 : Int) < (fn' : Int) := by omega
  obtain ⟨fb, fo, rfl, _, _, _, e2⟩ := HF4.out.cell HFK.out
  rw [Nat.zero_mul, Nat.add_zero] at e2
  go_wp2_with fail
  refine (tok_of f.code ts HTK.out (by have := HCS.out; omega)).mono ?_
  rintro e w5 ⟨TA, tc, rfl, hT5, hc5, htm⟩
  have HT5 := Lib.hid hT5
  have HC5 := Lib.hid (HC4.out.new hc5)
  have HF5' := Lib.hid (HF4'.out.keep hc5)
  have HY5 := Lib.hid (HY.out.keep hc5)
  clear hT5 hc5 x2 y2 e2 HF4 HF4' HX HY HC4
  obtain ⟨tn, htn⟩ : ∃ tn, tn = ts.length := ⟨_, rfl⟩
  rw [← htn] at HT5 htm hne ⊢
  have HTN := Lib.hid htn
  clear htn
  have y2 := HY5.out.cell 2
  obtain ⟨fb', fo', rfl, _, _, _, e2⟩ := HF5'.out.cell HFK'.out
  rw [Nat.zero_mul, Nat.add_zero] at e2
  go_wp2_with fail
  refine (tok_of f'.code ms2 HTK'.out (by have := HCS'.out; omega)).mono ?_
  rintro e w6 ⟨TA', tc', rfl, hT6, hc6, htm'⟩
  have HT6' := Lib.hid hT6
  have HC6 := Lib.hid (HC5.out.new hc6)
  have HT6 := Lib.hid (HT5.out.keep hc6)
  clear hT6 hc6 y2 e2 HT5 HC5 HF5' HY5
  obtain ⟨tm, htn⟩ : ∃ tn, tn = ms2.length := ⟨_, rfl⟩
  rw [← htn] at HT6' htm' hne' ⊢
  have HTM := Lib.hid htn
  clear htn
  go_wp2_with fail
  refine (of_const HT6.out t d HNN.out).mono ?_
  rintro e w7 ⟨gp, rfl, hW7, _, hc7⟩
  have HP7 := Lib.hid hW7
  have HT7 := Lib.hid (HT6.out.keep hc7)
  have HT7' := Lib.hid (HT6'.out.keep hc7)
  have HC7 := Lib.hid (HC6.out.new hc7)
  clear hW7 hc7 HT6 HT6' HC6
  go_wp2_with fail
  refine (of_const HT7'.out t' d' HNN'.out).mono ?_
  rintro e w8 ⟨gq, rfl, hW8, _, hc8⟩
  have HQ8 := Lib.hid hW8
  have HP8 := Lib.hid (HP7.out.keep hc8)
  have HT8 := Lib.hid (HT7.out.keep hc8)
  have HT8' := Lib.hid (HT7'.out.keep hc8)
  have HC8 := Lib.hid (HC7.out.new hc8)
  clear hW8 hc8 HT7 HT7' HC7 HP7
  obtain ⟨tk0, htk0⟩ : ∃ tk, ts[0]? = some tk := ⟨ts[0]'(by rw [← HTN.out]; exact hne), by simp⟩
  obtain ⟨b, o, rfl, _, _, _, _⟩ := HT8.out.cell htk0
  obtain ⟨tk1, htk1⟩ : ∃ tk, ms2[0]? = some tk := ⟨ms2[0]'(by rw [← HTM.out]; exact hne'), by simp⟩
  obtain ⟨b', o', rfl, _, _, _, _⟩ := HT8'.out.cell htk1
  clear htk0 htk1
  have HTL := Lib.hid (show (tkCs ts).length = tn * 3 from by rw [tkCs_len, ← HTN.out])
  have HTL' := Lib.hid (show (tkCs ms2).length = tm * 3 from by rw [tkCs_len, ← HTM.out])
  have HNW := Lib.hid (fun (W' : World) (hW : Chg [] w8 W') => tks_cells (HT8.out.keep hW) hne)
  have HNW' := Lib.hid (fun (W' : World) (hW : Chg [] w8 W') => tks_cells (HT8'.out.keep hW) hne')
  have h91 := World.ownsRow_lit (base := w8.heap.size) (e := 42) (size := 3) w8 #[] 0 (Nat.le_refl _) (by decide) rfl
  have HO1 := Lib.hid h91
  have hal1 : Chg [] w8 (w8.alloc (.cells #[] 42)) := (Chg.refl [] w8).alloc _
  have HAL1 := Lib.hid hal1
  have HWS := Lib.hid (show w8.heap.size ≤ (w8.alloc (.cells #[] 42)).heap.size from hal1.size)
  clear h91 hal1
  go_wp2_with (first
               | (at_builtin
                  refine wpList_append_own _ rfl (.tmp 63) (.tmp 64) _ rfl w8.heap.size 42 i0 _ 3 24 Try.underlying31 hi0 hz0 hz1 hz2 rfl (by decide) (.slice (some ⟨w8.heap.size, 0, none⟩) 0 0) 0 [] rfl HO1.out ⟨b, o, none⟩ tn tc (tkCs ts) rfl HTL.out (HNW.out _ HAL1.out) (tks_ones ts) (by simp only [maxLen]; omega) (by omega) HWS.out ?_
                  intro v' w6 ho6 hg6 _
                  rw [Nat.zero_add, List.nil_append] at ho6
                  obtain ⟨A6, c6, rfl, _⟩ := rown_slice ho6
                  have HO6 := Lib.hid ho6
                  have HC6 := Lib.hid (show Chg [] w8 w6 from chg_grown2 HAL1.out hg6 (fun g hg => by have := (HO1.out.lt g hg).1; omega))
                  have HSZ6 := Lib.hid (show w8.heap.size ≤ w6.heap.size from HC6.out.size)
                  clear ho6 hg6)
               | (at_builtin
                  refine wpList_append_own _ rfl (.tmp 65) (.tmp 66) _ rfl w8.heap.size 42 i0 _ 3 24 Try.underlying31 hi0 hz0 hz1 hz2 rfl (by decide) (.slice A6 tn c6) tn (tkCs ts) rfl HO6.out ⟨b', o', none⟩ tm tc' (tkCs ms2) rfl HTL'.out (HNW'.out _ HC6.out) (tks_ones ms2) (by simp only [maxLen]; omega) (by omega) HSZ6.out ?_
                  intro v' w7 ho7 hg7 _
                  obtain ⟨A7, c7, rfl, _⟩ := rown_slice ho7
                  have HO7 := Lib.hid ho7
                  have HC7 := Lib.hid (show Chg [] w8 w7 from chg_grown2 HC6.out hg7 (fun g hg => by have := (HO6.out.lt g hg).1; omega))
                  clear ho7 hg7))
  obtain ⟨A9, c9, e', hT7⟩ := Tks.of_own (l := ts ++ ms2) (by have := HO7.out; rw [tkCs_app]; exact this) (by omega)
  simp only [Value.slice.injEq, true_and] at e'
  obtain ⟨e1, e2⟩ := e'
  subst e1; subst e2
  have HT7 := Lib.hid hT7
  clear hT7 HO6 HO7 HO1 HAL1 HWS HNW HNW' HC6 HSZ6
  obtain ⟨tb, htb, htbl, htb1, htb2⟩ := HADD.out
  have HNB := Lib.hid (show nNest (signs (ts ++ ms2)) = some (tb, max d d') from by rw [← htb]; simp [signs])
  have hsl : (signs ts).length = tn := by unfold signs; rw [List.length_map]; exact HTN.out.symm
  have hsl' : (signs ms2).length = tm := by unfold signs; rw [List.length_map]; exact HTM.out.symm
  rw [hsl] at htb1 htb2
  rw [hsl'] at htb2
  have HB1 := Lib.hid htb1
  have HB2 := Lib.hid htb2
  clear htb htbl htb1 htb2 hsl hsl' HADD
  refine (of_const HT7.out tb _ HNB.out).mono ?_
  rintro e w9 ⟨gb, rfl, hW9, htbl, hc9⟩
  have HB9 := Lib.hid hW9
  have HP9 := Lib.hid (HP8.out.keep (HC7.out.trans hc9))
  have HQ9 := Lib.hid (HQ8.out.keep (HC7.out.trans hc9))
  have HT9 := Lib.hid (HT8.out.keep (HC7.out.trans hc9))
  have HT9' := Lib.hid (HT8'.out.keep (HC7.out.trans hc9))
  have HC9 := Lib.hid (HC8.out.new (HC7.out.trans hc9))
  have HTBL := Lib.hid htbl
  clear hW9 hc9 htbl HP8 HQ8 HT8 HT8' HC8 HC7 HT7
  have qN : (((tn + tm : Nat) : Int) != (tn : Int) + (tm : Int)) = false := by simp
  have HPL := Lib.hid (show t.length = tn from by rw [(nNest_some HNN.out).2.2]; unfold signs; rw [List.length_map]; exact HTN.out.symm)
  have HQL := Lib.hid (show t'.length = tm from by rw [(nNest_some HNN'.out).2.2]; unfold signs; rw [List.length_map]; exact HTM.out.symm)
  go_wp2_with fail
  go_loopw [107] (fun i wr => ∃ j : Nat, i = .int .i64 (j : Int) ∧ j ≤ tn + tm ∧ wr = w9) (fun i _ => tn + tm - (intOf i).toNat)
  case atStart => exact ⟨0, rfl, by omega, rfl⟩
  case round =>
    obtain ⟨j, rfl, hj, hwr⟩ := hrel
    subst hwr
    by_cases hjn : j < tn + tm
    · have hjI : (j : Int) < (tn : Int) + (tm : Int) := by omega
      have hjI2 : (j : Int) < ((tn + tm : Nat) : Int) := by omega
      by_cases hjt : j < tn
      · have hjtI : (j : Int) < (tn : Int) := by omega
        obtain ⟨v, hv⟩ : ∃ v, t[j]? = some v := ⟨t[j]'(by rw [HPL.out]; exact hjt), by simp⟩
        have hvb := (HB1.out j hjt).trans hv
        have z1 : wr.cell? ⟨gp, j, none⟩ = some (.int .i64 v) := (HP9.out.cell j).trans (by simp [nms, hv])
        have z2 : wr.cell? ⟨gb, j, none⟩ = some (.int .i64 v) := (HB9.out.cell j).trans (by simp [nms, hvb])
        clear hv hvb
        go_wp2_with fail
        go_roundw
        case rel => exact ⟨j + 1, by go_num, by omega, by first | rfl | trivial⟩
        case measure => simp [intOf]; omega
      · obtain ⟨i, rfl⟩ : ∃ i, j = tn + i := ⟨j - tn, by omega⟩
        have him : i < tm := by omega
        obtain ⟨v, hv⟩ : ∃ v, t'[i]? = some v := ⟨t'[i]'(by rw [HQL.out]; exact him), by simp⟩
        obtain ⟨hv1, hv2⟩ := HRN.out i v hv
        rw [show (signs ms2).length = tm from by unfold signs; rw [List.length_map]; exact HTM.out.symm] at hv2
        have hvb := HB2.out i him
        rw [hv] at hvb
        simp only [Option.map_some] at hvb
        have z1 : wr.cell? ⟨gq, i, none⟩ = some (.int .i64 v) := (HQ9.out.cell i).trans (by simp [nms, hv])
        have z2 : wr.cell? ⟨gb, tn + i, none⟩ = some (.int .i64 (shV tn v)) := (HB9.out.cell (tn + i)).trans (by simp [nms, hvb])
        have hsub : IntKind.i64.wrap (((tn + i : Nat) : Int) - (tn : Int)) = (i : Int) := by rw [IntWalk.i64_in _ (by omega)]; omega
        have hsub2 : ((tn : Int) + (i : Int)) - (tn : Int) = (i : Int) := by omega
        have hiI0 : (0 : Int) ≤ (i : Int) := by omega
        have hiI : (i : Int) < (tm : Int) := by omega
        have hjtI : ¬ ((tn : Int) + (i : Int) < (tn : Int)) := by omega
        clear hv hvb hjt
        by_cases hv0 : 0 ≤ v
        · rw [show shV tn v = (tn : Int) + v from by unfold shV; rw [if_neg (by omega)]] at z2
          have qv : decide (0 ≤ v) = true := by simpa using hv0
          have qn : ((tn : Int) + v != v + (tn : Int)) = false := by simp; omega
          go_wp2_with fail
          go_roundw
          case rel => exact ⟨tn + i + 1, by go_num, by omega, by first | rfl | trivial⟩
          case measure => simp [intOf]; omega
        · rw [show shV tn v = v from by unfold shV; rw [if_pos (by omega)]] at z2
          have qv : decide (0 ≤ v) = false := by simpa using hv0
          go_wp2_with fail
          go_roundw
          case rel => exact ⟨tn + i + 1, by go_num, by omega, by first | rfl | trivial⟩
          case measure => simp [intOf]; omega
    · have hjI : ¬ (j : Int) < (tn : Int) + (tm : Int) := by omega
      have hjI2 : ¬ (j : Int) < ((tn + tm : Nat) : Int) := by omega
      have HNW := Lib.hid (fun (W' : World) (hW : Chg [] wr W') => tks_cells (HT9.out.keep hW) hne)
      have HNW' := Lib.hid (fun (W' : World) (hW : Chg [] wr W') => tks_cells (HT9'.out.keep hW) hne')
      have h91 := World.ownsRow_lit (base := wr.heap.size) (e := 42) (size := 3) wr #[] 0 (Nat.le_refl _) (by decide) rfl
      have HO1 := Lib.hid h91
      have hal1 : Chg [] wr (wr.alloc (.cells #[] 42)) := (Chg.refl [] wr).alloc _
      have HAL1 := Lib.hid hal1
      have HWS := Lib.hid (show wr.heap.size ≤ (wr.alloc (.cells #[] 42)).heap.size from hal1.size)
      clear h91 hal1
      go_wp2_with (first
                   | (at_builtin
                      refine wpList_append_own _ rfl (.tmp 138) (.tmp 139) _ rfl wr.heap.size 42 i0 _ 3 24 Try.underlying31 hi0 hz0 hz1 hz2 rfl (by decide) (.slice (some ⟨wr.heap.size, 0, none⟩) 0 0) 0 [] rfl HO1.out ⟨b, o, none⟩ tn tc (tkCs ts) rfl HTL.out (HNW.out _ HAL1.out) (tks_ones ts) (by simp only [maxLen]; omega) (by omega) HWS.out ?_
                      intro v' w6 ho6 hg6 _
                      rw [Nat.zero_add, List.nil_append] at ho6
                      obtain ⟨A6, c6, rfl, _⟩ := rown_slice ho6
                      have HO6 := Lib.hid ho6
                      have HC6 := Lib.hid (show Chg [] wr w6 from chg_grown2 HAL1.out hg6 (fun g hg => by have := (HO1.out.lt g hg).1; omega))
                      have HSZ6 := Lib.hid (show wr.heap.size ≤ w6.heap.size from HC6.out.size)
                      clear ho6 hg6)
                   | (at_builtin
                      refine wpList_append_own _ rfl (.tmp 140) (.tmp 141) _ rfl wr.heap.size 42 i0 _ 3 24 Try.underlying31 hi0 hz0 hz1 hz2 rfl (by decide) (.slice A6 tn c6) tn (tkCs ts) rfl HO6.out ⟨b', o', none⟩ tm tc' (tkCs ms2) rfl HTL'.out (HNW'.out _ HC6.out) (tks_ones ms2) (by simp only [maxLen]; omega) (by omega) HSZ6.out ?_
                      intro v' w7 ho7 hg7 _
                      obtain ⟨A7, c7, rfl, _⟩ := rown_slice ho7
                      have HO7 := Lib.hid ho7
                      have HC7 := Lib.hid (show Chg [] wr w7 from chg_grown2 HC6.out hg7 (fun g hg => by have := (HO6.out.lt g hg).1; omega))
                      clear ho7 hg7))
      obtain ⟨A9, c9, e', hT7⟩ := Tks.of_own (l := ts ++ ms2) (by have := HO7.out; rw [tkCs_app]; exact this) (by omega)
      simp only [Value.slice.injEq, true_and] at e'
      obtain ⟨e1, e2⟩ := e'
      subst e1; subst e2
      have HT7 := Lib.hid hT7
      clear hT7 HO6 HO7 HO1 HAL1 HWS HNW HNW' HC6 HSZ6
      have HCk := Lib.hid (HC9.out.new HC7.out)
      have HTa := Lib.hid (HT9.out.keep HC7.out)
      have HTb := Lib.hid (HT9'.out.keep HC7.out)
      have HD := Lib.hid (show deepI (some (t, d)) = (d : Int) from rfl)
      have HD' := Lib.hid (show deepI (some (t', d')) = (d' : Int) from rfl)
      have HDb := Lib.hid (show deepI (some (tb, max d d')) = ((max d d' : Nat) : Int) from rfl)
      refine (deep_const HT7.out _ HNB.out).mono ?_
      rintro e w10 ⟨rfl, hc10⟩
      rw [HDb.out]
      have HTa2 := Lib.hid (HTa.out.keep hc10)
      have HTb2 := Lib.hid (HTb.out.keep hc10)
      have HC10 := Lib.hid (HCk.out.new hc10)
      clear hc10 HTa HTb HCk
      go_wp2_with fail
      refine (deep_const HTa2.out _ HNN.out).mono ?_
      rintro e w11 ⟨rfl, hc11⟩
      rw [HD.out]
      have HTb3 := Lib.hid (HTb2.out.keep hc11)
      have HC11 := Lib.hid (HC10.out.new hc11)
      clear hc11 HTb2 HC10
      go_wp2_with fail
      refine (deep_const HTb3.out _ HNN'.out).mono ?_
      rintro e w12 ⟨rfl, hc12⟩
      rw [HD'.out]
      have HC12 := Lib.hid (HC11.out.new hc12)
      clear hc12 HC11
      have hmx : max (d : Int) (d' : Int) = ((max d d' : Nat) : Int) := by omega
      generalize max d d' = dm at hmx ⊢
      go_wp2_with fail
      refine nknown_any.mono ?_
      rintro e w13 ⟨rfl, hc13⟩
      have HC13 := Lib.hid (HC12.out.new hc13)
      clear hc13
      go_wp2_with fail
      go_ret
      exact ⟨rfl, HC13.out⟩
end
end Go.Proofs.Ytafgpmempgoikaa
