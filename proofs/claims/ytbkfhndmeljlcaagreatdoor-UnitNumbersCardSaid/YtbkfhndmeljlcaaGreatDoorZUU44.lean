/-
  UU: RParse.
-/
import Derived.Test.YtbkfhndmeljlcaaGreatDoorZUU37
import Derived.Test.YtbkfhndmeljlcaaGreatDoorZUU38
import Derived.Test.YtbkfhndmeljlcaaGreatDoorZUU42
import Derived.Test.YtbkfhndmeljlcaaGreatDoorZUU43
namespace Go.Proofs.YtbkfhndmeljlcaaGreatDoor
open Go.RowKit
section
variable {w : World}
set_option maxHeartbeats 8000000 in
set_option maxRecDepth 100000 in
theorem rparse_any (l : List UInt8) (hl : l.length ≤ 1000000) : Calls Tryz.prog 55 #[.string (strOf l)] w (PsPost (rParse l) w) := by
  have hsz := strOf_len l
  obtain ⟨i0, hi0, hz0, hz1, hz2⟩ := info_parts info_fn3
  have HP0 := Lib.hid (show ∀ (r : Int) (wr : World), rParse l = (r, 0, 0, []) → Chg [] w wr → PsPost (rParse l) w (.returned (.tuple #[.agg #[.int .i64 0, .int .i64 0, .slice none 0 0], .int .i64 r])) wr from fun r wr h hc => by
    rw [h]
    exact ⟨_, rfl, World.ownsRow_nil _ _ _ _, by simp, by simp, hc⟩)
  have HP1 := Lib.hid (show ∀ (p m : Int) (fs : List FnV) (v : Value) (wr : World), rParse l = (0, p, m, fs) → wr.ownsRow w.heap.size 58 3 v fs.length (fnCs fs) → fs.length ≤ 1000 → (∀ f ∈ fs, okF f) → Chg [] w wr → PsPost (rParse l) w (.returned (.tuple #[.agg #[.int .i64 p, .int .i64 m, v], .int .i64 0])) wr from fun p m fs v wr h h1 h2 h3 h4 => by
    rw [h]
    exact ⟨v, rfl, h1, h2, h3, h4⟩)
  generalize PsPost (rParse l) w = PO at HP0 HP1 ⊢
  by_cases h2 : 2048 < l.length
  · have HRP := Lib.hid (show rParse l = (3, 0, 0, []) from by unfold rParse; rw [if_pos h2])
    have h2I : (2048 : Int) < ((strOf l).size : Int) := by omega
    generalize strOf l = S at *
    clear hl h2 hsz
    go_enter Tryz.func55, Tryz.ntmps55
    go_upto_region 1 with fail
    have hN := Whole.new w 24 [.int .i64 0, .int .i64 0, .slice none 0 0]
    have hal := (Chg.refl [] w).alloc (.cells #[.int .i64 0, .int .i64 0, .slice none 0 0] 24)
    obtain ⟨g, hg⟩ : ∃ g, g = w.heap.size := ⟨_, rfl⟩
    have hw1s : (w.alloc (.cells #[.int .i64 0, .int .i64 0, .slice none 0 0] 24)).heap.size = g + 1 := by rw [hg]; simp
    rw [← hg] at hN ⊢
    have HG := Lib.hid hN
    have HW1 := Lib.hid hal
    have HGS := Lib.hid hg
    have HGZ := Lib.hid hw1s
    have hnl : ¬ g < w.heap.size := by omega
    generalize w.alloc (.cells #[.int .i64 0, .int .i64 0, .slice none 0 0] 24) = w1 at HG HW1 HGZ ⊢
    clear hN hal hg hw1s
    have z0 := HG.out.cell 0
    have z1 := HG.out.cell 1
    have z2 := HG.out.cell 2
    have f0 := HG.out.frozen 0
    have f1 := HG.out.frozen 1
    have f2 := HG.out.frozen 2
    go_wp2_with fail
    have HCF := ((HW1.out.setCell (p := ⟨g, 0, none⟩) (fun h => absurd h hnl) (.int .i64 0)).setCell (p := ⟨g, 1, none⟩) (fun h => absurd h hnl) (.int .i64 0)).setCell (p := ⟨g, 2, none⟩) (fun h => absurd h hnl) (.slice none 0 0)
    have HSS := ((HG.out.set_ 0 (.int .i64 0)).set_ 1 (.int .i64 0)).set_ 2 (.slice none 0 0)
    exact bodyPost_ret_by (results_row_tmp (p := 2) (u := 3) (ty := 24) rfl _ _ g 24 [.int .i64 0, .int .i64 0, .slice none 0 0] _ rfl HSS Tryz.underlying24 (by kernel_rfl)) rfl (HP0.out 3 _ HRP.out HCF)
  · have h2I : ¬ (2048 : Int) < ((strOf l).size : Int) := by omega
    have HRP := Lib.hid (show rParse l = (match parseP l with | none => (12, 0, 0, []) | some (p, m, l') => if rRight p m l' = 0 then (if (rText p m l').1 = l then (0, (p : Int), (m : Int), l') else (12, 0, 0, [])) else (rRight p m l', 0, 0, [])) from by
      unfold rParse
      rw [if_neg h2]
      cases parseP l with
      | none => rfl
      | some q => rfl)
    have HL := Lib.hid (fun (W : World) => rlines_any (w := W) l (by omega))
    have hsr := split_rest l []
    by_cases hrest : (splitL l []).2 = []
    · rw [decide_eq_true hrest] at HL
      unfold LinesPost at HL
      cases hLs : (splitL l []).1 with
      | nil =>
        rw [hLs] at HL
        have HNO := Lib.hid (show rParse l = (12, 0, 0, []) from by
          rw [HRP.out, show parseP l = none from by unfold parseP; rw [hLs]])
        generalize strOf l = S at *
        clear hl h2 hsz hLs hsr hrest HRP
        go_enter Tryz.func55, Tryz.ntmps55
        go_upto_region 1 with fail
        have hN := Whole.new w 24 [.int .i64 0, .int .i64 0, .slice none 0 0]
        have hal := (Chg.refl [] w).alloc (.cells #[.int .i64 0, .int .i64 0, .slice none 0 0] 24)
        obtain ⟨g, hg⟩ : ∃ g, g = w.heap.size := ⟨_, rfl⟩
        have hw1s : (w.alloc (.cells #[.int .i64 0, .int .i64 0, .slice none 0 0] 24)).heap.size = g + 1 := by rw [hg]; simp
        rw [← hg] at hN ⊢
        have HG := Lib.hid hN
        have HW1 := Lib.hid hal
        have HGS := Lib.hid hg
        have HGZ := Lib.hid hw1s
        have hnl : ¬ g < w.heap.size := by omega
        generalize w.alloc (.cells #[.int .i64 0, .int .i64 0, .slice none 0 0] 24) = w1 at HG HW1 HGZ ⊢
        clear hN hal hg hw1s
        go_wp2_with (go_at_call 84
                     refine (HL.out _).mono ?_
                     rintro e w2 ⟨v2, rfl, ho2, hc2⟩
                     obtain ⟨A2, c2, rfl, _⟩ := rown_slice (n := 0) ho2
                     have HG2 := Lib.hid (HG.out.keep hc2)
                     have HW2 := Lib.hid (HW1.out.trans hc2)
                     have z0 := HG2.out.cell 0
                     have z1 := HG2.out.cell 1
                     have z2 := HG2.out.cell 2
                     have f0 := HG2.out.frozen 0
                     have f1 := HG2.out.frozen 1
                     have f2 := HG2.out.frozen 2
                     clear ho2 hc2)
        have HCF := ((HW2.out.setCell (p := ⟨g, 0, none⟩) (fun h => absurd h hnl) (.int .i64 0)).setCell (p := ⟨g, 1, none⟩) (fun h => absurd h hnl) (.int .i64 0)).setCell (p := ⟨g, 2, none⟩) (fun h => absurd h hnl) (.slice none 0 0)
        have HSS := ((HG2.out.set_ 0 (.int .i64 0)).set_ 1 (.int .i64 0)).set_ 2 (.slice none 0 0)
        exact bodyPost_ret_by (results_row_tmp (p := 2) (u := 3) (ty := 24) rfl _ _ g 24 [.int .i64 0, .int .i64 0, .slice none 0 0] _ rfl HSS Tryz.underlying24 (by kernel_rfl)) rfl (HP0.out 12 _ HNO.out HCF)
      | cons a T =>
        rw [hLs] at HL
        have HPA := Lib.hid (show parseP l = (match headP a with | none => none | some (p, m) => (funcsP T).map fun fs => (p, m, fs)) from by
          unfold parseP
          rw [hLs]
          simp only
          rw [if_pos hrest]
          cases headP a with
          | none => rfl
          | some q => rfl)
        have hsum : a.length + (T.map List.length).sum + (T.length + 1) ≤ 2048 := by
          rw [hLs, hrest] at hsr
          simp only [List.length_nil, List.map_cons, List.sum_cons, List.length_cons] at hsr
          omega
        have HS := Lib.hid (fun (W : World) => rhead_any (w := W) a (by omega))
        unfold RhPost at HS
        have HSU := Lib.hid hsum
        clear hsr hrest hLs hl
        obtain ⟨S, hS⟩ : ∃ S, S = strOf l := ⟨_, rfl⟩
        rw [← hS] at HL hsz h2I ⊢
        have HSL := Lib.hid hS
        clear hS
        obtain ⟨SA, hSA⟩ : ∃ S, S = strOf a := ⟨_, rfl⟩
        have HSA := Lib.hid hSA
        rw [← hSA] at HS
        clear hSA
        obtain ⟨n, hn⟩ : ∃ n, n = (a :: T).length := ⟨_, rfl⟩
        rw [← hn] at HL
        have HN := Lib.hid (show n = T.length + 1 from hn)
        have hn0 : 0 < n := by rw [hn]; simp
        have hn1 : ¬ (n : Int) < 1 := by omega
        have hn2 : (0 : Int) < (n : Int) := by omega
        clear hn hsz h2
        go_enter Tryz.func55, Tryz.ntmps55
        go_upto_region 1 with fail
        have hN := Whole.new w 24 [.int .i64 0, .int .i64 0, .slice none 0 0]
        have hal := (Chg.refl [] w).alloc (.cells #[.int .i64 0, .int .i64 0, .slice none 0 0] 24)
        obtain ⟨g, hg⟩ : ∃ g, g = w.heap.size := ⟨_, rfl⟩
        have hw1s : (w.alloc (.cells #[.int .i64 0, .int .i64 0, .slice none 0 0] 24)).heap.size = g + 1 := by rw [hg]; simp
        rw [← hg] at hN ⊢
        have HG := Lib.hid hN
        have HW1 := Lib.hid hal
        have HGS := Lib.hid hg
        have HGZ := Lib.hid hw1s
        have hnl : ¬ g < w.heap.size := by omega
        generalize w.alloc (.cells #[.int .i64 0, .int .i64 0, .slice none 0 0] 24) = w1 at HG HW1 HGZ ⊢
        clear hN hal hg hw1s
        go_upto_region 7 with (go_at_call 84
                               refine (HL.out _).mono ?_
                               rintro e w2 ⟨v2, rfl, ho2, hc2⟩
                               obtain ⟨gl, cl, rfl, hcl⟩ := row_str ho2 hn0
                               have HG2 := Lib.hid (HG.out.keep hc2)
                               have HO2 := Lib.hid ho2
                               have HW2 := Lib.hid (HW1.out.trans hc2)
                               clear ho2 hc2)
        have hN := Whole.new w2 24 [.int .i64 0, .int .i64 0, .slice none 0 0]
        have hal := (Chg.refl [] w2).alloc (.cells #[.int .i64 0, .int .i64 0, .slice none 0 0] 24)
        have HU3 := Lib.hid hN
        have HG3 := Lib.hid (HG2.out.keep hal)
        have HO3 := Lib.hid (own_keep HO2.out hal)
        have HW3 := Lib.hid (HW2.out.trans hal)
        have hgu : g < w2.heap.size := HG2.out.lt
        have hglu : gl < w2.heap.size := (HO2.out.lt gl rfl).2
        clear hN hal
        generalize w2.heap.size = gu at HU3 hgu hglu ⊢
        generalize w2.alloc (.cells #[.int .i64 0, .int .i64 0, .slice none 0 0] 24) = w3 at HG3 HW3 HU3 HO3 ⊢
        have y0 := str_at HO3.out (j := 0) (s := a) rfl
        rw [← HSA.out] at y0
        go_upto_region 8 with (go_at_call 85
                               refine (HS.out _).mono ?_
                               rintro e w4 ⟨x, y, b, rfl, hb1, hb0, hc4⟩
                               have HB1 := Lib.hid hb1
                               have HB0 := Lib.hid hb0
                               have HG4 := Lib.hid (HG3.out.keep hc4)
                               have HU4 := Lib.hid (HU3.out.keep hc4)
                               have HO4 := Lib.hid (own_keep HO3.out hc4)
                               have HW4 := Lib.hid (HW3.out.trans hc4)
                               have u0 := HU4.out.cell 0
                               have u1 := HU4.out.cell 1
                               have q0 := HU4.out.frozen 0
                               have q1 := HU4.out.frozen 1
                               clear hc4 hb1 hb0)
        have hgw : w.heap.size ≤ gu := by have := HGS.out; omega
        have hne : g ≠ gu := by omega
        have hnlu : ¬ gu < w.heap.size := by omega
        have HU5 := Lib.hid (show Whole ((w4.setCell ⟨gu, 0, none⟩ (.int .i64 (x : Int))).setCell ⟨gu, 1, none⟩ (.int .i64 (y : Int))) gu 24 [.int .i64 (x : Int), .int .i64 (y : Int), .slice none 0 0] from by have := (HU4.out.set_ 0 (.int .i64 (x : Int))).set_ 1 (.int .i64 (y : Int)); simpa using this)
        have HG5 := Lib.hid ((HG4.out.far (p := ⟨gu, 0, none⟩) hne (.int .i64 (x : Int))).far (p := ⟨gu, 1, none⟩) hne (.int .i64 (y : Int)))
        have HO5 := Lib.hid (rown_far (p := ⟨gu, 1, none⟩) (u := .int .i64 (y : Int)) (rown_far (p := ⟨gu, 0, none⟩) (u := .int .i64 (x : Int)) HO4.out (fun hb => by injection hb with hb; simp only at hb; omega)) (fun hb => by injection hb with hb; simp only at hb; omega))
        have HW5 := Lib.hid ((HW4.out.setCell (p := ⟨gu, 0, none⟩) (fun h => absurd h hnlu) (.int .i64 (x : Int))).setCell (p := ⟨gu, 1, none⟩) (fun h => absurd h hnlu) (.int .i64 (y : Int)))
        clear u0 u1 q0 q1 y0
        generalize (w4.setCell ⟨gu, 0, none⟩ (.int .i64 (x : Int))).setCell ⟨gu, 1, none⟩ (.int .i64 (y : Int)) = w5 at HU5 HG5 HO5 HW5 ⊢
        cases b with
        | false =>
          have HNO := Lib.hid (show rParse l = (12, 0, 0, []) from by
            rw [HRP.out, HPA.out, HB0.out rfl])
          have z0 := HG5.out.cell 0
          have z1 := HG5.out.cell 1
          have z2 := HG5.out.cell 2
          have f0 := HG5.out.frozen 0
          have f1 := HG5.out.frozen 1
          have f2 := HG5.out.frozen 2
          go_wp2_with fail
          have HCF := ((HW5.out.setCell (p := ⟨g, 0, none⟩) (fun h => absurd h hnl) (.int .i64 0)).setCell (p := ⟨g, 1, none⟩) (fun h => absurd h hnl) (.int .i64 0)).setCell (p := ⟨g, 2, none⟩) (fun h => absurd h hnl) (.slice none 0 0)
          have HSS := ((HG5.out.set_ 0 (.int .i64 0)).set_ 1 (.int .i64 0)).set_ 2 (.slice none 0 0)
          exact bodyPost_ret_by (results_row_tmp (p := 2) (u := 3) (ty := 24) rfl _ _ g 24 [.int .i64 0, .int .i64 0, .slice none 0 0] _ rfl HSS Tryz.underlying24 (by kernel_rfl)) rfl (HP0.out 12 _ HNO.out HCF)
        | true =>
          have HPB := Lib.hid (show parseP l = (funcsP T).map fun fs => (x, y, fs) from by rw [HPA.out, HB1.out rfl])
          clear HPA HB1 HB0
          go_wp2_with fail
          go_loopw [7] (fun i wr => ∃ (k : Nat) (fs : List FnV) (A' : Option Addr) (c' : Nat), i = .int .i64 ((k + 1 : Nat) : Int) ∧ k + 1 ≤ n ∧ Hid (fs.length = k) ∧ Hid (Whole wr g 24 [.int .i64 0, .int .i64 0, .slice none 0 0]) ∧ Hid (Whole wr gu 24 [.int .i64 (x : Int), .int .i64 (y : Int), .slice A' k c']) ∧ Hid (wr.ownsRow (gu + 1) 58 3 (.slice A' k c') k (fnCs fs)) ∧ Hid (wr.ownsRow w1.heap.size 9 1 (.slice (some ⟨gl, 0, none⟩) n cl) n (strs (a :: T))) ∧ Hid ((funcsP (T.drop k)).map (fs ++ ·) = funcsP T) ∧ Hid (3 * k + ((T.drop k).map List.length).sum + (T.drop k).length ≤ 2048) ∧ Hid (∀ f ∈ fs, okF f) ∧ Hid (Chg [] w wr) ∧ Hid (gu + 1 ≤ wr.heap.size)) (fun i _ => n - (intOf i).toNat)
          case atStart => exact ⟨0, [], none, 0, rfl, by omega, Lib.hid rfl, HG5, HU5, Lib.hid (World.ownsRow_nil _ _ _ _), HO5, Lib.hid (by rw [List.drop_zero]; cases funcsP T <;> rfl), Lib.hid (by have := HSU.out; rw [List.drop_zero]; omega), Lib.hid (by simp), HW5, Lib.hid HU5.out.lt⟩
          case round =>
            obtain ⟨k, fs, A', c', rfl, hk, HFL, HGr, HUr, HOF, HOL, HFP, HSM, HFA, HCr, HZr⟩ := hrel
            by_cases hkn : k + 1 < n
            · have hkI : ((k + 1 : Nat) : Int) < (n : Int) := by omega
              obtain ⟨s, hs⟩ : ∃ s, T[k]? = some s := ⟨T[k]'(by have := HN.out; omega), by simp⟩
              have yk0 := str_at HOL.out (j := k + 1) (s := s) (by rw [List.getElem?_cons_succ]; exact hs)
              have hdr : T.drop k = s :: T.drop (k + 1) := List.drop_eq_getElem?_toList_append.trans (by rw [hs]; rfl)
              have hsl : s.length ≤ 2048 := by
                have := HSM.out
                rw [hdr, List.map_cons, List.sum_cons] at this
                omega
              have HFU := Lib.hid (fun (W : World) => rfunction_any (w := W) s (by omega))
              unfold FuncPost funcV at HFU
              obtain ⟨SK, hSK⟩ : ∃ S, S = strOf s := ⟨_, rfl⟩
              rw [← hSK] at yk0 HFU
              have HDR := Lib.hid hdr
              have HSL := Lib.hid hsl
              clear hs hdr hSK hsl
              cases hf : funcP s with
              | none =>
                rw [hf] at HFU
                simp only at HFU
                have HNO := Lib.hid (show rParse l = (12, 0, 0, []) from by
                  have h1 : funcsP T = none := by rw [← HFP.out, HDR.out, funcsP, hf]; rfl
                  rw [HRP.out, HPB.out, h1]; rfl)
                go_upto_region 14 with (go_at_call 86
                                        refine (HFU.out _).mono ?_
                                        rintro e w7 ⟨rfl, hc7⟩
                                        have HG7 := Lib.hid (HGr.out.keep hc7)
                                        have HC7 := Lib.hid (HCr.out.trans hc7)
                                        clear hc7)
                have HG8 := Lib.hid (HG7.out.keep ((Chg.refl [] w7).alloc (.cells #[.int .i32 0, .int .i64 0, .string ⟨#[]⟩] 58)))
                have HC8 := Lib.hid (HC7.out.alloc (.cells #[.int .i32 0, .int .i64 0, .string ⟨#[]⟩] 58))
                generalize w7.heap.size = gx
                generalize w7.alloc (.cells #[.int .i32 0, .int .i64 0, .string ⟨#[]⟩] 58) = w8 at HG8 HC8 ⊢
                have z0 := HG8.out.cell 0
                have z1 := HG8.out.cell 1
                have z2 := HG8.out.cell 2
                have f0 := HG8.out.frozen 0
                have f1 := HG8.out.frozen 1
                have f2 := HG8.out.frozen 2
                go_wp2_with fail
                have HCF := ((HC8.out.setCell (p := ⟨g, 0, none⟩) (fun h => absurd h hnl) (.int .i64 0)).setCell (p := ⟨g, 1, none⟩) (fun h => absurd h hnl) (.int .i64 0)).setCell (p := ⟨g, 2, none⟩) (fun h => absurd h hnl) (.slice none 0 0)
                have HSS := ((HG8.out.set_ 0 (.int .i64 0)).set_ 1 (.int .i64 0)).set_ 2 (.slice none 0 0)
                exact bodyPost_ret_by (results_row_tmp (p := 2) (u := 3) (ty := 24) rfl _ _ g 24 [.int .i64 0, .int .i64 0, .slice none 0 0] _ rfl HSS Tryz.underlying24 (by kernel_rfl)) rfl (HP0.out 12 _ HNO.out HCF)
              | some f =>
                rw [hf] at HFU
                simp only at HFU
                have hok := funcP_ok hf
                obtain ⟨fn, fa, fc⟩ := f
                have HFD := Lib.hid (show (funcsP (T.drop (k + 1))).map ((fs ++ [⟨fn, fa, fc⟩]) ++ ·) = funcsP T from by
                  rw [← HFP.out, HDR.out, funcsP, hf]
                  simp only
                  cases funcsP (T.drop (k + 1)) with
                  | none => rfl
                  | some r => simp)
                have HSD := Lib.hid (show 3 * (k + 1) + ((T.drop (k + 1)).map List.length).sum + (T.drop (k + 1)).length ≤ 2048 from by
                  have := HSM.out
                  rw [HDR.out, List.map_cons, List.sum_cons, List.length_cons] at this
                  omega)
                have HFB := Lib.hid (show ∀ f ∈ fs ++ [⟨fn, fa, fc⟩], okF f from fun f hf => by
                  rcases List.mem_append.1 hf with hf | hf
                  · exact HFA.out f hf
                  · rw [List.mem_singleton] at hf
                    subst hf
                    have := HSL.out
                    unfold okF
                    simp only at hok ⊢
                    omega)
                have hk682 : 3 * (k + 1) ≤ 2048 := by have := HSD.out; omega
                clear hf hok
                unfold fnC at HFU
                simp only at HFU
                go_upto_region 14 with (go_at_call 86
                                        refine (HFU.out _).mono ?_
                                        rintro e w7 ⟨rfl, hc7⟩
                                        have HG7 := Lib.hid (HGr.out.keep hc7)
                                        have HU7 := Lib.hid (HUr.out.keep hc7)
                                        have HF7 := Lib.hid (rown_keep HOF.out hc7)
                                        have HL7 := Lib.hid (own_keep HOL.out hc7)
                                        have HC7 := Lib.hid (HCr.out.trans hc7)
                                        have HZ7 := Lib.hid (Nat.le_trans HZr.out hc7.size)
                                        clear hc7)
                have hN := Whole.new w7 58 [.int .i32 fn, .int .i64 fa, .string fc]
                have hal := (Chg.refl [] w7).alloc (.cells #[.int .i32 fn, .int .i64 fa, .string fc] 58)
                have HX8 := Lib.hid hN
                have HG8 := Lib.hid (HG7.out.keep hal)
                have HU8 := Lib.hid (HU7.out.keep hal)
                have HF8 := Lib.hid (rown_keep HF7.out hal)
                have HL8 := Lib.hid (own_keep HL7.out hal)
                have HC8 := Lib.hid (HC7.out.trans hal)
                have HZ8 := Lib.hid (Nat.le_trans HZ7.out hal.size)
                clear hN hal yk0
                generalize w7.heap.size = gx at HX8 ⊢
                generalize w7.alloc (.cells #[.int .i32 fn, .int .i64 fa, .string fc] 58) = w8 at HX8 HG8 HU8 HF8 HL8 HC8 HZ8 ⊢
                have x0 := HX8.out.cell 0
                have x1 := HX8.out.cell 1
                have x2 := HX8.out.cell 2
                have u2 := HU8.out.cell 2
                have HAL := Lib.hid ((Chg.refl [] w8).alloc (.cells #[.int .i32 fn, .int .i64 fa, .string fc] 58))
                have HOA := Lib.hid (rown_keep HF8.out HAL.out)
                go_wp2_with (at_builtin
                             refine wpList_append_own _ rfl (.tmp 61) (.tmp 63) _ rfl (gu + 1) 58 i0 _ 3 32 Tryz.underlying22 hi0 hz0 hz1 hz2 rfl (by decide) (.slice A' k c') k (fnCs fs) rfl HOA.out ⟨w8.heap.size, 0, none⟩ 1 1 [.int .i32 fn, .int .i64 fa, .string fc] rfl rfl (cells_page _ _ _) (by simp [Value.oneCell']) (by simp only [maxLen]; omega) (by omega) (by have := HZ8.out; simp; omega) ?_
                             intro v' w11 ho11 hg11 _
                             obtain ⟨A11, c11, rfl, _⟩ := rown_slice ho11
                             have HO11 := Lib.hid ho11
                             have HU11 := Lib.hid (whole_grown (HU8.out.keep HAL.out) HOA.out (by decide) hg11)
                             have HG11 := Lib.hid (whole_grown (HG8.out.keep HAL.out) HOA.out (by decide) hg11)
                             have HL11 := Lib.hid (rown_grown (own_keep HL8.out HAL.out) HOA.out (by decide) hg11)
                             have HC11 := Lib.hid (chg_grown2 (HC8.out.trans HAL.out) hg11 (fun g hg => by have := (HOA.out.lt g hg).1; omega))
                             have HZ11 := Lib.hid (Nat.le_trans HZ8.out (Nat.le_trans HAL.out.size hg11.size))
                             have e2 := HU11.out.cell 2
                             have q2 := HU11.out.frozen 2
                             clear ho11 hg11)
                have HU12 := Lib.hid (show Whole (w11.setCell ⟨gu, 2, none⟩ (.slice A11 (k + 1) c11)) gu 24 [.int .i64 (x : Int), .int .i64 (y : Int), .slice A11 (k + 1) c11] from by have := HU11.out.set_ 2 (.slice A11 (k + 1) c11); simpa using this)
                have HO12 := Lib.hid (show (w11.setCell ⟨gu, 2, none⟩ (.slice A11 (k + 1) c11)).ownsRow (gu + 1) 58 3 (.slice A11 (k + 1) c11) (k + 1) (fnCs (fs ++ [⟨fn, fa, fc⟩])) from by
                  rw [fnCs_app]
                  exact rown_far (p := ⟨gu, 2, none⟩) (u := .slice A11 (k + 1) c11) HO11.out (fun hb => by have := (HO11.out.lt _ hb).1; simp only at this; omega))
                have HG12 := Lib.hid (HG11.out.far (p := ⟨gu, 2, none⟩) hne (.slice A11 (k + 1) c11))
                have HL12 := Lib.hid (rown_far (p := ⟨gu, 2, none⟩) (u := .slice A11 (k + 1) c11) HL11.out (fun hb => by injection hb with hb; simp only at hb; omega))
                have HC12 := Lib.hid (HC11.out.setCell (p := ⟨gu, 2, none⟩) (fun hh => by simp only at hh; omega) (.slice A11 (k + 1) c11))
                have HZ12 := Lib.hid (show gu + 1 ≤ (w11.setCell ⟨gu, 2, none⟩ (.slice A11 (k + 1) c11)).heap.size from by rw [size_set]; exact HZ11.out)
                go_roundw
                case rel => exact ⟨k + 1, fs ++ [⟨fn, fa, fc⟩], A11, c11, by go_num, by omega, Lib.hid (by rw [List.length_append, HFL.out]; rfl), HG12, HU12, HO12, HL12, HFD, HSD, HFB, HC12, HZ12⟩
                case measure => simp [intOf]; omega
            · have hkI : ¬ ((k + 1 : Nat) : Int) < (n : Int) := by omega
              have HFE := Lib.hid (show funcsP T = some fs from by
                have := HFP.out
                rw [List.drop_eq_nil_of_le (by have := HN.out; omega), funcsP] at this
                rw [← this]
                simp)
              have hk682 : 3 * k ≤ 2048 := by have := HSM.out; omega
              have hsm : ∀ f ∈ fs, f.code.size ≤ 9223372036854775807 := fun f hf => by have := HFA.out f hf; unfold okF at this; omega
              obtain ⟨A9, c9, e9, hfr⟩ := Fnr.of_own (n := k) (l := fs) HOF.out (by omega) (fun f hf => by have := HFA.out f hf; unfold okF at this; omega)
              injection e9 with e1 _ e2
              subst e1; subst e2
              have HRQ := Lib.hid (show rParse l = if rRight (x : Int) (y : Int) fs = 0 then (if (rText (x : Int) (y : Int) fs).1 = l then (0, (x : Int), (y : Int), fs) else (12, 0, 0, [])) else (rRight (x : Int) (y : Int) fs, 0, 0, []) from by
                rw [HRP.out, HPB.out, HFE.out]
                rfl)
              have HRI := Lib.hid (rright_any (pages := (x : Int)) (most := (y : Int)) hfr hsm)
              have HTX := Lib.hid (fun (W : World) (h : Chg [] wr W) => rutext_any (pages := (x : Int)) (most := (y : Int)) (hfr.keep h) hsm)
              unfold RightPost at HRI
              unfold UTextPost at HTX
              unfold unitV at HRI HTX
              generalize rRight (x : Int) (y : Int) fs = R at HRQ HRI
              generalize rText (x : Int) (y : Int) fs = TX at HRQ HTX
              obtain ⟨T1, E1⟩ := TX
              simp only at HRQ HTX
              have u0 := HUr.out.cell 0
              have u1 := HUr.out.cell 1
              have u2 := HUr.out.cell 2
              clear hsm hfr HRP HPB HFE
              by_cases hR : R = 0
              · subst hR
                rw [if_pos rfl] at HRQ
                by_cases hT : T1 = l
                · rw [if_pos hT] at HRQ
                  subst hT
                  rw [← HSL.out] at HTX
                  go_upto_region 23 with (first
                    | (go_at_call 52
                       refine HRI.out.mono ?_
                       rintro e w8 ⟨rfl, hc8⟩
                       have HK8 := Lib.hid hc8
                       have HU8 := Lib.hid (HUr.out.keep hc8)
                       have y0 := HU8.out.cell 0
                       have y1 := HU8.out.cell 1
                       have y2 := HU8.out.cell 2
                       clear hc8)
                    | (go_at_call 26
                       refine (HTX.out _ HK8.out).mono ?_
                       rintro e w9 ⟨rfl, hc9⟩
                       have HK9 := Lib.hid (HK8.out.trans hc9)
                       clear hc9))
                  clear u0 u1 u2 y0 y1 y2
                  have HG9 := Lib.hid (HGr.out.keep HK9.out)
                  have HU9 := Lib.hid (HUr.out.keep HK9.out)
                  have HO9 := Lib.hid (rown_keep HOF.out HK9.out)
                  have HC9 := Lib.hid (HCr.out.trans HK9.out)
                  have u0 := HU9.out.cell 0
                  have u1 := HU9.out.cell 1
                  have u2 := HU9.out.cell 2
                  have z0 := HG9.out.cell 0
                  have z1 := HG9.out.cell 1
                  have z2 := HG9.out.cell 2
                  have f0 := HG9.out.frozen 0
                  have f1 := HG9.out.frozen 1
                  have f2 := HG9.out.frozen 2
                  have hfar : ∀ (W : World) (j : Nat) (u : Value), W.ownsRow (gu + 1) 58 3 (.slice A' k c') k (fnCs fs) → (W.setCell ⟨g, j, none⟩ u).ownsRow (gu + 1) 58 3 (.slice A' k c') k (fnCs fs) := fun W j u h => rown_far (p := ⟨g, j, none⟩) (u := u) h (fun hb => by have := (h.lt _ hb).1; simp only at this; omega)
                  have HOZ := Lib.hid (own_more_n (hfar _ 2 (.slice A' k c') (hfar _ 1 (.int .i64 (y : Int)) (hfar _ 0 (.int .i64 (x : Int)) HO9.out))) (show w.heap.size ≤ gu + 1 by omega))
                  go_wp2_with fail
                  have HCF := ((HC9.out.setCell (p := ⟨g, 0, none⟩) (fun h => absurd h hnl) (.int .i64 (x : Int))).setCell (p := ⟨g, 1, none⟩) (fun h => absurd h hnl) (.int .i64 (y : Int))).setCell (p := ⟨g, 2, none⟩) (fun h => absurd h hnl) (.slice A' k c')
                  have HSS := ((HG9.out.set_ 0 (.int .i64 (x : Int))).set_ 1 (.int .i64 (y : Int))).set_ 2 (.slice A' k c')
                  exact bodyPost_ret_by (results_row_tmp (p := 2) (u := 3) (ty := 24) rfl _ _ g 24 [.int .i64 (x : Int), .int .i64 (y : Int), .slice A' k c'] _ rfl HSS Tryz.underlying24 (by kernel_rfl)) rfl (HP1.out _ _ fs _ _ HRQ.out (by rw [HFL.out]; exact HOZ.out) (by rw [HFL.out]; omega) HFA.out HCF)
                · rw [if_neg hT] at HRQ
                  have hne2 := str_ne hT
                  rw [← HSL.out] at hne2
                  generalize strOf T1 = S1 at hne2 HTX
                  clear hT
                  go_upto_region 22 with (first
                    | (go_at_call 52
                       refine HRI.out.mono ?_
                       rintro e w8 ⟨rfl, hc8⟩
                       have HK8 := Lib.hid hc8
                       have HU8 := Lib.hid (HUr.out.keep hc8)
                       have y0 := HU8.out.cell 0
                       have y1 := HU8.out.cell 1
                       have y2 := HU8.out.cell 2
                       clear hc8)
                    | (go_at_call 26
                       refine (HTX.out _ HK8.out).mono ?_
                       rintro e w9 ⟨rfl, hc9⟩
                       have HK9 := Lib.hid (HK8.out.trans hc9)
                       clear hc9))
                  clear u0 u1 u2 y0 y1 y2
                  have HG9 := Lib.hid (HGr.out.keep HK9.out)
                  have HU9 := Lib.hid (HUr.out.keep HK9.out)
                  have HO9 := Lib.hid (rown_keep HOF.out HK9.out)
                  have HC9 := Lib.hid (HCr.out.trans HK9.out)
                  have u0 := HU9.out.cell 0
                  have u1 := HU9.out.cell 1
                  have u2 := HU9.out.cell 2
                  have z0 := HG9.out.cell 0
                  have z1 := HG9.out.cell 1
                  have z2 := HG9.out.cell 2
                  have f0 := HG9.out.frozen 0
                  have f1 := HG9.out.frozen 1
                  have f2 := HG9.out.frozen 2
                  go_wp2_with fail
                  have HCF := ((HC9.out.setCell (p := ⟨g, 0, none⟩) (fun h => absurd h hnl) (.int .i64 0)).setCell (p := ⟨g, 1, none⟩) (fun h => absurd h hnl) (.int .i64 0)).setCell (p := ⟨g, 2, none⟩) (fun h => absurd h hnl) (.slice none 0 0)
                  have HSS := ((HG9.out.set_ 0 (.int .i64 0)).set_ 1 (.int .i64 0)).set_ 2 (.slice none 0 0)
                  exact bodyPost_ret_by (results_row_tmp (p := 2) (u := 3) (ty := 24) rfl _ _ g 24 [.int .i64 0, .int .i64 0, .slice none 0 0] _ rfl HSS Tryz.underlying24 (by kernel_rfl)) rfl (HP0.out 12 _ HRQ.out HCF)
              · rw [if_neg hR] at HRQ
                have hd : (R == 0) = false := by simpa using hR
                clear hR HTX
                go_upto_region 19 with (go_at_call 52
                                        refine HRI.out.mono ?_
                                        rintro e w8 ⟨rfl, hc8⟩
                                        have HG8 := Lib.hid (HGr.out.keep hc8)
                                        have HC8 := Lib.hid (HCr.out.trans hc8)
                                        clear hc8)
                have z0 := HG8.out.cell 0
                have z1 := HG8.out.cell 1
                have z2 := HG8.out.cell 2
                have f0 := HG8.out.frozen 0
                have f1 := HG8.out.frozen 1
                have f2 := HG8.out.frozen 2
                go_wp2_with fail
                have HCF := ((HC8.out.setCell (p := ⟨g, 0, none⟩) (fun h => absurd h hnl) (.int .i64 0)).setCell (p := ⟨g, 1, none⟩) (fun h => absurd h hnl) (.int .i64 0)).setCell (p := ⟨g, 2, none⟩) (fun h => absurd h hnl) (.slice none 0 0)
                have HSS := ((HG8.out.set_ 0 (.int .i64 0)).set_ 1 (.int .i64 0)).set_ 2 (.slice none 0 0)
                exact bodyPost_ret_by (results_row_tmp (p := 2) (u := 3) (ty := 24) rfl _ _ g 24 [.int .i64 0, .int .i64 0, .slice none 0 0] _ rfl HSS Tryz.underlying24 (by kernel_rfl)) rfl (HP0.out R _ HRQ.out HCF)
    · rw [decide_eq_false hrest] at HL
      unfold LinesPost at HL
      have HNO := Lib.hid (show rParse l = (12, 0, 0, []) from by
        rw [HRP.out, show parseP l = none from by
          unfold parseP
          cases (splitL l []).1 with
          | nil => rfl
          | cons a T => simp only; rw [if_neg hrest]])
      generalize (splitL l []).1 = L0 at HL
      generalize strOf l = S at *
      clear hl h2 hsz hsr hrest HRP
      go_enter Tryz.func55, Tryz.ntmps55
      go_upto_region 1 with fail
      have hN := Whole.new w 24 [.int .i64 0, .int .i64 0, .slice none 0 0]
      have hal := (Chg.refl [] w).alloc (.cells #[.int .i64 0, .int .i64 0, .slice none 0 0] 24)
      obtain ⟨g, hg⟩ : ∃ g, g = w.heap.size := ⟨_, rfl⟩
      have hw1s : (w.alloc (.cells #[.int .i64 0, .int .i64 0, .slice none 0 0] 24)).heap.size = g + 1 := by rw [hg]; simp
      rw [← hg] at hN ⊢
      have HG := Lib.hid hN
      have HW1 := Lib.hid hal
      have HGS := Lib.hid hg
      have HGZ := Lib.hid hw1s
      have hnl : ¬ g < w.heap.size := by omega
      generalize w.alloc (.cells #[.int .i64 0, .int .i64 0, .slice none 0 0] 24) = w1 at HG HW1 HGZ ⊢
      clear hN hal hg hw1s
      go_wp2_with (go_at_call 84
                   refine (HL.out _).mono ?_
                   rintro e w2 ⟨v2, rfl, ho2, hc2⟩
                   have HG2 := Lib.hid (HG.out.keep hc2)
                   have HW2 := Lib.hid (HW1.out.trans hc2)
                   have z0 := HG2.out.cell 0
                   have z1 := HG2.out.cell 1
                   have z2 := HG2.out.cell 2
                   have f0 := HG2.out.frozen 0
                   have f1 := HG2.out.frozen 1
                   have f2 := HG2.out.frozen 2
                   clear ho2 hc2)
      have HCF := ((HW2.out.setCell (p := ⟨g, 0, none⟩) (fun h => absurd h hnl) (.int .i64 0)).setCell (p := ⟨g, 1, none⟩) (fun h => absurd h hnl) (.int .i64 0)).setCell (p := ⟨g, 2, none⟩) (fun h => absurd h hnl) (.slice none 0 0)
      have HSS := ((HG2.out.set_ 0 (.int .i64 0)).set_ 1 (.int .i64 0)).set_ 2 (.slice none 0 0)
      exact bodyPost_ret_by (results_row_tmp (p := 2) (u := 3) (ty := 24) rfl _ _ g 24 [.int .i64 0, .int .i64 0, .slice none 0 0] _ rfl HSS Tryz.underlying24 (by kernel_rfl)) rfl (HP0.out 12 _ HNO.out HCF)
end
end Go.Proofs.YtbkfhndmeljlcaaGreatDoor
