/-
  UU: LawUT, LawUN.
-/
import Derived.Test.YtbkfhndmeljlcaaGreatDoorZUU1
import Derived.Test.YtbkfhndmeljlcaaGreatDoorZUU3
import Derived.Test.YtbkfhndmeljlcaaGreatDoorZUU5
import Derived.Test.YtbkfhndmeljlcaaGreatDoorZUU45
import Derived.Test.YtbkfhndmeljlcaaGreatDoorZUU46
namespace Go.Proofs.YtbkfhndmeljlcaaGreatDoor
open Go.RowKit
theorem flow_drop_str {P : Program} {T : Turns} {w0 : World} {a0 : Act} {ops : List Oper} {Q : Exit → Act → World → Prop} {F : Said} {k : Nat} {rest : List Oper} {d : Option Tmp} {ty : TypeId} {pos : String} {af : Array Go.Edge} {g : Option (Nat × Bool)} {x y : Operand} {t : TypeId} {s : ByteArray} {n : Nat} (hT : T.Ok) (hx : Det a0 F x (.string s)) (hy : Det a0 F y (.int .i64 (n : Int))) (ht : P.underlying t = some .string) (hn : n ≤ s.size)
    (hg : guardIs ops F true ⟨d, .slice t x (some y) none none, ty, pos, af, g⟩) (h : Flow P T w0 a0 ops Q ((d, isV (.string (s.extract n s.size))) :: F) (k + 1) rest) :
    Flow P T w0 a0 ops Q F k (⟨d, .slice t x (some y) none none, ty, pos, af, g⟩ :: rest) := by
  refine flow2 (x := x) (y := y) (v := .string s) (u := .int .i64 (n : Int)) (r := .string (s.extract n s.size)) hT (by simp [Op.operands]) hx hy hg (fun ev W he e1 e2 => ?_) h
  unfold execOp
  simp only [Sem.run_bind, Sem.run_pure, e1]
  simp [ht, go_sem, e2]
  intro h; omega
theorem strOf_take (l : List UInt8) (k : Nat) : (strOf l).extract 0 k = strOf (l.take k) := by
  apply ByteArray.ext
  simp [strOf, ByteArray.extract, ByteArray.copySlice]
theorem strOf_drop (l : List UInt8) (k : Nat) : (strOf l).extract k (strOf l).size = strOf (l.drop k) := by
  apply ByteArray.ext
  simp [strOf, ByteArray.extract, ByteArray.copySlice, ByteArray.size]
  exact List.take_of_length_le (by simp)
theorem str_list (s : ByteArray) : ∃ l : List UInt8, s = strOf l ∧ l.length = s.size := ⟨s.data.toList, by cases s with | mk d => exact congrArg ByteArray.mk (Array.toArray_toList (xs := d)).symm, Array.length_toList⟩
theorem text_short (pg ms : Int) (l : List FnV) : (rText pg ms l).1.length ≤ 2048 := by
  rcases text_cases pg ms l with ⟨_, h⟩ | ⟨h, _, h2⟩
  · rw [h]; simp
  · rw [h]; exact h2
def tlU : List UInt8 := [117, 110, 105, 116, 32, 49, 32, 49, 10]
section
variable {w : World} {A : Option Addr} {n c : Nat} {TA : Option Addr} {tn tc : Nat} {ts : List TurnV} {RA : Option Addr} {rn rc : Nat} {rl : List FnV} {rp rm : Int}
set_option maxHeartbeats 16000000 in
set_option maxRecDepth 100000 in
theorem unitTells_any (HUN0 : ∀ W, Chg [] w W → Calls Tryz.prog 10 #[.slice A n c] W (UnitPost W)) (hT : Trn w TA tn ts) (htn : tn ≤ 9223372036854775807) (hR : Fnw w RA rn rc rl) (at_ : Int) (ha : -9223372036854775808 ≤ at_ ∧ at_ ≤ 9223372036854775807) (i0 x0 : ByteArray) (hi : i0.size ≤ 9223372036854775807) (hx : x0.size ≤ 9223372036854775807) (hP : PowB w.heap.size w) :
    Calls Tryz.prog 8 #[.slice A n c, .slice TA tn tc, .agg #[.int .i64 rp, .int .i64 rm, .slice RA rn rc], .int .i64 at_, .string i0, .string x0] w (BoolPost true w) := by
  have HP := Lib.hid hP
  have HT := Lib.hid hT
  have HR := Lib.hid hR
  have HUN := Lib.hid HUN0
  have HKN := Lib.hid (fun (W : World) (h : PowB W.heap.size W) => ul_known h)
  have HSM := Lib.hid (fun (W : World) (pg ms : Int) (A : Option Addr) (n c : Nat) (R : Int) (T : List UInt8) (E : Int) (h : UOk W pg ms A n c R T E) (hp : PowB W.heap.size W) => lsame_any h hp)
  have HRD := Lib.hid (fun (W : World) (l : List UInt8) (hl : l.length ≤ 1000000) (hp : PowB W.heap.size W) => lreads_any l hl hp)
  unfold BoolPost at HKN HSM HRD ⊢
  clear hP hT hR HUN0
  go_enter Tryz.func8, Tryz.ntmps8
  generalize hR9 : Code.region 9 _ true = R9
  have HR9 := Lib.hid hR9
  clear hR9
  go_upto_region 1 with fail
  have hN := Whole.new w 24 [.int .i64 rp, .int .i64 rm, .slice RA rn rc]
  have hal := (Chg.refl [] w).alloc (.cells #[.int .i64 rp, .int .i64 rm, .slice RA rn rc] 24)
  have HX1 := Lib.hid hN
  have HR1 := Lib.hid (HR.out.keep hal)
  have HT1 := Lib.hid (HT.out.keep hal)
  have HC1 := Lib.hid hal
  clear hN hal HR HT
  generalize w.heap.size = gx at HX1 ⊢
  generalize w.alloc (.cells #[.int .i64 rp, .int .i64 rm, .slice RA rn rc] 24) = w1 at HX1 HR1 HT1 HC1 ⊢
  go_upto_region 2 with (go_at_call 10
                         refine (HUN.out _ HC1.out).mono ?_
                         rintro e w2 ⟨pg, ms, v, fl, rfl, hp0, hp1, hm0, hm1, ho, hg, hfl0, hc2⟩
                         obtain ⟨FA, fc, rfl, hFr⟩ := Fnr.of_own ho (by have := hg.lo; omega) (fun f hf => by have := hg.args f hf; omega)
                         have HGD := Lib.hid hg
                         have HFA := Lib.hid (show 0 < fl.length → ∀ ad, FA = some ad → ad.block < w2.heap.size from fun h0 ad e => by
                           subst e
                           obtain ⟨_, _, e', _, _, hb⟩ := rown_slice ho
                           injection e' with e1 _ _
                           exact (hb ad e1.symm).2.2.2)
                         have HF2 := Lib.hid hFr
                         have HX2 := Lib.hid (HX1.out.keep hc2)
                         have HR2 := Lib.hid (HR1.out.keep hc2)
                         have HT2 := Lib.hid (HT1.out.keep hc2)
                         have HC2 := Lib.hid (HC1.out.trans hc2)
                         have HPM := Lib.hid (show Ranged pg ∧ Ranged ms from ⟨⟨by omega, by omega⟩, by omega, by omega⟩)
                         have HFL := Lib.hid hfl0
                         clear ho hg hFr hp0 hp1 hm0 hm1 hc2 hfl0)
  obtain ⟨fn, hfn⟩ : ∃ fn, fn = fl.length := ⟨_, rfl⟩
  rw [← hfn] at HF2 HFA ⊢
  clear hfn
  have hN := Whole.new w2 24 [.int .i64 pg, .int .i64 ms, .slice FA fn fc]
  have hal := (Chg.refl [] w2).alloc (.cells #[.int .i64 pg, .int .i64 ms, .slice FA fn fc] 24)
  have HU3 := Lib.hid hN
  have HF3 := Lib.hid (HF2.out.keep hal)
  have HX3 := Lib.hid (HX2.out.keep hal)
  have HR3 := Lib.hid (HR2.out.keep hal)
  have HT3 := Lib.hid (HT2.out.keep hal)
  have HC3 := Lib.hid (HC2.out.trans hal)
  have HFB := Lib.hid (show 0 < fn → ∀ ad, FA = some ad → ad.block < (w2.alloc (.cells #[.int .i64 pg, .int .i64 ms, .slice FA fn fc] 24)).heap.size from fun h0 ad e => Nat.lt_of_lt_of_le (HFA.out h0 ad e) hal.size)
  clear hN hal HFA HX1 HR1 HT1 HC1 HX2 HR2 HT2 HC2 HF2
  generalize w2.heap.size = gu at HU3 ⊢
  generalize w2.alloc (.cells #[.int .i64 pg, .int .i64 ms, .slice FA fn fc] 24) = w3 at HU3 HF3 HX3 HR3 HT3 HC3 HFB ⊢
  have u0 := HU3.out.cell 0
  have u1 := HU3.out.cell 1
  have u2 := HU3.out.cell 2
  have HOD := Lib.hid (odds_any (tc := tc) HF3.out (HGD.out.oddly HFL.out) HPM.out.1 HPM.out.2 HFB.out HT3.out htn)
  unfold unitV at HOD
  go_upto_region 3 with (go_at_call 17
                         refine HOD.out.mono ?_
                         rintro e w4 ⟨pg2, ms2, A2, n2, c2, l2, rfl, _, _, hF4, hO4, hc4⟩
                         have HG4 := Lib.hid hF4
                         have HSO := Lib.hid (show ∀ f ∈ l2, f.code.size ≤ 9223372036854775807 from fun f hf => by have := (hO4.fn f hf).2.1; omega)
                         have HF4 := Lib.hid (HF3.out.keep hc4)
                         have HU4 := Lib.hid (HU3.out.keep hc4)
                         have HX4 := Lib.hid (HX3.out.keep hc4)
                         have HR4 := Lib.hid (HR3.out.keep hc4)
                         have HC4 := Lib.hid (HC3.out.trans hc4)
                         clear hF4 hO4 hc4)
  have HSU := Lib.hid (show ∀ f ∈ fl, f.code.size ≤ 9223372036854775807 from fun f hf => by have := HGD.out.size f hf; omega)
  clear HOD u0 u1 u2 HT3 HFB HGD
  have hN := Whole.new w4 24 [.int .i64 pg2, .int .i64 ms2, .slice A2 n2 c2]
  have hal := (Chg.refl [] w4).alloc (.cells #[.int .i64 pg2, .int .i64 ms2, .slice A2 n2 c2] 24)
  have HO5 := Lib.hid hN
  have HG5 := Lib.hid (HG4.out.keep hal)
  have HF5 := Lib.hid (HF4.out.keep hal)
  have HU5 := Lib.hid (HU4.out.keep hal)
  have HX5 := Lib.hid (HX4.out.keep hal)
  have HR5 := Lib.hid (HR4.out.keep hal)
  have HC5 := Lib.hid (HC4.out.trans hal)
  clear hN hal HF3 HU3 HX3 HR3 HC3 HF4 HU4 HX4 HR4 HC4 HG4
  generalize w4.heap.size = go at HO5 ⊢
  generalize w4.alloc (.cells #[.int .i64 pg2, .int .i64 ms2, .slice A2 n2 c2] 24) = w5 at HO5 HG5 HF5 HU5 HX5 HR5 HC5 ⊢
  have u0 := HU5.out.cell 0
  have u1 := HU5.out.cell 1
  have u2 := HU5.out.cell 2
  have HTX := Lib.hid (rutext_any (pages := pg) (most := ms) HF5.out HSU.out)
  unfold UTextPost at HTX
  unfold unitV at HTX
  have hTl := text_short pg ms fl
  obtain ⟨T, hTe⟩ : ∃ T, T = (rText pg ms fl).1 := ⟨_, rfl⟩
  rw [← hTe] at HTX hTl
  clear hTe
  generalize (rText pg ms fl).2 = TE at HTX
  obtain ⟨S, hS⟩ : ∃ S, S = strOf T := ⟨_, rfl⟩
  rw [← hS] at HTX
  have hSz : S.size = T.length := by rw [hS, strOf_len]
  have HS := Lib.hid hS
  clear hS
  go_upto_region 4 with (go_at_call 26
                         refine HTX.out.mono ?_
                         rintro e w6 ⟨rfl, hc6⟩
                         have HK6 := Lib.hid hc6
                         clear hc6)
  clear u0 u1 u2
  have HO6 := Lib.hid (HO5.out.keep HK6.out)
  have HG6 := Lib.hid (HG5.out.keep HK6.out)
  have HF6 := Lib.hid (HF5.out.keep HK6.out)
  have HU6 := Lib.hid (HU5.out.keep HK6.out)
  have HX6 := Lib.hid (HX5.out.keep HK6.out)
  have HR6 := Lib.hid (HR5.out.keep HK6.out)
  have HC6 := Lib.hid (HC5.out.trans HK6.out)
  clear HO5 HG5 HF5 HU5 HX5 HR5 HC5 HK6 HTX
  go_upto_if 30 with fail
  go_cut [4] (fun v wx => ∃ s : ByteArray, v = .string s ∧ s.size ≤ 6 ∧ w6 = wx)
  case first =>
    by_cases h6 : 6 < i0.size
    · have h6I : (6 : Int) < (i0.size : Int) := by omega
      go_wp2_with fail
      go_meet
      exact ⟨_, rfl, by simp; omega, rfl⟩
    · have h6I : (i0.size : Int) ≤ 6 := by omega
      go_wp2_with fail
      go_meet
      exact ⟨_, rfl, by omega, rfl⟩
  case rest =>
    obtain ⟨i1, rfl, hi1, rfl⟩ := hcut
    go_upto_if 35 with fail
    go_cut [5] (fun v wx => ∃ s : ByteArray, v = .string s ∧ s.size ≤ 80 ∧ w6 = wx)
    case first =>
      by_cases h80 : 80 < x0.size
      · have h80I : (80 : Int) < (x0.size : Int) := by omega
        go_wp2_with fail
        go_meet
        exact ⟨_, rfl, by simp; omega, rfl⟩
      · have h80I : (x0.size : Int) ≤ 80 := by omega
        go_wp2_with fail
        go_meet
        exact ⟨_, rfl, by omega, rfl⟩
    case rest =>
      obtain ⟨x1, rfl, hx1, rfl⟩ := hcut
      have HW := Lib.hid (within_any (w := w6) at_ 0 (S.size : Int) (by omega) (by omega) (by omega) ha.1 ha.2)
      have HSZ := Lib.hid hSz
      clear hSz
      go_wp2_with (go_at_call 18
                   refine HW.out.mono ?_
                   rintro e w7 ⟨q, hq, rfl, rfl⟩
                   have HQ7 := Lib.hid hq
                   clear hq)
      have hq := HQ7.out
      have hSz := HSZ.out
      obtain ⟨k, rfl⟩ : ∃ k : Nat, q = (k : Int) := ⟨q.toNat, by have := hq.1; omega⟩
      have hkS : k ≤ S.size := by have := hq.2.1; omega
      have hkT : k ≤ T.length := by omega
      clear hq hi hx ha
      obtain ⟨I, hI, hIl⟩ := str_list i1
      obtain ⟨X, hX, hXl⟩ := str_list x1
      obtain ⟨j, hj⟩ : ∃ j, j = min (k + 1) S.size := ⟨_, rfl⟩
      have hjS : j ≤ S.size := by omega
      have hjI : min ((k : Int) + 1) (S.size : Int) = (j : Int) := by omega
      have HJI := Lib.hid hjI
      clear hjI
      have hSA : S.extract 0 k = strOf (T.take k) := by rw [HS.out]; exact strOf_take T k
      have hSD : S.extract k S.size = strOf (T.drop k) := by rw [HS.out]; exact strOf_drop T k
      have hSE : S.extract j S.size = strOf (T.drop j) := by rw [HS.out]; exact strOf_drop T j
      have hk2 : k ≤ 2048 := by omega
      have HWK := Lib.hid (show IntKind.wrap .i64 ((k : Int) + 1) = (k : Int) + 1 from IntWalk.i64_in _ (by omega))
      have hl1 : (T.take k).length ≤ 2048 := by rw [List.length_take]; omega
      have hl2 : (T.drop k).length ≤ 2048 := by rw [List.length_drop]; omega
      have hl3 : (T.drop j).length ≤ 2048 := by rw [List.length_drop]; omega
      have hI6 : I.length ≤ 6 := by omega
      have hX80 : X.length ≤ 80 := by omega
      have HA1 := Lib.hid (fun W => str_add (T.take k) I (by omega) W)
      have HA2 := Lib.hid (fun W => str_add (T.take k ++ I) (T.drop k) (by rw [List.length_append]; omega) W)
      have HA3 := Lib.hid (fun W => str_add (T.take k ++ I) (T.drop j) (by rw [List.length_append]; omega) W)
      have HA4 := Lib.hid (fun W => str_add tlU X (by simp [tlU]; omega) W)
      have HA5 := Lib.hid (fun W => str_add (tlU ++ X) [10] (by simp [tlU]; omega) W)
      have HQ0 := Lib.hid (fun W hp => HRD.out W T (by omega) hp)
      have HQ1 := Lib.hid (fun W hp => HRD.out W (T.take k ++ I ++ T.drop k) (by rw [List.length_append, List.length_append]; omega) hp)
      have HQ2 := Lib.hid (fun W hp => HRD.out W (T.take k ++ I ++ T.drop j) (by rw [List.length_append, List.length_append]; omega) hp)
      have HQ3 := Lib.hid (fun W hp => HRD.out W X (by omega) hp)
      have HQ4 := Lib.hid (fun W hp => HRD.out W (tlU ++ X ++ [10]) (by simp [tlU]; omega) hp)
      rw [← hX] at HQ3 HA4
      rw [← hI] at HA1
      rw [show strOf tlU = ⟨#[117, 110, 105, 116, 32, 49, 32, 49, 10]⟩ from rfl] at HA4
      rw [show strOf [10] = ⟨#[10]⟩ from rfl] at HA5
      rw [← HS.out] at HQ0
      generalize strOf (tlU ++ X ++ [10]) = SG at HA5 HQ4
      generalize strOf (tlU ++ X) = SF at HA4 HA5
      generalize strOf (T.take k ++ I ++ T.drop k) = S1 at HA2 HQ1
      generalize strOf (T.take k ++ I ++ T.drop j) = S2 at HA3 HQ2
      generalize strOf (T.take k ++ I) = SB at HA1 HA2 HA3
      generalize strOf (T.take k) = SA at HA1 hSA
      generalize strOf (T.drop k) = SD at HA2 hSD
      generalize strOf (T.drop j) = SE at HA3 hSE
      clear hI hX hIl hXl hl1 hl2 hl3 hI6 hX80 HRD HS hi1 hx1 hj hSz hkT
      have HUU := Lib.hid (UOk.of_fnr (pg := pg) (ms := ms) HF6.out HSU.out)
      have HUO := Lib.hid (UOk.of_fnr (pg := pg2) (ms := ms2) HG6.out HSO.out)
      have HUR := Lib.hid (UOk.of_fnw (pg := rp) (ms := rm) HR6.out)
      have HSP := Lib.hid (fun (W : World) (h : Chg [] w6 W) => usame_any (p := pg) (m := ms) (p2 := pg2) (m2 := ms2) (HF6.out.keep h) (HG6.out.keep h))
      have HSR := Lib.hid (fun (W : World) (h : Chg [] w6 W) => rsame_any (p := pg) (m := ms) (p2 := pg2) (m2 := ms2) (HF6.out.keep h) (HG6.out.keep h))
      unfold EqPost at HSP HSR
      unfold unitV at HSP HSR
      obtain ⟨B, hB⟩ : ∃ B : Bool, (B = true ↔ (pg = pg2 ∧ ms = ms2 ∧ fl = l2)) := by
        by_cases h : pg = pg2 ∧ ms = ms2 ∧ fl = l2
        · exact ⟨true, by simp [h]⟩
        · exact ⟨false, by simp [h]⟩
      have HB := Lib.hid (fun (b : Bool) (h : b = true ↔ (pg = pg2 ∧ ms = ms2 ∧ fl = l2)) => (show b = B from Bool.eq_iff_iff.2 (h.trans hB.symm)))
      clear hB
      have HHW := Lib.hid (fun (W : World) (h : Chg [] w6.drew W) => (show Chg [] w6 W from (Chg.refl [] w6).drew.trans h))
      have HBP := Lib.hid (fun (W : World) (h : Chg [] w6 W) => (HP.out.here (HC6.out.trans h)))
      rw [← HR9.out]
      clear HR9
      refine wp_flow (by kernel_rfl) plainT plainT_ok (by kernel_rfl) ?_
      refine flow1h (r := .agg #[.int .i64 pg, .int .i64 ms, .slice FA fn fc]) plainT_ok rfl (.out rfl rfl) rfl (fun ev W he hW e1 => by
        have hk := HU6.out.keep (HHW.out W hW)
        have q0 := hk.cell 0
        have q1 := hk.cell 1
        have q2 := hk.cell 2
        clear hW hk
        go_simp) ?_
      refine flow_callv (.bool true) (by kernel_rfl) rfl (.cons (.inn rfl) .nil) (fun W hW => (HSM.out W _ _ _ _ _ _ _ _ (HUU.out.keep (HHW.out W hW)) (HBP.out W (HHW.out W hW))).mono ?_) ?_
      · rintro e w' ⟨rfl, hc⟩
        rw [plain_by]
        exact ⟨rfl, hc⟩
      refine flow_move plainT_ok rfl (keeps_isV _) (.inr (keeps_isV _)) rfl ?_
      refine flow1h (r := .agg #[.int .i64 pg2, .int .i64 ms2, .slice A2 n2 c2]) plainT_ok rfl (.out rfl rfl) rfl (fun ev W he hW e1 => by
        have hk := HO6.out.keep (HHW.out W hW)
        have q0 := hk.cell 0
        have q1 := hk.cell 1
        have q2 := hk.cell 2
        clear hW hk
        go_simp) ?_
      refine flow_callv (.bool true) (by kernel_rfl) rfl (.cons (.inn rfl) .nil) (fun W hW => (HSM.out W _ _ _ _ _ _ _ _ (HUO.out.keep (HHW.out W hW)) (HBP.out W (HHW.out W hW))).mono ?_) ?_
      · rintro e w' ⟨rfl, hc⟩
        rw [plain_by]
        exact ⟨rfl, hc⟩
      refine flow_and plainT_ok rfl rfl rfl ?_
      refine flow_move plainT_ok rfl (keeps_isV _) (.inr (keeps_isV _)) rfl ?_
      refine flow1h (r := .agg #[.int .i64 rp, .int .i64 rm, .slice RA rn rc]) plainT_ok rfl (.out rfl rfl) rfl (fun ev W he hW e1 => by
        have hk := HX6.out.keep (HHW.out W hW)
        have q0 := hk.cell 0
        have q1 := hk.cell 1
        have q2 := hk.cell 2
        clear hW hk
        go_simp) ?_
      refine flow_callv (.bool true) (by kernel_rfl) rfl (.cons (.inn rfl) .nil) (fun W hW => (HSM.out W _ _ _ _ _ _ _ _ (HUR.out.keep (HHW.out W hW)) (HBP.out W (HHW.out W hW))).mono ?_) ?_
      · rintro e w' ⟨rfl, hc⟩
        rw [plain_by]
        exact ⟨rfl, hc⟩
      refine flow_and plainT_ok rfl rfl rfl ?_
      refine flow_move plainT_ok rfl (keeps_isV _) (.inr (keeps_isV _)) rfl ?_
      refine flow_move_out plainT_ok rfl rfl rfl ?_
      refine flow_callv (.bool true) (by kernel_rfl) rfl (.cons (.inn rfl) .nil) (fun W hW => (HQ0.out W (HBP.out W (HHW.out W hW))).mono ?_) ?_
      · rintro e w' ⟨rfl, hc⟩
        rw [plain_by]
        exact ⟨rfl, hc⟩
      refine flow_and plainT_ok rfl rfl rfl ?_
      refine flow_move plainT_ok rfl (keeps_isV _) (.inr (keeps_isV _)) rfl ?_
      refine flow_move_out plainT_ok rfl rfl rfl ?_
      refine flow_move_out plainT_ok rfl rfl rfl ?_
      refine flow_cut_str (s := S) (n := k) plainT_ok (.inn rfl) (.inn rfl) Tryz.underlying9 hkS rfl ?_
      rw [hSA]
      refine flow_move_out plainT_ok rfl rfl rfl ?_
      refine flow2 (r := .string SB) plainT_ok rfl (.inn rfl) (.inn rfl) rfl (fun ev W he e1 e2 => by have q := HA1.out W; go_simp) ?_
      refine flow_move_out plainT_ok rfl rfl rfl ?_
      refine flow_move_out plainT_ok rfl rfl rfl ?_
      refine flow_drop_str (s := S) (n := k) plainT_ok (.inn rfl) (.inn rfl) Tryz.underlying9 hkS rfl ?_
      rw [hSD]
      refine flow2 (r := .string S1) plainT_ok rfl (.inn rfl) (.inn rfl) rfl (fun ev W he e1 e2 => by have q := HA2.out W; go_simp) ?_
      refine flow_callv (.bool true) (by kernel_rfl) rfl (.cons (.inn rfl) .nil) (fun W hW => (HQ1.out W (HBP.out W (HHW.out W hW))).mono ?_) ?_
      · rintro e w' ⟨rfl, hc⟩
        rw [plain_by]
        exact ⟨rfl, hc⟩
      refine flow_and plainT_ok rfl rfl rfl ?_
      refine flow_move plainT_ok rfl (keeps_isV _) (.inr (keeps_isV _)) rfl ?_
      refine flow_move_out plainT_ok rfl rfl rfl ?_
      refine flow_move_out plainT_ok rfl rfl rfl ?_
      refine flow_cut_str (s := S) (n := k) plainT_ok (.inn rfl) (.inn rfl) Tryz.underlying9 hkS rfl ?_
      rw [hSA]
      refine flow_move_out plainT_ok rfl rfl rfl ?_
      refine flow2 (r := .string SB) plainT_ok rfl (.inn rfl) (.inn rfl) rfl (fun ev W he e1 e2 => by have q := HA1.out W; go_simp) ?_
      refine flow_move_out plainT_ok rfl rfl rfl ?_
      refine flow_move_out plainT_ok rfl rfl rfl ?_
      refine flow2 (r := .int .i64 ((k : Int) + 1)) plainT_ok rfl (.inn rfl) (.const _) rfl (fun ev W he e1 e2 => by have q : IntKind.wrap .i64 ((k : Int) + 1) = (k : Int) + 1 := HWK.out; go_simp) ?_
      refine flow_move_out plainT_ok rfl rfl rfl ?_
      refine flow_len_str (s := S) plainT_ok (.inn rfl) Tryz.underlying9 rfl ?_
      refine flow2 (r := .int .i64 (j : Int)) plainT_ok rfl (.inn rfl) (.inn rfl) rfl (fun ev W he e1 e2 => by
        have q := HJI.out
        change ev (.tmp 76) = _ at e1
        change ev (.tmp 78) = _ at e2
        go_simp) ?_
      refine flow_drop_str (s := S) (n := j) plainT_ok (.inn rfl) (.inn rfl) Tryz.underlying9 hjS rfl ?_
      rw [hSE]
      refine flow2 (r := .string S2) plainT_ok rfl (.inn rfl) (.inn rfl) rfl (fun ev W he e1 e2 => by have q := HA3.out W; go_simp) ?_
      refine flow_callv (.bool true) (by kernel_rfl) rfl (.cons (.inn rfl) .nil) (fun W hW => (HQ2.out W (HBP.out W (HHW.out W hW))).mono ?_) ?_
      · rintro e w' ⟨rfl, hc⟩
        rw [plain_by]
        exact ⟨rfl, hc⟩
      refine flow_and plainT_ok rfl rfl rfl ?_
      refine flow_move plainT_ok rfl (keeps_isV _) (.inr (keeps_isV _)) rfl ?_
      refine flow_move_out plainT_ok rfl rfl rfl ?_
      refine flow_callv (.bool true) (by kernel_rfl) rfl (.cons (.inn rfl) .nil) (fun W hW => (HQ3.out W (HBP.out W (HHW.out W hW))).mono ?_) ?_
      · rintro e w' ⟨rfl, hc⟩
        rw [plain_by]
        exact ⟨rfl, hc⟩
      refine flow_and plainT_ok rfl rfl rfl ?_
      refine flow_move plainT_ok rfl (keeps_isV _) (.inr (keeps_isV _)) rfl ?_
      refine flow_move_out plainT_ok rfl rfl rfl ?_
      refine flow2 (r := .string SF) plainT_ok rfl (.const _) (.inn rfl) rfl (fun ev W he e1 e2 => by have q := HA4.out W; go_simp) ?_
      refine flow2 (r := .string SG) plainT_ok rfl (.inn rfl) (.const _) rfl (fun ev W he e1 e2 => by have q := HA5.out W; go_simp) ?_
      refine flow_callv (.bool true) (by kernel_rfl) rfl (.cons (.inn rfl) .nil) (fun W hW => (HQ4.out W (HBP.out W (HHW.out W hW))).mono ?_) ?_
      · rintro e w' ⟨rfl, hc⟩
        rw [plain_by]
        exact ⟨rfl, hc⟩
      refine flow_and plainT_ok rfl rfl rfl ?_
      refine flow_move plainT_ok rfl (keeps_isV _) (.inr (keeps_isV _)) rfl ?_
      refine flow1h (r := .agg #[.int .i64 pg, .int .i64 ms, .slice FA fn fc]) plainT_ok rfl (.out rfl rfl) rfl (fun ev W he hW e1 => by
        have hk := HU6.out.keep (HHW.out W hW)
        have q0 := hk.cell 0
        have q1 := hk.cell 1
        have q2 := hk.cell 2
        clear hW hk
        go_simp) ?_
      refine flow1h (r := .agg #[.int .i64 pg2, .int .i64 ms2, .slice A2 n2 c2]) plainT_ok rfl (.out rfl rfl) rfl (fun ev W he hW e1 => by
        have hk := HO6.out.keep (HHW.out W hW)
        have q0 := hk.cell 0
        have q1 := hk.cell 1
        have q2 := hk.cell 2
        clear hW hk
        go_simp) ?_
      refine flow_callv (.bool B) (by kernel_rfl) rfl (.cons (.inn rfl) (.cons (.inn rfl) .nil)) (fun W hW => (HSP.out W (HHW.out W hW)).mono ?_) ?_
      · rintro e w' ⟨b, rfl, hb, hc⟩
        rw [plain_by]
        exact ⟨by rw [HB.out b hb], hc⟩
      refine flow1h (r := .agg #[.int .i64 pg, .int .i64 ms, .slice FA fn fc]) plainT_ok rfl (.out rfl rfl) rfl (fun ev W he hW e1 => by
        have hk := HU6.out.keep (HHW.out W hW)
        have q0 := hk.cell 0
        have q1 := hk.cell 1
        have q2 := hk.cell 2
        clear hW hk
        go_simp) ?_
      refine flow1h (r := .agg #[.int .i64 pg2, .int .i64 ms2, .slice A2 n2 c2]) plainT_ok rfl (.out rfl rfl) rfl (fun ev W he hW e1 => by
        have hk := HO6.out.keep (HHW.out W hW)
        have q0 := hk.cell 0
        have q1 := hk.cell 1
        have q2 := hk.cell 2
        clear hW hk
        go_simp) ?_
      refine flow_callv (.bool B) (by kernel_rfl) rfl (.cons (.inn rfl) (.cons (.inn rfl) .nil)) (fun W hW => (HSR.out W (HHW.out W hW)).mono ?_) ?_
      · rintro e w' ⟨b, rfl, hb, hc⟩
        rw [plain_by]
        exact ⟨by rw [HB.out b hb], hc⟩
      refine flow_eql plainT_ok (.inn rfl) (.inn rfl) (fun ev W he e1 e2 => by go_simp) rfl ?_
      refine flow_and plainT_ok rfl rfl rfl ?_
      refine flow_move plainT_ok rfl (keeps_isV _) (.inr (keeps_isV _)) rfl ?_
      refine flow_callv (.bool true) (by kernel_rfl) rfl .nil (fun W hW => (HKN.out W (HBP.out W (HHW.out W hW))).mono ?_) ?_
      · rintro e w' ⟨rfl, hc⟩
        rw [plain_by]
        exact ⟨rfl, hc⟩
      refine flow_and plainT_ok rfl rfl rfl ?_
      refine flow_assign plainT_ok rfl (keeps_isV _) (.inr (keeps_isV _)) rfl ?_
      intro vs W hW hF
      have e12 : vs 12 = .bool true := hF 12 _ rfl rfl
      have HCW := Lib.hid (HC6.out.trans (HHW.out W hW))
      simp only [List.append, putAll, Act.put, List.setIfInBounds_toArray, List.set_cons_zero, List.set_cons_succ]
      rw [e12]
      clear hF hW e12
      obtain ⟨wz, hwz⟩ : ∃ wz : World, wz = W := ⟨_, rfl⟩
      rw [← hwz] at HCW ⊢
      clear hwz
      go_wp2_with fail
      go_ret
      exact ⟨rfl, HCW.out⟩
theorem unitTells_full {l : List Int} (hs : Src w A (nms l)) (hlen : l.length = n) (hspot : 0 < n → ∀ ad, A = some ad → ad.spot = none) (hn : n ≤ 9223372036854775807) (hrng : ∀ x ∈ l, -9223372036854775808 ≤ x ∧ x ≤ 9223372036854775807) (hT : Trn w TA tn ts) (htn : tn ≤ 9223372036854775807) (hR : Fnw w RA rn rc rl) (at_ : Int) (ha : -9223372036854775808 ≤ at_ ∧ at_ ≤ 9223372036854775807) (i0 x0 : ByteArray) (hi : i0.size ≤ 9223372036854775807) (hx : x0.size ≤ 9223372036854775807) (hP : PowB w.heap.size w) :
    Calls Tryz.prog 8 #[.slice A n c, .slice TA tn tc, .agg #[.int .i64 rp, .int .i64 rm, .slice RA rn rc], .int .i64 at_, .string i0, .string x0] w (BoolPost true w) :=
  unitTells_any (fun _ hc => unit_any (c := c) (hs.keep hc) hlen hspot hn hrng) hT htn hR at_ ha i0 x0 hi hx hP
end
end Go.Proofs.YtbkfhndmeljlcaaGreatDoor
namespace Go.Proofs.YtbkfhndmeljlcaaGreatDoor
open Go.RowKit
theorem un_mul {a b x y : Nat} (hx : x ≤ a) (hy : y ≤ b) : (x : Int) * (y : Int) ≤ (a : Int) * (b : Int) := by
  have h := Nat.mul_le_mul hx hy
  exact_mod_cast h
def UTapePost (w : World) (e : Ending) (w' : World) : Prop := ∃ A c xs, e = .returned (.slice A 200 c) ∧ xs.length = 200 ∧ Src w' A (nms xs) ∧ (∀ ad, A = some ad → ad.spot = none ∧ ad.block < w'.heap.size) ∧ (∀ y ∈ xs, -9223372036854775808 ≤ y ∧ y ≤ 9223372036854775807) ∧ Chg [] w w'
section
variable {w : World}
set_option maxHeartbeats 4000000 in
set_option maxRecDepth 100000 in
theorem tape13_any (k : Nat) (hk : k ≤ 60) : Calls Tryz.prog 25 #[.int .i64 (k : Int)] w (UTapePost w) := by
  obtain ⟨i0, hii, hz0, hz1, hz2⟩ := info_parts info_int
  obtain ⟨w8, hw8⟩ : ∃ w8 : World, w8 = w := ⟨_, rfl⟩
  obtain ⟨B8, hB8⟩ : ∃ b, b = w8.heap.size := ⟨_, rfl⟩
  have HB8 := Lib.hid hB8
  rw [← hw8]
  clear hB8 hw8
  go_enter Tryz.func25, Tryz.ntmps25
  go_wp2_with fail
  go_loopw [3, 4] (fun v s wr => ∃ i : Nat, i ≤ 200 ∧ s = .int .i64 (i : Int) ∧ (∃ ys : List Int, ys.length = i ∧ wr.ownsRow B8 3 1 v i (nms ys) ∧ (∀ y ∈ ys, -9223372036854775808 ≤ y ∧ y ≤ 9223372036854775807)) ∧ Hid (Chg [] w8 wr)) (fun _ s _ => 200 - (intOf s).toNat)
  case atStart => exact ⟨0, by omega, rfl, ⟨[], rfl, World.ownsRow_nil _ _ _ _, fun y hy => by simp at hy⟩, Lib.hid (Chg.refl _ _)⟩
  case round =>
    obtain ⟨i, hi90, rfl, ⟨ys, hyl, ho, hyr⟩, HCr⟩ := hrel
    have HO := Lib.hid ho
    have HYL := Lib.hid hyl
    have HYR := Lib.hid hyr
    clear ho hyl hyr
    by_cases hlt9 : i < 200
    · have hltI : (i : Int) < 200 := by omega
      have p0 : (0 : Int) ≤ (i : Int) * (i : Int) := Int.mul_nonneg (by omega) (by omega)
      have p1 : (i : Int) * (i : Int) ≤ 40000 := un_mul (a := 200) (b := 200) hi90 hi90
      have p2 : (0 : Int) ≤ (i : Int) * (k : Int) := Int.mul_nonneg (by omega) (by omega)
      have p3 : (i : Int) * (k : Int) ≤ 12000 := un_mul (a := 200) (b := 60) hi90 hk
      have HW8 := Lib.hid (show B8 ≤ wr.heap.size by have := HCr.out.size; have := HB8.out; omega)
      have hyv : -9223372036854775808 ≤ ((i : Int) * (i : Int) * 7 + (k : Int) * 23 + (i : Int) * (k : Int)) % 211 ∧ ((i : Int) * (i : Int) * 7 + (k : Int) * 23 + (i : Int) * (k : Int)) % 211 ≤ 9223372036854775807 := by omega
      have HYV := Lib.hid hyv
      clear hyv
      go_wp2_with (at_builtin
                   refine wpList_appN rfl (.tmp 9) (.tmp 22) 26 rfl B8 3 i0 _ 1 8 Tryz.underlying26 hii hz0 hz1 hz2 rfl (by decide) _ i (nms ys) rfl (own_keep HO.out ((Chg.refl [] wr).alloc _)) ⟨wr.heap.size, 0, none⟩ 1 1 [.int .i64 (((i : Int) * (i : Int) * 7 + (k : Int) * 23 + (i : Int) * (k : Int)) % 211)] rfl rfl ?c1 ?c2 ?c3 ?c4 ?c5 ?_
                   case c1 => exact cellsN _ _ _
                   case c2 => simp [Value.oneCell']
                   case c3 => simp only [maxLen]; omega
                   case c4 => omega
                   case c5 => have := HW8.out; simp; omega
                   intro v' w6 hown' hg' _)
      generalize ((i : Int) * (i : Int) * 7 + (k : Int) * 23 + (i : Int) * (k : Int)) % 211 = y at hown' HYV
      have HO6 := Lib.hid hown'
      have HC6 := Lib.hid (show Chg [] w8 w6 from (HCr.out.alloc _).ownN (own_keep HO.out ((Chg.refl [] wr).alloc _)) (by have := HB8.out; omega) hg')
      clear hown' hg' p0 p1 p2 p3
      go_wp2_with fail
      go_roundw
      case rel => exact ⟨i + 1, by omega, by go_num, ⟨ys ++ [y], by rw [List.length_append, HYL.out]; rfl, by rw [nms_app]; exact HO6.out, fun z hz => by
        rcases List.mem_append.1 hz with h | h
        · exact HYR.out z h
        · simp only [List.mem_cons, List.not_mem_nil, or_false] at h; subst h; exact HYV.out⟩, HC6⟩
      case measure => simp [intOf]; omega
    · have hltI : ¬ (i : Int) < 200 := by omega
      obtain rfl : i = 200 := by omega
      obtain ⟨A9, c9, rfl, _, _, hs9, hp9⟩ := own_slice HO.out
      have HP := Lib.hid (show UTapePost w8 (.returned (.slice A9 200 c9)) wr from ⟨A9, c9, ys, rfl, HYL.out, hs9, fun ad e => ⟨(hp9 ad e).1, by
        obtain ⟨ad', e', hlt, _⟩ := hs9 (by rw [nms_len, HYL.out]; omega)
        rw [e] at e'; injection e' with e'; subst e'; exact hlt⟩, HYR.out, HCr.out⟩)
      clear hs9 hp9
      go_wp2_with fail
      go_ret
      exact HP.out
theorem lreads_s (s : ByteArray) (hs : s.size ≤ 1000000) (hP : PowB w.heap.size w) : Calls Tryz.prog 28 #[.string s] w (BoolPost true w) := by
  obtain ⟨l, rfl, hl⟩ := str_list s
  exact lreads_any l (by omega) hP
def zeroF : FnV := ⟨0, 0, ⟨#[]⟩⟩
theorem fnCs_zero_get (m : Nat) (i : Nat) (hi : i < m * 3) : (fnCs (List.replicate m zeroF))[i]? = (#[Value.int .i32 0, .int .i64 0, .string ⟨#[]⟩] : Array Value)[i % 3]? := by
  have h : (List.replicate m zeroF)[i / 3]? = some zeroF := by rw [List.getElem?_replicate, if_pos (by omega)]
  have h2 := fnCs_get (List.replicate m zeroF) (i / 3) zeroF (i % 3) h (by omega)
  rw [show i / 3 * 3 + i % 3 = i from by omega] at h2
  rw [h2]
  have h3 : i % 3 = 0 ∨ i % 3 = 1 ∨ i % 3 = 2 := by omega
  rcases h3 with h | h | h <;> rw [h] <;> rfl
theorem made_zero (n i : Nat) (hi : i < n) : (madeCells #[Value.int .i32 0, .int .i64 0, .string ⟨#[]⟩] n).toList[i]? = (#[Value.int .i32 0, .int .i64 0, .string ⟨#[]⟩] : Array Value)[i % 3]? := by
  unfold madeCells
  rw [Array.getElem?_toList, Array.getElem?_map, Array.getElem?_range, if_pos hi, Option.map_some]
  have h3 : i % 3 = 0 ∨ i % 3 = 1 ∨ i % 3 = 2 := by omega
  show some ((#[Value.int .i32 0, .int .i64 0, .string ⟨#[]⟩] : Array Value)[i % 3]!) = _
  rcases h3 with h | h | h <;> rw [h] <;> rfl
theorem fnr_made (m : Nat) (hm : m ≤ 1000) (W : World) (M : List Value) (hM : ∀ i, i < m * 3 → M[i]? = (#[Value.int .i32 0, .int .i64 0, .string ⟨#[]⟩] : Array Value)[i % 3]?) {g : Nat} (hW : Whole W g 58 M) : Fnr W (some ⟨g, 0, none⟩) m m (List.replicate m zeroF) := by
  refine ⟨List.length_replicate .., fun _ => ⟨_, rfl, hW.lt, fun j v hj => ?_⟩, Nat.le_refl _, hm, fun _ ad e => by injection e with e; subst e; rfl, fun f hf => ?_⟩
  · have hjl := (List.getElem?_eq_some_iff.1 hj).1
    rw [fnCs_len, List.length_replicate] at hjl
    rw [fnCs_zero_get m j hjl] at hj
    rw [add_plain, Nat.zero_add, hW.cell j, hM j hjl]
    exact hj
  · rw [List.mem_replicate] at hf
    rw [hf.2]
    decide
theorem make_funcs (m : Nat) (hm : m ≤ 1000) (W : World) : ∃ g w', (Instr.makeSlice 22 (.int .i64 (m : Int)) (.int .i64 (m : Int))).run Tryz.prog W = .ok (.slice (some ⟨g, 0, none⟩) m m) w' ∧ Chg [] W w' ∧ Fnr w' (some ⟨g, 0, none⟩) m m (List.replicate m zeroF) := by
  obtain ⟨i, hi, hz, hs1, hb⟩ := info_parts info_fn3
  have h := run_make (P := Tryz.prog) W 22 58 i _ Tryz.underlying22 hi hz .i64 .i64 (m : Int) (m : Int) (by omega) (by omega) (by rw [hb]; omega) (by omega)
  rw [hs1] at h
  have hN := Whole.new W 58 (madeCells (Value.agg #[.int .i32 0, .int .i64 0, .string ⟨#[]⟩]).cells (m * 3)).toList
  have hal := (Chg.refl [] W).alloc (.cells (madeCells (Value.agg #[.int .i32 0, .int .i64 0, .string ⟨#[]⟩]).cells (m * 3)).toList.toArray 58)
  refine ⟨W.heap.size, _, ?_, hal, fnr_made m hm _ _ (fun i hi => made_zero (m * 3) i hi) hN⟩
  rw [Array.toArray_toList]
  simpa only [Int.toNat_natCast] using h
end
end Go.Proofs.YtbkfhndmeljlcaaGreatDoor
