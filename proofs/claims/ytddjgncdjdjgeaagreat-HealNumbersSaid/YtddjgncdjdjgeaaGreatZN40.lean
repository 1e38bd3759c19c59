/-
  N: PrD, LawHealN.
-/
import Derived.Test.YtddjgncdjdjgeaaGreatZN1
import Derived.Test.YtddjgncdjdjgeaaGreatZN6
import Derived.Test.YtddjgncdjdjgeaaGreatZN38
import Derived.Test.YtddjgncdjdjgeaaGreatZN39
namespace Go.Proofs.YtddjgncdjdjgeaaGreat
open Go.RowKit
/-- A disk and the reference's, alike and apart. -/
structure PrD (w : World) (p bL bS bW q gL gN gW : Nat) (rL rN : List Value) (m : Int) (s : St) : Prop where
  d : DskS w p bL bS bW s
  r : Rfd w q gL gN gW rL rN m s
  sep : ∀ i ∈ [p, bL, bS, bW], i ∉ [q, gL, gN, gW]
section
variable {w w' : World} {p bL bS bW q gL gN gW : Nat} {rL rN : List Value} {m : Int} {s : St}
theorem PrD.keep (h : PrD w p bL bS bW q gL gN gW rL rN m s) (hc : Chg [] w w') : PrD w' p bL bS bW q gL gN gW rL rN m s := ⟨Dsk.keep h.d hc, Rfx.keep h.r hc, h.sep⟩
theorem PrD.lts (h : PrD w p bL bS bW q gL gN gW rL rN m s) : p < w.heap.size ∧ bL < w.heap.size ∧ bS < w.heap.size ∧ bW < w.heap.size := ⟨(Dsk.rec_ h.d).lt, (Dsk.last h.d).lt, (Dsk.seen h.d).lt, (Dsk.wait h.d).lt⟩
/-- The disk is written. -/
theorem PrD.ref (h : PrD w p bL bS bW q gL gN gW rL rN m s) (hc : Chg [bL, bS, bW] w w') : Rfd w' q gL gN gW rL rN m s := by
  have key : ∀ j ∈ [q, gL, gN, gW], j ∉ [bL, bS, bW] := fun j hj hm => h.sep j (List.mem_cons_of_mem _ hm) hj
  exact Rfx.away h.r hc (key _ (by simp)) (key _ (by simp)) (key _ (by simp)) (key _ (by simp))
/-- The reference's is written. -/
theorem PrD.dsk {s' : St} (h : PrD w p bL bS bW q gL gN gW rL rN m s) {v : World} (hd : DskS v p bL bS bW s') (hc : Chg [q, gL, gN, gW] v w') : DskS w' p bL bS bW s' :=
  Dsk.away hd hc (h.sep _ (by simp)) (h.sep _ (by simp)) (h.sep _ (by simp)) (h.sep _ (by simp))
theorem PrD.sep' (h : PrD w p bL bS bW q gL gN gW rL rN m s) {v : World} (hv : w.heap.size ≤ v.heap.size) {gW' : Nat} (hg : gW' = gW ∨ v.heap.size ≤ gW') : ∀ i ∈ [p, bL, bS, bW], i ∉ [q, gL, gN, gW'] := fun i hi hm => by
  have h1 := h.sep i hi
  have h2 := h.lts
  simp only [List.mem_cons, List.not_mem_nil, or_false] at hi hm h1
  rcases hg with rfl | hg
  · exact h1 hm
  · rcases hm with e | e | e | e
    · exact h1 (.inl e)
    · exact h1 (.inr (.inl e))
    · exact h1 (.inr (.inr (.inl e)))
    · rcases hi with rfl | rfl | rfl | rfl <;> omega
def SameDPost (w : World) (p bL bS bW q gL gN gW : Nat) (rL rN : List Value) (s : St) (n : Int) (e : Ending) (w' : World) : Prop :=
  e = .returned (.bool true) ∧ (∃ gW' m', PrD w' p bL bS bW q gL gN gW' rL rN m' (doD s ((opDs s).take (clampN n (opDs s).length))) ∧ (gW' = gW ∨ w.heap.size ≤ gW')) ∧ Chg [bL, bS, bW, q, gL, gN, gW] w w'
set_option maxHeartbeats 4000000 in
set_option maxRecDepth 100000 in
theorem sameD_any (h : PrD w p bL bS bW q gL gN gW rL rN m s) (h1 : 1 ≤ s.V.length) (n : Int) :
    Calls Tryz.prog 9 #[.pointer (some ⟨p, 0, none⟩), .pointer (some ⟨q, 0, none⟩), .int .i64 n] w (SameDPost w p bL bS bW q gL gN gW rL rN s n) := by
  have H := Lib.hid h
  have H1 := Lib.hid h1
  clear h h1
  go_enter Tryz.func9, Tryz.ntmps9
  go_wp2_with fail
  refine (hdeeds_any H.out.d).mono ?_
  rintro e w1 ⟨rfl, hc1⟩
  have H1' := Lib.hid (H.out.keep hc1)
  have HC1 := Lib.hid hc1
  obtain ⟨D, hD⟩ : ∃ D, D = (opDs s).length := ⟨_, rfl⟩
  have HD := Lib.hid hD
  rw [← hD]
  clear hc1 hD
  go_wp2_with fail
  refine (rdeeds_any H1'.out.r H1.out).mono ?_
  rintro e w2 ⟨rfl, hc2⟩
  rw [← HD.out]
  have H2 := Lib.hid (H1'.out.keep hc2)
  have HC2 := Lib.hid (HC1.out.new hc2)
  clear hc2
  go_wp2_with fail
  refine (alikeL_yes H2.out.d H2.out.r).mono ?_
  rintro e w3 ⟨rfl, hc3⟩
  have H3 := Lib.hid (H2.out.keep hc3)
  have HC3 := Lib.hid (HC2.out.new hc3)
  clear hc3
  go_wp2_with fail
  refine (part_any H3.out.d n).mono ?_
  rintro e w4 ⟨rfl, hd4, hc4⟩
  have HR4 := Lib.hid (H3.out.ref hc4)
  have HD4 := Lib.hid hd4
  have HC4 := Lib.hid (show Chg [bL, bS, bW, q, gL, gN, gW] w w4 from (HC3.out.sub (fun _ h => by cases h)).trans (hc4.sub (by simp)))
  have HSZ := Lib.hid (show w3.heap.size ≤ w4.heap.size from hc4.size)
  have HSZ3 := Lib.hid (show w.heap.size ≤ w3.heap.size from HC3.out.size)
  obtain ⟨K, hK⟩ : ∃ K, K = clampN n (opDs s).length := ⟨_, rfl⟩
  have HK := Lib.hid hK
  rw [← hK] at HD4 ⊢
  clear hd4 hc4 hK
  go_wp2_with fail
  refine (rpart_any HR4.out H1.out n).mono ?_
  rintro e w5 ⟨rfl, ⟨gW', m', hr5, hg⟩, hc5⟩
  rw [← HK.out] at hr5 ⊢
  have HP5 := Lib.hid (show PrD w5 p bL bS bW q gL gN gW' rL rN m' (doD s ((opDs s).take K)) from ⟨H3.out.dsk HD4.out hc5, hr5, H3.out.sep' HSZ.out hg⟩)
  have HC5 := Lib.hid (show Chg [bL, bS, bW, q, gL, gN, gW] w w5 from HC4.out.trans (hc5.sub (by simp)))
  have HG := Lib.hid (show gW' = gW ∨ w.heap.size ≤ gW' from hg.imp id (fun h => by have h1 := HSZ.out; have h2 := HSZ3.out; omega))
  clear hr5 hg hc5
  go_wp2_with fail
  refine (alikeL_yes HP5.out.d HP5.out.r).mono ?_
  rintro e w6 ⟨rfl, hc6⟩
  have HP := Lib.hid (show SameDPost w p bL bS bW q gL gN gW rL rN s n (.returned (.bool true)) w6 from by
    unfold SameDPost
    rw [← HK.out]
    exact ⟨rfl, ⟨gW', m', HP5.out.keep hc6, HG.out⟩, HC5.out.new hc6⟩)
  clear hc6
  go_wp2_with fail
  go_ret
  exact HP.out
end
theorem Sa.doD : ∀ (ds : List Deed) {s : St}, Sa s → (∀ d ∈ ds, okD s.V.length d) → Sa (doD s ds)
  | [], _, h, _ => h
  | d :: ds, s, h, ho => by
    have hd := ho d List.mem_cons_self
    have h1 : Sa (dOne s d) := by
      cases d with
      | none => exact h.flA
      | some y => exact h.write hd.1 hd.2
    exact Sa.doD ds h1 (fun d' h' => by rw [dOne_len]; exact ho d' (List.mem_cons_of_mem _ h'))
end Go.Proofs.YtddjgncdjdjgeaaGreat
namespace Go.Proofs.YtddjgncdjdjgeaaGreat
open Go.RowKit
theorem mul_leN {a b x y : Nat} (hx : x ≤ a) (hy : y ≤ b) : (x : Int) * (y : Int) ≤ (a : Int) * (b : Int) := by
  have h := Nat.mul_le_mul hx hy
  exact_mod_cast h
def TapePost (w : World) (e : Ending) (w' : World) : Prop := ∃ A c xs, e = .returned (.slice A 120 c) ∧ xs.length = 120 ∧ Src w' A (nms xs) ∧ (∀ ad, A = some ad → ad.spot = none ∧ ad.block < w'.heap.size) ∧ (∀ y ∈ xs, -9223372036854775808 ≤ y ∧ y ≤ 9223372036854775807) ∧ Chg [] w w'
section
variable {w : World}
set_option maxHeartbeats 4000000 in
set_option maxRecDepth 100000 in
theorem tape19_any (k : Nat) (hk : k ≤ 40) : Calls Tryz.prog 8 #[.int .i64 (k : Int)] w (TapePost w) := by
  obtain ⟨i0, hii, hz0, hz1, hz2⟩ := info_parts info_int
  obtain ⟨w8, hw8⟩ : ∃ w8 : World, w8 = w := ⟨_, rfl⟩
  obtain ⟨B8, hB8⟩ : ∃ b, b = w8.heap.size := ⟨_, rfl⟩
  have HB8 := Lib.hid hB8
  rw [← hw8]
  clear hB8 hw8
  go_enter Tryz.func8, Tryz.ntmps8
  go_wp2_with fail
  go_loopw [3, 4] (fun v s wr => ∃ i : Nat, i ≤ 120 ∧ s = .int .i64 (i : Int) ∧ (∃ ys : List Int, ys.length = i ∧ wr.ownsRow B8 3 1 v i (nms ys) ∧ (∀ y ∈ ys, -9223372036854775808 ≤ y ∧ y ≤ 9223372036854775807)) ∧ Hid (Chg [] w8 wr)) (fun _ s _ => 120 - (intOf s).toNat)
  case atStart => exact ⟨0, by omega, rfl, ⟨[], rfl, World.ownsRow_nil _ _ _ _, fun y hy => by simp at hy⟩, Lib.hid (Chg.refl _ _)⟩
  case round =>
    obtain ⟨i, hi90, rfl, ⟨ys, hyl, ho, hyr⟩, HCr⟩ := hrel
    have HO := Lib.hid ho
    have HYL := Lib.hid hyl
    have HYR := Lib.hid hyr
    clear ho hyl hyr
    by_cases hlt9 : i < 120
    · have hltI : (i : Int) < 120 := by omega
      have p0 : (0 : Int) ≤ (i : Int) * (i : Int) := Int.mul_nonneg (by omega) (by omega)
      have p1 : (i : Int) * (i : Int) ≤ 14400 := mul_leN (a := 120) (b := 120) hi90 hi90
      have p2 : (0 : Int) ≤ (i : Int) * (k : Int) := Int.mul_nonneg (by omega) (by omega)
      have p3 : (i : Int) * (k : Int) ≤ 4800 := mul_leN (a := 120) (b := 40) hi90 hk
      have HW8 := Lib.hid (show B8 ≤ wr.heap.size by have := HCr.out.size; have := HB8.out; omega)
      have hyv : -9223372036854775808 ≤ ((i : Int) * (i : Int) * 7 + (k : Int) * 41 + (i : Int) * (k : Int)) % 211 ∧ ((i : Int) * (i : Int) * 7 + (k : Int) * 41 + (i : Int) * (k : Int)) % 211 ≤ 9223372036854775807 := by omega
      have HYV := Lib.hid hyv
      clear hyv
      go_wp2_with (at_builtin
                   refine wpList_appN rfl (.tmp 9) (.tmp 22) 26 rfl B8 3 i0 _ 1 8 Tryz.underlying26 hii hz0 hz1 hz2 rfl (by decide) _ i (nms ys) rfl (own_keep HO.out ((Chg.refl [] wr).alloc _)) ⟨wr.heap.size, 0, none⟩ 1 1 [.int .i64 (((i : Int) * (i : Int) * 7 + (k : Int) * 41 + (i : Int) * (k : Int)) % 211)] rfl rfl ?c1 ?c2 ?c3 ?c4 ?c5 ?_
                   case c1 => exact cellsN _ _ _
                   case c2 => simp [Value.oneCell']
                   case c3 => simp only [maxLen]; omega
                   case c4 => omega
                   case c5 => have := HW8.out; simp; omega
                   intro v' w6 hown' hg' _)
      generalize ((i : Int) * (i : Int) * 7 + (k : Int) * 41 + (i : Int) * (k : Int)) % 211 = y at hown' HYV
      have HO6 := Lib.hid hown'
      have HC6 := Lib.hid (show Chg [] w8 w6 from (HCr.out.alloc _).ownN (own_keep HO.out ((Chg.refl [] wr).alloc _)) (by have := HB8.out; omega) hg')
      clear hown' hg' p0 p1 p2 p3
      go_wp2_with fail
      go_roundw
      case rel => exact ⟨i + 1, by omega, by go_num, ⟨ys ++ [y], by rw [List.length_append, HYL.out]; rfl, by rw [nms_app]; exact HO6.out, fun z hz => by
        rcases List.mem_append.1 hz with h | h
        · exact HYR.out z h
        · simp only [List.mem_cons, List.not_mem_nil, or_false] at h; subst h; exact HYV.out⟩, HC6⟩
      case measure => simp [intOf]; omega
    · have hltI : ¬ (i : Int) < 120 := by omega
      obtain rfl : i = 120 := by omega
      obtain ⟨A9, c9, rfl, _, _, hs9, hp9⟩ := own_slice HO.out
      have HP := Lib.hid (show TapePost w8 (.returned (.slice A9 120 c9)) wr from ⟨A9, c9, ys, rfl, HYL.out, hs9, fun ad e => ⟨(hp9 ad e).1, by
        obtain ⟨ad', e', hlt, _⟩ := hs9 (by rw [nms_len, HYL.out]; omega)
        rw [e] at e'; injection e' with e'; subst e'; exact hlt⟩, HYR.out, HCr.out⟩)
      clear hs9 hp9
      go_wp2_with fail
      go_ret
      exact HP.out
theorem make192 (W : World) : (Instr.makeSlice 30 (.int .i64 192) (.int .i64 192)).run Tryz.prog W = .ok (.slice (some ⟨W.heap.size, 0, none⟩) 192 192) (W.alloc (.cells (bts (zeros 192)).toArray 5)) := make_u8 192 (by omega) W
set_option maxHeartbeats 8000000 in
set_option maxRecDepth 100000 in
theorem healNumbers_any : Calls Tryz.prog 3 #[] w (LawPost w) := by
  have hmk := make192
  go_enter Tryz.func3, Tryz.ntmps3
  go_wp2_with fail
  go_loopw [1, 2, 3, 4] (fun v _ _ _ wr => ∃ k : Nat, k ≤ 30 ∧ v = .int .i64 (k : Int) ∧ Hid (Chg [] w wr)) (fun v _ _ _ _ => 30 - (intOf v).toNat)
  case atStart => exact ⟨0, by omega, rfl, Lib.hid (Chg.refl _ _)⟩
  case round =>
    obtain ⟨k, hk, rfl, HCk⟩ := hrel
    by_cases hlt : k < 30
    · have hkI : (k : Int) < 30 := by omega
      obtain ⟨w7, hw7⟩ : ∃ w7 : World, w7 = wr := ⟨_, rfl⟩
      rw [← hw7] at HCk
      go_wp2_with fail
      go_loopw [2, 3, 4] (fun v _ _ wr => ∃ j : Nat, j ≤ 14 ∧ v = .int .i64 ((j : Int) - 1) ∧ Hid (Chg [] w wr)) (fun v _ _ _ => 14 - (intOf v + 1).toNat)
      case atStart => exact ⟨0, by omega, rfl, by rw [← hw7]; exact HCk⟩
      case round =>
        obtain ⟨j, hj, rfl, HCj⟩ := hrel
        clear hw7 HCk
        by_cases hltj : j < 14
        · have hjI : (j : Int) - 1 < 13 := by omega
          go_wp2_with fail
          refine (tape19_any k (by omega)).mono ?_
          rintro e w1 ⟨A, c, xs, rfl, hxl, hxs, hxp, hxr, hc1⟩
          have HXS := Lib.hid hxs
          have HXP := Lib.hid hxp
          have HXR := Lib.hid hxr
          have HXL := Lib.hid hxl
          have HC1 := Lib.hid (HCj.out.new hc1)
          clear hxl hxs hxp hxr hc1
          go_wp2_with fail
          obtain ⟨kk, hkk⟩ : ∃ kk : Int, kk = (k : Int) * 5 := ⟨_, rfl⟩
          rw [← hkk]
          have hal := (Chg.refl [] w1).alloc (.cells #[.int .i64 64, .int .i64 64, .int .i64 kk, .int .i64 64, .int .i64 0, .int .i64 64, .int .i64 64, .int .i64 64, .int .i64 9, .int .i64 64] 3)
          have hW : Whole (w1.alloc (.cells #[.int .i64 64, .int .i64 64, .int .i64 kk, .int .i64 64, .int .i64 0, .int .i64 64, .int .i64 64, .int .i64 64, .int .i64 9, .int .i64 64] 3)) w1.heap.size 3 (nms [64, 64, kk, 64, 0, 64, 64, 64, 9, 64]) := Whole.new w1 3 _
          have HMD := Lib.hid (made_any (c := c) (d := 10) (C := some ⟨w1.heap.size, 0, none⟩) (m := 10) HXL.out (HXS.out.keep hal) (fun _ ad e => ⟨(HXP.out ad e).1, Nat.lt_of_lt_of_le (HXP.out ad e).2 hal.size⟩) HXR.out (by omega) (cs := [64, 64, kk, 64, 0, 64, 64, 64, 9, 64]) rfl (Src.of_all hW) (fun _ ad e => by injection e with e; subst e; exact ⟨rfl, hW.lt⟩))
          have HC2 := Lib.hid (HC1.out.new hal)
          have HSZ := Lib.hid (show w.heap.size ≤ (w1.alloc (.cells #[.int .i64 64, .int .i64 64, .int .i64 kk, .int .i64 64, .int .i64 0, .int .i64 64, .int .i64 64, .int .i64 64, .int .i64 9, .int .i64 64] 3)).heap.size from HC2.out.size)
          clear hal hW hkk
          generalize w1.alloc (.cells #[.int .i64 64, .int .i64 64, .int .i64 kk, .int .i64 64, .int .i64 0, .int .i64 64, .int .i64 64, .int .i64 64, .int .i64 9, .int .i64 64] 3) = w2 at HMD HC2 HSZ ⊢
          refine HMD.out.mono ?_
          rintro e w3 ⟨l, _, p, bL, bS, bW, q, gL, gN, gW, rL, rN, mm, rfl, hd1, hr1, hge, hsep, hc3⟩
          have HP := Lib.hid (PrD.mk hd1 hr1 hsep)
          have HGE := Lib.hid hge
          have HC3 := Lib.hid (HC2.out.new hc3)
          have h24 : 1 ≤ (St.mk l l (falses 24)).V.length := by rw [falses_len]; omega
          clear hd1 hr1 hge hsep hc3 HMD
          go_wp2_with fail
          refine (sameD_any HP.out h24 ((j : Int) - 1)).mono ?_
          rintro e w4 ⟨rfl, _, hc4⟩
          have HC4 := Lib.hid (HC3.out.then_ hc4 (fun i hi hw => by have h1 := HGE.out i (by simp only [List.mem_cons, List.not_mem_nil, or_false] at hi ⊢; rcases hi with h | h | h | h | h | h | h <;> simp [h]); have h2 := HSZ.out; omega))
          clear hc4 h24
          go_wp2_with fail
          go_roundw
          case rel => exact ⟨j + 1, by omega, by go_num, HC4⟩
          case measure => simp [intOf]; omega
        · have hjI : ¬ (j : Int) - 1 < 13 := by omega
          go_wp2_with fail
          go_roundw
          case rel => exact ⟨k + 1, by omega, by go_num, HCj⟩
          case measure => simp [intOf]; omega
    · have hkI : ¬ (k : Int) < 30 := by omega
      go_wp2_with fail
      have hal := (Chg.refl [] wr).alloc (.cells (bts (zeros 192)).toArray 5)
      have hW := Whole.new wr 5 (bts (zeros 192))
      have HPA := Lib.hid (pair_yes (n := 192) (c := 192) (l := zeros 192) (zeros_len 192) (Src.of_all hW) (by omega) (by omega) (by omega))
      have HC2 := Lib.hid (HCk.out.new hal)
      have HSZ := Lib.hid (show w.heap.size ≤ (wr.alloc (.cells (bts (zeros 192)).toArray 5)).heap.size from HC2.out.size)
      clear hal hW
      generalize wr.alloc (.cells (bts (zeros 192)).toArray 5) = w2 at HPA HC2 HSZ ⊢
      refine HPA.out.mono ?_
      rintro e w3 ⟨p, bL, bS, bW, q, gL, gN, gW, rL, rN, mm, rfl, hd1, hr1, hge, hsep, hc3⟩
      have HP := Lib.hid (PrD.mk hd1 hr1 hsep)
      have HGE := Lib.hid hge
      have HC3 := Lib.hid (HC2.out.new hc3)
      have h3v : 1 ≤ (St.mk (zeros 192) (zeros 192) (falses (192 / 64))).V.length := by rw [falses_len]; omega
      clear hd1 hr1 hge hsep hc3 HPA
      go_wp2_with fail
      refine (sameD_any HP.out h3v 3).mono ?_
      rintro e w4 ⟨rfl, _, hc4⟩
      have HC4 := Lib.hid (HC3.out.then_ hc4 (fun i hi hw => by have h1 := HGE.out i (by simp only [List.mem_cons, List.not_mem_nil, or_false] at hi ⊢; rcases hi with h | h | h | h | h | h | h <;> simp [h]); have h2 := HSZ.out; omega))
      clear hc4 h3v
      go_wp2_with fail
      refine known19.mono ?_
      rintro e w5 ⟨rfl, hc5⟩
      have HC5 := Lib.hid (HC4.out.new hc5)
      clear hc5
      go_wp2_with fail
      go_ret
      exact ⟨rfl, HC5.out⟩
end
end Go.Proofs.YtddjgncdjdjgeaaGreat
