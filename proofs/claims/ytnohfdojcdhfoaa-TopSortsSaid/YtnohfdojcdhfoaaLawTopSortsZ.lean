/-
  Sorting six numbers: the law.
-/
import Derived.Test.YtnohfdojcdhfoaaZTopRun1
import Derived.Test.YtnohfdojcdhfoaaZTopRun2
import Derived.Test.YtnohfdojcdhfoaaZTopRun3
import Derived.Test.YtnohfdojcdhfoaaZTopRun4
import Derived.Test.YtnohfdojcdhfoaaZTopRun5
import Derived.Test.YtnohfdojcdhfoaaZTopRun6
import Derived.Test.YtnohfdojcdhfoaaZTopRun7
import Derived.Test.YtnohfdojcdhfoaaZTopRun8
import Derived.Test.YtnohfdojcdhfoaaZTopRun9
import Derived.Test.YtnohfdojcdhfoaaFrameZ
import Derived.Test.YtnohfdojcdhfoaaTopRunZ
import Derived.Test.YtnohfdojcdhfoaaTopAwakeZ
import Derived.Test.YtnohfdojcdhfoaaTopMaskZ
import Derived.Test.YtnohfdojcdhfoaaTopMemZ
import Derived.Test.YtnohfdojcdhfoaaTopSwapsPZ
import Derived.Test.YtnohfdojcdhfoaaTopSortsPZ
import Derived.Test.YtnohfdojcdhfoaaSixPZ
import Derived.Test.YtnohfdojcdhfoaaFlow2Z
import Derived.Test.YtnohfdojcdhfoaaEgFlowZ
import Derived.Deep.QuietTactic
import Derived.BigQuiet
namespace Go.Proofs.Ytnohfdojcdhfoaa
open Go.RowKit
theorem src_same {w w' : World} {A : Option Addr} {xs : List Value} (h : Src w A xs) (hs : w.heap.size ≤ w'.heap.size) (hb : ∀ ad, A = some ad → w'.heap[ad.block]? = w.heap[ad.block]?) : Src w' A xs := fun hp => by
  obtain ⟨ad, e, hlt, hx⟩ := h hp
  refine ⟨ad, e, Nat.lt_of_lt_of_le hlt hs, fun j v hj => ?_⟩
  rw [← hx j v hj]
  refine World.cell?_of_block (w := w) ?_
  have e2 : (ad.add j).block = ad.block := by unfold Addr.add; split <;> rfl
  rw [e2]; exact hb ad e
section
variable {w : World}
set_option maxHeartbeats 8000000 in
set_option maxRecDepth 100000 in
theorem topSorts_any {l : List Int} {A : Option Addr} {n c : Nat} (hl : l.length = n) (hs : Src w A (nms l)) (hsp : 0 < n → ∀ ad, A = some ad → ad.spot = none) (hr : ∀ x ∈ l, In64 x) (hn : n ≤ 9223372036854775807) : Calls Try.prog 19 #[.slice A n c] w (LawPost w) := by
  have HL := Lib.hid hl
  have HS0 := Lib.hid hs
  have HSP := Lib.hid hsp
  have HR := Lib.hid hr
  have HWS := Lib.hid (Nat.le_refl w.heap.size)
  clear hl hs hsp hr
  go_enter Try.func19, Try.ntmps19
  go_upto_region 2 with fail
  generalize hw1 : (w.alloc (.cells #[.int .i32 115, .int .i64 0, .string { data := #[54, 67, 91, 99, 33, 63, 126, 59, 48, 68, 91, 100, 32, 53, 61, 63, 126, 59, 100, 56, 42, 69, 101, 64, 70, 101, 56, 43, 64, 71, 103, 102, 60, 63, 101, 103, 36, 101, 56, 43, 102, 36, 59, 100, 32, 49, 43, 68, 93, 99, 32, 49, 45, 67, 93, 48] }] 28)).alloc (.cells #[.int .i64 1, .int .i64 1, .slice (some ⟨w.heap.size, 0, none⟩) 1 1] 31) = w1
  obtain ⟨hU1, hF1, hC1, hS1⟩ := unit_laid w srtU 1 1 1 rfl (by decide) (by decide) #[.int .i32 115, .int .i64 0, .string { data := #[54, 67, 91, 99, 33, 63, 126, 59, 48, 68, 91, 100, 32, 53, 61, 63, 126, 59, 100, 56, 42, 69, 101, 64, 70, 101, 56, 43, 64, 71, 103, 102, 60, 63, 101, 103, 36, 101, 56, 43, 102, 36, 59, 100, 32, 49, 43, 68, 93, 99, 32, 49, 45, 67, 93, 48] }] rfl hw1
  have hsl : w.heap.size < w1.heap.size := by omega
  have HW1 := Lib.hid hsl
  clear hw1 hS1
  generalize w.heap.size = gf at hU1 hF1 hsl ⊢
  generalize gf + 1 = gu at hU1 ⊢
  have HU := Lib.hid hU1
  have HF := Lib.hid hF1
  have HC := Lib.hid hC1
  have HS := Lib.hid hsl
  have HGU := Lib.hid hU1.lt
  clear hU1 hF1 hC1 hsl
  go_wp2_with fail
  refine (cnew_yes 1 1 (by omega) (by omega)).mono ?_
  rintro e w2 ⟨p, gC, gD, rfl, hM, hp, hgC, hgD, hc2⟩
  have HM2 := Lib.hid hM
  have HPB := Lib.hid (And.intro hp (And.intro hgC hgD))
  have HC2 := Lib.hid (HC.out.new hc2)
  have HU2 := Lib.hid (HU.out.keep hc2)
  have HF2 := Lib.hid (HF.out.keep hc2)
  have HB2 := Lib.hid (show w.heap.size ≤ p ∧ w.heap.size ≤ gC ∧ w.heap.size ≤ gD ∧ gf < p ∧ gf < gC ∧ gf < gD ∧ gu < p ∧ gu < gC ∧ gu < gD by have h1 := HW1.out; have h2 := HS.out; have h3 := HGU.out; omega)
  clear hM hp hgC hgD hc2 HU HF HC
  go_upto_region 6 with fail
  have hA6 : Whole (w2.alloc (.cells #[.int .i64 0, .int .i64 0, .int .i64 0, .int .i64 0, .int .i64 0, .int .i64 0] 67)) w2.heap.size 67 (nms6 (firsts l 0)) := Whole.new w2 _ _
  have hal := (Chg.refl [] w2).alloc (.cells #[.int .i64 0, .int .i64 0, .int .i64 0, .int .i64 0, .int .i64 0, .int .i64 0] 67)
  obtain ⟨ga, hga⟩ : ∃ ga, ga = w2.heap.size := ⟨_, rfl⟩
  have HGA := Lib.hid (show w.heap.size ≤ ga ∧ gf < ga ∧ gu < ga ∧ ga ≠ p ∧ ga ≠ gC ∧ ga ≠ gD by have h1 := HC2.out.size; have h2 := HM2.out.rec_.lt; have h3 := HM2.out.cel.lt; have h4 := HM2.out.dir.lt; have h5 := HU2.out.lt; have h6 := HB2.out; omega)
  have HM3 := Lib.hid (HM2.out.keep hal)
  have HU3 := Lib.hid (HU2.out.keep hal)
  have HF3 := Lib.hid (HF2.out.keep hal)
  have HC3 := Lib.hid (HC2.out.new hal)
  rw [← hga] at hA6 ⊢
  generalize w2.alloc (.cells #[.int .i64 0, .int .i64 0, .int .i64 0, .int .i64 0, .int .i64 0, .int .i64 0] 67) = w3 at hA6 HM3 HU3 HF3 HC3 ⊢
  have HA3 := Lib.hid hA6
  have HP3 := Lib.hid HM3.out.rec_.lt
  clear hA6 hal hga HM2 HU2 HF2 HC2
  go_wp2_with fail
  go_loopw [6] (fun i wr => ∃ (k : Nat) (L : List UInt8) (V : List Bool), k ≤ 6 ∧ i = .int .i64 (k : Int) ∧ Hid (Mm wr p gC gD L [] V [] 1) ∧ V.length = 1 ∧ Hid (Six L (firsts l k)) ∧ Hid (Whole wr ga 67 (nms6 (firsts l k))) ∧ Hid (Chg [ga, gC, gD] w3 wr)) (fun i _ => 6 - (intOf i).toNat)
  case atStart => exact ⟨0, zeros 64, falses 1, by omega, rfl, HM3, rfl, Lib.hid six_zero, HA3, Lib.hid (Chg.refl _ _)⟩
  case round =>
    obtain ⟨k, L, V, hk, rfl, HM, hV, HX, HA, HCr⟩ := hrel
    by_cases hlt : k < 6
    · have hcw : Chg [] w wr := HC3.out.then_ HCr.out (fun i hi hil => by
        have h1 := HGA.out; have h2 := HB2.out
        simp only [List.mem_cons, List.not_mem_nil, or_false] at hi
        omega)
      have hv : In64 (l.getD k 0) := by
        by_cases hkn : k < l.length
        · rw [List.getD_eq_getElem?_getD, List.getElem?_eq_getElem hkn]; exact HR.out _ (List.getElem_mem hkn)
        · rw [firsts_none l (by omega)]; unfold In64; omega
      have hL := HX.out.len
      obtain ⟨v, hvv⟩ : ∃ v, l.getD k 0 = v := ⟨_, rfl⟩
      have hput := HX.out.put hlt hv
      rw [firsts_next] at hput
      rw [hvv] at hv hput
      have HPUT := Lib.hid hput
      have c0 := HA.out.cell k
      rw [nms6_get _ hlt] at c0
      have f0 := HA.out.frozen k
      have hfi : firsts l (k + 1) k = v := by unfold firsts; rw [if_pos (by omega), hvv]
      have HFI := Lib.hid hfi
      have HV := Lib.hid hv
      have HVV := Lib.hid hvv
      clear hput hfi hv hvv
      by_cases hkn : k < n
      · have hsr := HS0.out.keep hcw (by rw [show (nms l).length = l.length from by simp [nms], HL.out]; omega)
        obtain ⟨ad, e0, _, hx⟩ := hsr
        have hspd := HSP.out (by omega) ad e0
        obtain ⟨ab, ao, asp⟩ := ad
        simp only at hspd
        subst hspd
        subst e0
        have c1 := hx k (.int .i64 v) (by rw [show nms l = l.map (Value.int .i64) from rfl, List.getElem?_map, ← HVV.out, List.getD_eq_getElem?_getD, List.getElem?_eq_getElem (by rw [HL.out]; exact hkn)]; rfl)
        rw [add_plain] at c1
        have hset := HA.out.set_ k (.int .i64 v)
        rw [← HVV.out, nms6_set _ hlt, firsts_next, HVV.out] at hset
        have c2 := hset.cell k
        rw [nms6_get _ hlt, HFI.out] at c2
        have HMS := Lib.hid (HM.out.away ((Chg.refl [ga] wr).setCell (p := ⟨ga, k, none⟩) (by simp) (.int .i64 v)) (by have := HGA.out; simp; omega) (by have := HGA.out; simp; omega) (by have := HGA.out; simp; omega))
        have HCS := Lib.hid (HCr.out.setCell (p := ⟨ga, k, none⟩) (by simp) (.int .i64 v))
        have HSET := Lib.hid hset
        clear hx hset
        go_wp2_with fail
        rw [show (8 : Int) * (k : Int) = ((8 * k : Nat) : Int) by omega]
        refine (store_yes HMS.out (8 * k) v true 8 rfl (by omega)).mono ?_
        rintro e w5 ⟨rfl, hm5, hc5⟩
        have HM5 := Lib.hid hm5
        have HA5 := Lib.hid (HSET.out.chg hc5 (by have := HGA.out; simp; omega))
        have HC5 := Lib.hid (HCS.out.then_ hc5 (fun i hi _ => by simp only [List.mem_cons, List.not_mem_nil, or_false] at hi ⊢; omega))
        clear hm5 hc5 c0 c1 c2 f0 hcw
        go_wp2_with fail
        go_roundw
        case rel => exact ⟨k + 1, _, _, by omega, by go_num, HM5, by rw [stV_len]; exact hV, HPUT, HA5, HC5⟩
        case measure => simp [intOf]; omega
      · have hv0 : v = 0 := by rw [← HVV.out, firsts_none l (by rw [HL.out]; omega)]
        have hfk : firsts l k k = v := by unfold firsts; rw [if_neg (by omega), hv0]
        rw [hfk] at c0
        have HA5 := Lib.hid (show Whole wr ga 67 (nms6 (firsts l (k + 1))) from by
          rw [← firsts_next, HVV.out, ← hfk, setF_self]
          exact HA.out)
        clear hfk hv0
        go_wp2_with fail
        rw [show (8 : Int) * (k : Int) = ((8 * k : Nat) : Int) by omega]
        refine (store_yes HM.out (8 * k) v true 8 rfl (by omega)).mono ?_
        rintro e w5 ⟨rfl, hm5, hc5⟩
        have HM5 := Lib.hid hm5
        have HA6 := Lib.hid (HA5.out.chg hc5 (by have := HGA.out; simp; omega))
        have HC5 := Lib.hid (HCr.out.then_ hc5 (fun i hi _ => by simp only [List.mem_cons, List.not_mem_nil, or_false] at hi ⊢; omega))
        clear hm5 hc5 c0 f0 hcw
        go_wp2_with fail
        go_roundw
        case rel => exact ⟨k + 1, _, _, by omega, by go_num, HM5, by rw [stV_len]; exact hV, HPUT, HA6, HC5⟩
        case measure => simp [intOf]; omega
    · have hd0 : decide ((k : Int) < 6) = false := decide_eq_false (by omega)
      have hk6 : k = 6 := by omega
      have HFX := Lib.hid (show ∀ j, j < 6 → firsts l k j = l.getD j 0 from fun j hj => by unfold firsts; rw [if_pos (by omega)])
      obtain ⟨x, hx⟩ : ∃ x, x = firsts l k := ⟨_, rfl⟩
      rw [← hx] at HX HA HFX
      clear hx hk6
      obtain ⟨w4, hw4⟩ : ∃ w4 : World, w4 = wr := ⟨_, rfl⟩
      rw [← hw4] at HM HA HCr ⊢
      clear hw4
      have HC4 := HCr
      go_wp2_with fail
      go_loopw [7] (fun i wr => ∃ (k : Nat) (y : Nat → Int), 1 ≤ k ∧ k ≤ 6 ∧ i = .int .i64 (k : Int) ∧ Hid (Whole wr ga 67 (nms6 y)) ∧ Hid ((row6 y).Perm (row6 x)) ∧ Hid (∀ j, j < 6 → In64 (y j)) ∧ Hid (∀ p q, p < q → q < k → y p ≤ y q) ∧ Hid (Chg [ga] w4 wr)) (fun i _ => 7 - (intOf i).toNat)
      case atStart => exact ⟨1, x, by omega, by omega, rfl, HA, Lib.hid (List.Perm.refl _), Lib.hid HX.out.in_, Lib.hid (fun p q h1 h2 => by omega), Lib.hid (Chg.refl _ _)⟩
      case round =>
        obtain ⟨k, y, hk1, hk6, rfl, HA, HP, HI, HO, HCr⟩ := hrel
        by_cases hlt : k < 6
        · obtain ⟨w5, hw5⟩ : ∃ w5 : World, w5 = wr := ⟨_, rfl⟩
          rw [← hw5] at HA HCr ⊢
          clear hw5
          have hd6 : decide ((k : Int) < 6) = true := decide_eq_true (by omega)
          go_wp2_with fail
          go_loopw [8] (fun i wr => ∃ (j : Nat) (z : Nat → Int), j ≤ k ∧ i = .int .i64 (j : Int) ∧ Hid (Whole wr ga 67 (nms6 z)) ∧ Hid ((row6 z).Perm (row6 x)) ∧ Hid (∀ j, j < 6 → In64 (z j)) ∧ Hid (Ins z k j) ∧ Hid (Chg [ga] w4 wr)) (fun i _ => (intOf i).toNat)
          case atStart => exact ⟨k, y, by omega, rfl, HA, HP, HI, Lib.hid (ins_start HO.out), HCr⟩
          case round =>
            obtain ⟨j, z, hj, rfl, HA, HP, HI, HO, HCr⟩ := hrel
            cases j with
            | zero =>
              have hg : decide ((0 : Int) > 0) = false := by decide
              go_wp2_with fail
              go_quiet (fail)
              go_wp2_with fail
              go_roundw
              case rel => exact ⟨k + 1, z, by omega, by omega, by go_num, Lib.hid (HA.out.drewN _), HP, HI, Lib.hid (ins_zero HO.out), Lib.hid (HCr.out.drewN _)⟩
              case measure => simp [intOf]; omega
            | succ j =>
              have c0 := HA.out.cell j
              rw [nms6_get _ (by omega)] at c0
              have c1 := HA.out.cell (j + 1)
              rw [nms6_get _ (by omega)] at c1
              have f0 := HA.out.frozen j
              have f1 := HA.out.frozen (j + 1)
              have e1 : IntKind.i64.wrap (((j + 1 : Nat) : Int) - 1) = (j : Int) := by rw [IntKind.wrap_i64]; omega
              have hg : decide (((j + 1 : Nat) : Int) > 0) = true := decide_eq_true (by omega)
              have hj5 : (j : Int) < 6 := by omega
              have hj6 : ((j + 1 : Nat) : Int) < 6 := by omega
              by_cases hlt2 : z (j + 1) < z j
              · have hg2 : decide (z j > z (j + 1)) = true := decide_eq_true (by omega)
                go_wp2_with fail
                go_quiet (fail)
                go_wp2_with fail
                go_region
                have hset := ((HA.out.drewN (nq + 1)).set_ j (.int .i64 (z (j + 1)))).set_ (j + 1) (.int .i64 (z j))
                rw [swapF_set z (by omega)] at hset
                have HSET := Lib.hid hset
                have HCS := Lib.hid (((HCr.out.drewN (nq + 1)).setCell (p := ⟨ga, j, none⟩) (by simp) (.int .i64 (z (j + 1)))).setCell (p := ⟨ga, j + 1, none⟩) (by simp) (.int .i64 (z j)))
                generalize ((wr.drewN (nq + 1)).setCell ⟨ga, j, none⟩ (.int .i64 (z (j + 1)))).setCell ⟨ga, j + 1, none⟩ (.int .i64 (z j)) = w6 at HSET HCS ⊢
                clear hset c0 c1 f0 f1
                go_wp2_with fail
                go_roundw
                case rel => exact ⟨j, swapF z j, by omega, rfl, HSET, Lib.hid ((row6_swap z (by omega)).trans HP.out), Lib.hid (swapF_in (by omega) HI.out), Lib.hid (ins_swap HO.out (by omega) hlt2), HCS⟩
                case measure => simp [intOf]
              · have hg2 : decide (z j > z (j + 1)) = false := decide_eq_false (by omega)
                go_wp2_with fail
                go_quiet (fail)
                go_wp2_with fail
                go_roundw
                case rel =>
                  exact ⟨k + 1, z, by omega, by omega, by go_num, Lib.hid (HA.out.drewN _), HP, HI, Lib.hid (ins_end HO.out (by omega)), Lib.hid (HCr.out.drewN _)⟩
                case measure => simp [intOf]; omega
        · have hd7 : decide ((k : Int) < 6) = false := decide_eq_false (by omega)
          have HSORT := Lib.hid (show Top6 y 0 from fun p q h1 h2 _ => HO.out p q h1 (by omega))
          clear hlt
          have HMw := Lib.hid (HM.out.away HCr.out (by have := HGA.out; simp; omega) (by have := HGA.out; simp; omega) (by have := HGA.out; simp; omega))
          have hcw : Chg [] w wr := (HC3.out.then_ HC4.out (fun i hi hil => by
            have h1 := HGA.out; have h2 := HB2.out
            simp only [List.mem_cons, List.not_mem_nil, or_false] at hi
            omega)).then_ HCr.out (fun i hi hil => by
            have h1 := HGA.out
            simp only [List.mem_cons, List.not_mem_nil, or_false] at hi
            omega)
          have HCW := Lib.hid hcw
          have hold : ∀ i, i < w3.heap.size → i ≠ ga → i ≠ gC → i ≠ gD → wr.heap[i]? = w3.heap[i]? := fun i h1 h2 h3 h4 => (HCr.out.block i (Nat.lt_of_lt_of_le h1 HC4.out.size) (by simp; exact h2)).trans (HC4.out.block i h1 (by simp; exact ⟨h2, h3, h4⟩))
          have hun : gu ≠ ga ∧ gu ≠ gC ∧ gu ≠ gD ∧ gf ≠ ga ∧ gf ≠ gC ∧ gf ≠ gD := by have h1 := HGA.out; have h2 := HB2.out; omega
          have HUW := Lib.hid (show Whole wr gu 31 _ from (hold gu HU3.out.lt hun.1 hun.2.1 hun.2.2.1).trans HU3.out)
          have HFW := Lib.hid (show Fnr wr (some ⟨gf, 0, none⟩) 1 1 srtU from ⟨HF3.out.len, src_same HF3.out.src (Nat.le_trans HC4.out.size HCr.out.size) (fun ad e => by injection e with e; subst e; exact hold gf (Nat.lt_of_lt_of_le HS.out (Nat.le_trans HPB.out.1 (Nat.le_of_lt HP3.out))) hun.2.2.2.1 hun.2.2.2.2.1 hun.2.2.2.2.2), HF3.out.cap, HF3.out.max, HF3.out.spot, HF3.out.args⟩)
          obtain ⟨s', hdo, hV', hq', y', hY', hT', hP'⟩ := srt_run HX.out hV
          have HYS := Lib.hid (show ∀ j, j < 6 → ldI s'.L (8 * j) 8 = y j from fun j hj => by rw [hY'.at_ j hj]; exact sorted_same hT' HSORT.out (hP'.trans HP.out.symm) j hj)
          have HYL := Lib.hid hY'.len
          have HSZ := Lib.hid (show gf < wr.heap.size by have h2 := HS.out; have h5 := HPB.out; have h6 := HMw.out.rec_.lt; omega)
          have HTN := Lib.hid (show gf ∉ [p, gC, gD] by have := HB2.out; simp; omega)
          clear hY' hT' hP' hold hun hV' hcw
          go_upto_region 19 with fail
          have TOK := efT_ok (B := wr.heap.size) (Tl := [p, gC, gD]) (P := resP 0 0 (s'.fuel : Int)) (hard := [3]) (soft := [2, 3])
          refine F2.wp_flow (by kernel_rfl) (efT wr.heap.size [p, gC, gD] (resP 0 0 (s'.fuel : Int)) [3] [2, 3]) TOK (by kernel_rfl) (by kernel_rfl) ?_
          refine F2.flow1h (r := .agg #[.int .i64 1, .int .i64 1, .slice (some ⟨gf, 0, none⟩) 1 1]) TOK rfl (.out rfl rfl) rfl (fun ev W he hW e1 => by have hu := hW.fe.whole (show Whole wr.drew gu 31 _ from HUW.out) (by decide); have c0 := hu.cell 0; have c1 := hu.cell 1; have c2 := hu.cell 2; clear hu; go_simp) ?_
          refine F2.flow_move_out TOK rfl rfl rfl (h := ?_)
          refine ef_row (Nat.le_refl _) rfl rfl (by kernel_rfl) (.cons (.const _) .nil) rfl (by intro h; cases h) ?_
          refine ef_runM (fuel := 20000) (kf := 0) (m2 := 0) (args := []) (fun u => ∃ A m c, u = .slice A m c) rfl rfl rfl rfl (by kernel_rfl) rfl (by kernel_rfl) (.inn rfl) (.inn rfl) (HMw.out.keep (Chg.refl [] _).drew) rfl (.const _) (.const _) (fun ev W he hc hf => ⟨none, 0, he.const _, Src.nil _ _⟩) (HFW.out.keep (Chg.refl [] _).drew) (fun ad e => by injection e with e; subst e; exact ⟨HSZ.out, HTN.out⟩) srt_right rfl rfl rfl (by decide) rfl hdo (fun A c => ⟨A, _, c, rfl⟩) rfl (by intro h; cases h) ?_
          refine ef_moveM rfl rfl (by intro h; cases h) ?_
          refine ef_x0 rfl rfl (by intro h; cases h) ?_
          refine ef_x1 rfl rfl (by intro h; cases h) ?_
          refine ef_var (Nat.le_refl _) rfl (by intro h; cases h) (fun ev W => by go_simp) ?_
          refine ef_put rfl rfl (fun u h => by obtain ⟨A, m, c, rfl⟩ := h; exact ⟨A, m, c, rfl⟩) (fun u h => by obtain ⟨A, m, c, rfl⟩ := h; rfl) rfl ?_
          refine F2.flow_assign TOK rfl (keeps_isV _) (.inr (keeps_isV _)) rfl ?_
          intro vs W hW hF hN
          obtain ⟨gx, cs, ex, hbx, hwx, _, A5, m5, c5, rfl⟩ := hN 8 _ _ 9 rfl rfl rfl rfl
          obtain ⟨_, gC5, gD5, X5, Y5, hM5⟩ := hF 76 _ rfl (by kernel_rfl)
          have ee : vs 10 = .int .i64 0 := hF 10 _ rfl rfl
          have hcw : Chg [p, gC, gD] wr W := Chg.then_ (Chg.refl [p, gC, gD] wr).drew (hW.fe.chg (show wr.drew.heap.size ≤ wr.heap.size from Nat.le_refl _)) (fun i hi _ => hi)
          have HM5 := Lib.hid hM5
          have HA5 := Lib.hid (HA.out.chg hcw (by have := HGA.out; simp; omega))
          have HC5 := Lib.hid (HCW.out.then_ hcw (fun i hi hil => by have h2 := HB2.out; simp only [List.mem_cons, List.not_mem_nil, or_false] at hi; omega))
          have x1 := hwx.cell 1
          simp only [putAll, Act.put, List.setIfInBounds_toArray, List.set_cons_zero, List.set_cons_succ]
          rw [ex, ee]
          clear hF hN hW hwx hcw ex ee hbx TOK hM5 HM HMw
          go_wp2_with fail
          go_loop [11] (fun i => ∃ m : Nat, m ≤ 6 ∧ i = .int .i64 (m : Int)) (fun i => 6 - (intOf i).toNat)
          case atStart => exact ⟨0, by omega, rfl⟩
          case round =>
            obtain ⟨m, hm, rfl⟩ := hrel
            by_cases hlt : m < 6
            · have hd8 : decide ((m : Int) < 6) = true := decide_eq_true (by omega)
              have c0 := HA5.out.cell m
              rw [nms6_get _ hlt] at c0
              go_wp2_with fail
              rw [show (8 : Int) * (m : Int) = ((8 * m : Nat) : Int) by omega]
              refine (load_yes HM5.out (8 * m) true 8 rfl (by have := HYL.out; omega)).mono ?_
              rintro e w7 ⟨rfl, rfl⟩
              rw [HYS.out m hlt]
              go_wp2_with fail
              go_round
              case rel => exact ⟨m + 1, by omega, by go_num⟩
              case measure => simp [intOf]; omega
            · have hd8 : decide ((m : Int) < 6) = false := decide_eq_false (by omega)
              go_wp2_with fail
              refine awake_any.mono ?_
              rintro e w8 ⟨rfl, hc8⟩
              have HP := Lib.hid (show LawPost w (.returned (.bool true)) w8 from ⟨rfl, HC5.out.new hc8⟩)
              clear hc8
              go_wp2_with fail
              go_ret
              exact HP.out
end
end Go.Proofs.Ytnohfdojcdhfoaa
