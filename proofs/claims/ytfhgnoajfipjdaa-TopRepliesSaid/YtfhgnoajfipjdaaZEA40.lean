/-
  EA: LawTopReplies.
-/
import Derived.Test.YtfhgnoajfipjdaaZEA2
import Derived.Test.YtfhgnoajfipjdaaZEA4
import Derived.Test.YtfhgnoajfipjdaaZEA34
import Derived.Test.YtfhgnoajfipjdaaZEA37
import Derived.Test.YtfhgnoajfipjdaaZEA38
import Derived.Deep.QuietTactic
import Derived.BigQuiet
namespace Go.Proofs.Ytfhgnoajfipjdaa
open Go.RowKit
/-- int64s, as interface values. -/
def boxq (l : List Int) : List Value := l.map fun n => .iface 2 (.int .i64 n)
theorem boxq_len (l : List Int) : (boxq l).length = l.length := by simp [boxq]
theorem boxq_next (l : List Int) (k : Nat) (h : k < l.length) : boxq (l.take (k + 1)) = boxq (l.take k) ++ [.iface 2 (.int .i64 l[k])] := by
  rw [List.take_succ_eq_append_getElem h]; simp only [boxq, List.map_append]; rfl
theorem boxq_nums (l : List Int) : Nums (boxq l) (l.map some) := by
  refine ⟨by simp [boxq], fun i v r hv hr => ?_⟩
  simp only [boxq, List.getElem?_map] at hv hr
  cases hl : l[i]? with
  | none => rw [hl] at hv; cases hv
  | some n =>
    rw [hl] at hv hr
    simp at hv hr
    subst hv; subst hr
    exact Num.i64 n
theorem repV_snoc : ∀ (l : List Int) (c x : Int), repV c (l ++ [x]) = wrap64 (wrap64 (repV c l * 10) + x)
  | [], _, _ => rfl
  | _ :: l, _, x => repV_snoc l _ x
theorem wrapK (n : Int) : IntKind.i64.wrap n = wrap64 n := by rw [IntKind.wrap_i64, wrap64]
theorem info_anyq : (Try.prog.info? 20).map (fun i => (i.zero, i.size, i.bytes)) = some (some .nilIface, 1, 16) := by kernel_rfl
/-- What the run tells. -/
def RepU (n : Nat) (W : World) (u : Value) : Prop := QSl W u (repQ n)
theorem repU_keep {n : Nat} : KeepP (RepU n) := fun K a b u hf h1 => QSl.fe h1 hf (by decide)
def repTS : List TypeId := 34 :: egTS
section
variable {w : World} {TA : Option Addr} {tn tc : Nat} {vs : List Int}
set_option maxHeartbeats 16000000 in
set_option maxRecDepth 100000 in
theorem topReplies_any (hs : Src w TA (nms vs)) (hlen : vs.length = tn) (hspot : 0 < tn → ∀ ad, TA = some ad → ad.spot = none) (hn : tn ≤ 9223372036854775807) :
    Calls Try.prog 7 #[.slice TA tn tc] w (LawPost w) := by
  obtain ⟨i0, hi, hz0, hz1, hz2⟩ := info_parts info_anyq
  obtain ⟨n, hmn⟩ : ∃ n : Nat, n = min tn 20 := ⟨_, rfl⟩
  have hmin : min (tn : Int) 20 = (n : Int) := by omega
  have hn20 : n ≤ 20 := by omega
  have hntn : n ≤ tn := by omega
  have HS := Lib.hid hs
  have HLN := Lib.hid hlen
  have HSP := Lib.hid hspot
  clear hs hlen hspot hmn
  go_enter Try.func7, Try.ntmps7
  go_upto_region 2 with fail
  generalize hw1 : (w.alloc (.cells #[.int .i32 102, .int .i64 1, .string { data := #[48, 67, 91, 97, 33, 63, 126, 59, 99, 32, 49, 48, 42, 97, 207, 128, 113, 43, 67, 97, 32, 49, 45, 65, 93, 99] }] 51)).alloc (.cells #[.int .i64 0, .int .i64 0, .slice (some ⟨w.heap.size, 0, none⟩) 1 1] 28) = w1
  obtain ⟨hU1, hF1, hC1, hS1⟩ := unit_laid w repU 0 0 1 rfl (by decide) (by decide) #[.int .i32 102, .int .i64 1, .string { data := #[48, 67, 91, 97, 33, 63, 126, 59, 99, 32, 49, 48, 42, 97, 207, 128, 113, 43, 67, 97, 32, 49, 45, 65, 93, 99] }] rfl hw1
  have hsl : w.heap.size < w1.heap.size := by omega
  clear hw1 hS1
  obtain ⟨B0, hB0⟩ : ∃ B0, B0 = w.heap.size := ⟨_, rfl⟩
  rw [← hB0] at hU1 hF1 hsl ⊢
  obtain ⟨gf, hgf⟩ : ∃ gf, gf = B0 := ⟨_, rfl⟩
  rw [← hgf] at hU1 hF1 ⊢
  generalize gf + 1 = gu at hU1 ⊢
  have HU := Lib.hid hU1
  have HF := Lib.hid hF1
  have HC := Lib.hid hC1
  have HSL := Lib.hid (show gf < w1.heap.size by omega)
  have HB0 := Lib.hid hB0
  clear hU1 hF1 hC1 hsl hgf hB0
  go_wp2_with fail
  go_loopw [4, 5, 7] (fun v c i wr => ∃ k : Nat, k ≤ n ∧ i = .int .i64 (k : Int) ∧ c = .int .i64 (repV 0 (vs.take k)) ∧ wr.ownsRow w1.heap.size 20 1 v k (boxq (vs.take k)) ∧ Hid (Chg [] w1 wr)) (fun _ _ i _ => n - (intOf i).toNat)
  case atStart => exact ⟨0, Nat.zero_le _, rfl, rfl, own_nil _ _ _, Lib.hid (Chg.refl _ _)⟩
  case round =>
    obtain ⟨k, hk, rfl, rfl, hown, hcr⟩ := hrel
    by_cases hlt : k < n
    · have hla : k < vs.length := by have := HLN.out; omega
      obtain ⟨ad, hTA, hab, hx⟩ := HS.out (by rw [nms_len]; omega)
      obtain ⟨b1, o1, s1⟩ := ad
      obtain rfl : s1 = none := HSP.out (by omega) _ hTA
      have hx1 := hx k _ (nms_get vs k hla)
      rw [add_plain] at hx1
      subst hTA
      obtain ⟨z, hz⟩ : ∃ z, z = vs[k] := ⟨_, rfl⟩
      rw [← hz] at hx1
      have hc1 : wr.cell? ⟨b1, o1 + k, none⟩ = some (.int .i64 z) := cell_keep hx1 (HC.out.new hcr.out)
      have HT := Lib.hid (show boxq (vs.take (k + 1)) = boxq (vs.take k) ++ [.iface 2 (.int .i64 z)] by rw [boxq_next _ k hla, hz])
      have HV := Lib.hid (show repV 0 (vs.take (k + 1)) = wrap64 (wrap64 (repV 0 (vs.take k) * 10) + z) by rw [List.take_succ_eq_append_getElem hla, repV_snoc, hz])
      clear hz
      generalize repV 0 (vs.take k) = c0 at HV ⊢
      obtain ⟨X, hX⟩ : ∃ X, X = boxq (vs.take k) := ⟨_, rfl⟩
      rw [← hX] at hown HT
      have HX1 := Lib.hid hx1
      clear hx hx1 hX hab
      have hkI : (k : Int) < (n : Int) := by omega
      have hkT : (k : Int) < (tn : Int) := by omega
      have hbs := hcr.out.size
      have e1 := wrapK (c0 * 10)
      have e2 := wrapK (wrap64 (c0 * 10) + z)
      go_wp2_with (first
        | (at_builtin
           refine wpList_append_own _ rfl (.tmp 22) (.tmp 28) _ rfl w1.heap.size 20 i0 .nilIface 1 16 Try.underlying60 hi hz0 hz1 hz2 rfl (by decide) _ k X rfl (own_keep hown ((Chg.refl _ _).alloc _)) ⟨wr.heap.size, 0, none⟩ 1 1 [.iface 2 (.int .i64 z)] rfl rfl ?c1 ?c2 ?c3 ?c4 ?c5 ?_
           case c1 => exact cell_one_new _ _ _
           case c2 => simp [Value.oneCell']
           case c3 => simp only [maxLen]; omega
           case c4 => omega
           case c5 => simp; omega
           intro v' w2 hown' hg' _
           have hcg2 : Chg [] w1 w2 := chg_grown (hcr.out.alloc _) hg' fun g hgg => (hown.lt g hgg).1
           have hc2 := cell_keep HX1.out (HC.out.new hcg2)
           have HCG := Lib.hid hcg2
           clear hcg2 hc1))
      go_roundw
      case rel =>
        refine ⟨k + 1, by omega, by go_num, ?_, ?_, HCG⟩
        · rw [HV.out]
        · rw [HT.out]; exact hown'
      case measure => simp [intOf]; omega
    · obtain rfl : n = k := by omega
      have hnv : (vs.take n).length = n := by rw [List.length_take]; have := HLN.out; omega
      have HNV := Lib.hid hnv
      obtain ⟨s', hdo, hqs, hsL, hsV⟩ := rep_run (vs.take n) (by omega)
      have HN := Lib.hid (boxq_nums (vs.take n))
      have HBL := Lib.hid (boxq_len (vs.take n))
      rw [hnv] at hdo hqs
      generalize hval : repV 0 (vs.take n) = val at hdo ⊢
      generalize hls : vs.take n = ls at hdo hown HN HBL HNV
      have HDO := Lib.hid hdo
      have HQS := Lib.hid hqs
      obtain ⟨Av, cv, rfl, hvl, hcv, hvs, hvp⟩ := own_slice hown
      have HVS := Lib.hid hvs
      have HVP := Lib.hid hvp
      have HU2 := Lib.hid (HU.out.keep hcr.out)
      have HF2 := Lib.hid (HF.out.keep hcr.out)
      have HC2 := Lib.hid (HC.out.new hcr.out)
      have HSL2 := Lib.hid (Nat.lt_of_lt_of_le HSL.out hcr.out.size)
      clear hdo hqs hown hvs hvp hval hls hnv hlt hk hmin hntn
      have hI : ¬ (n : Int) < (n : Int) := by omega
      go_upto_region 10 with fail
      have KP : KeepP (RepU n) := repU_keep
      have KR := keepP_res (val := val) (trap := 0) (fuel := (s'.fuel : Int)) KP
      have TOK := ewT_ok (B := wr.heap.size) (Tl := []) (TS := repTS) (hard := [6]) (soft := [1, 3, 6, 7, 8]) KR (by decide)
      refine F2.wp_flow (by kernel_rfl) (ewT wr.heap.size [] repTS (resW val 0 (s'.fuel : Int) (RepU n)) [6] [1, 3, 6, 7, 8]) TOK (by kernel_rfl) (by kernel_rfl) ?_
      refine F2.flow1h (r := .agg #[.int .i64 0, .int .i64 0, .slice (some ⟨gf, 0, none⟩) 1 1]) TOK rfl (.out rfl rfl) rfl (fun ev W he hW e1 => by have hu := hW.fe.whole (show Whole wr.drew gu 28 _ from HU2.out) (by decide); have c0 := hu.cell 0; have c1 := hu.cell 1; have c2 := hu.cell 2; clear hu; go_simp) ?_
      refine ew_new KR 0 0 (by decide) (by decide) (Nat.le_refl _) rfl rfl (by kernel_rfl) (.cons (.const _) (.cons (.const _) .nil)) rfl (by intro h; cases h) ?_
      refine F2.flow_move_out TOK rfl rfl rfl (h := ?_)
      refine F2.flow_calld (rowEF wr.heap.size (ls.map some)) (keepsW_row _) (.inl rfl) (by kernel_rfl) rfl (.cons (.inn rfl) .nil) (fun W hW => ?_) ?_ (by intro h; cases h)
      · have hc0 : Chg [] wr W := (Chg.refl [] wr).drew.new (hW.fe.chg (show wr.drew.heap.size ≤ wr.heap.size from Nat.le_refl _))
        refine (rnew_any (m := n) HN.out (HVS.out.keep hc0) (fun ad e => (HVP.out ad e).1) (by rw [HBL.out, HNV.out]) hcv (by omega)).mono ?_
        rintro e w3 ⟨rp, a, rfl, hR, hrp, hc⟩
        rw [List.take_of_length_le (by rw [List.length_map, HNV.out]; exact Nat.le_refl _)] at hR
        exact ⟨_, rfl, ew_by KR _ hc, rp, a, rfl, hR, Nat.le_trans hc0.size hrp⟩
      refine F2.flow_move_out TOK rfl rfl rfl (h := ?_)
      refine ew_args KR 1 [(n : Int)] (by decide) (Nat.le_refl _) (fun ev W he hf => by have e0 : ev (.tmp 42) = .int .i64 (n : Int) := hf.1; clear hf; go_simp; rfl) rfl (by intro h; cases h) ?_
      refine ew_run KP rfl rfl rfl (by kernel_rfl) (Nat.le_refl _) (fun ev W he hc hfs => ?_) rfl (by intro h; cases h) ?_
      · obtain ⟨f1, f2, f3, f4, f5, f6, _⟩ := hfs
        have e1 : ev (.tmp 38) = unitV 0 0 (some ⟨gf, 0, none⟩) 1 1 := f1
        obtain ⟨p', gC', gD', X', Y', e2, hM, _, hp1, hC1, hD1⟩ : memW wr.heap.size [] (fun _ _ _ => True) (zeros (0 * 64)) (falses 0) 0 (ev (.tmp 39)) W := f2
        obtain ⟨rp, av, e3, hR, hrp⟩ : rowEF wr.heap.size (ls.map some) (ev (.tmp 41)) W := f3
        have e4 : ev (.const (.int .i32 102)) = .int .i32 102 := he.const _
        have e5 : ev (.const (.int .i64 9999)) = .int .i64 9999 := he.const _
        obtain ⟨ga, e6, hga, hgb⟩ : argsF wr.heap.size 1 [(n : Int)] (ev (.tmp 43)) W := f6
        have hcW : Chg [] wr W := (Chg.refl [] wr).drew.new hc
        rw [show Array.map ev #[.tmp 38, .tmp 39, .tmp 41, .const (.int .i32 102), .const (.int .i64 9999), .tmp 43] = #[ev (.tmp 38), ev (.tmp 39), ev (.tmp 41), ev (.const (.int .i32 102)), ev (.const (.int .i64 9999)), ev (.tmp 43)] by simp]
        rw [e1, e2, e3, e4, e5, e6]
        have hgfW := HSL2.out
        have hsz := hcW.size
        have hb : ∀ i ∈ [p', gC', gD', rp], wr.heap.size ≤ i := fun i hi => by
          simp only [List.mem_cons, List.not_mem_nil, or_false] at hi hp1 hC1 hD1
          omega
        refine (engrun_any (T := [p', gC', gD', rp]) (fuel := 9999) (k := 0) (f := ⟨102, 1, _⟩) (args := [(n : Int)]) hM hR (HF2.out.keep hcW) rep_right (by simp) (by simp) (by simp) (by simp) (fun i hi => by simp [Value.ownBlock] at hi) (fun ad e => by injection e with e; subst e; exact ⟨by show gf < _; omega, fun hm => by have := hb gf hm; omega⟩) rfl rfl rfl (by omega) (by simp) rfl (Src.of_all hga) HDO.out).mono ?_
        rintro e w5 ⟨v5, rfl, hQ, _, _, hc5⟩
        have hfe : Fe (fun k => wr.heap.size ≤ k ∨ k ∈ []) egTS W w5 := fe_run hM hR hc5 (fun i hi => by simpa [or_assoc] using Or.inl hi) (fun i hi => .inl (hb i hi)) (fun t ht => ht) (fun ⟨i, hi⟩ => by simp [Value.ownBlock] at hi)
        refine ⟨v5, rfl, ?_, fun u' hu' => QSl.fe hu' hfe (by decide), hfe.sub (fun t ht => List.mem_cons_of_mem _ ht), fun g cs hW => hfe.whole hW (by decide)⟩
        show QSl w5 v5 (repQ n)
        rw [HQS.out] at hQ
        simpa using hQ
      refine ew_move KR KP rfl rfl rfl (by intro h; cases h) ?_
      refine ew_x0 KR KP rfl rfl rfl (by intro h; cases h) ?_
      refine ew_x1 KR rfl rfl (by intro h; cases h) ?_
      refine ew_var KR (Nat.le_refl _) rfl (by intro h; cases h) (fun ev W => by go_simp) ?_
      refine ew_put KP (by decide) rfl rfl (fun W u hu => by obtain ⟨A, c, rfl, _⟩ := hu; rfl) rfl ?_
      refine F2.flow_assign TOK rfl (keeps_isV _) (.inr (keeps_isV _)) rfl ?_
      intro vs5 W hW hF hN
      obtain ⟨gx, cs, ex, hbx, hwx, _, u5, rfl, hu5⟩ := hN 11 _ _ 8 rfl rfl rfl rfl
      have ee : vs5 9 = .int .i64 0 := hF 9 _ rfl rfl
      have hcw : Chg [] wr W := Chg.new (Chg.refl [] wr).drew (hW.fe.chg (show wr.drew.heap.size ≤ wr.heap.size from Nat.le_refl _))
      have HC5 := Lib.hid (HC2.out.new hcw)
      have HX5 := Lib.hid hwx
      obtain ⟨A5, c5, rfl, hq1, hq2, hq3, _⟩ := hu5
      have HQ2 := Lib.hid hq2
      have HQ3 := Lib.hid hq3
      simp only [putAll, Act.put, List.setIfInBounds_toArray, List.set_cons_zero, List.set_cons_succ]
      rw [ex, ee]
      clear hF hN hW hwx hcw ex ee hbx TOK KP KR hq1 hq2 hq3
      obtain ⟨w5, hw5⟩ : ∃ w5 : World, w5 = W := ⟨_, rfl⟩
      rw [← hw5] at HC5 HX5 HQ2 ⊢
      clear hw5
      have x0 := HX5.out.cell 0
      have x1 := HX5.out.cell 1
      have x2 := HX5.out.cell 2
      have x3 := HX5.out.cell 3
      rw [repQ_len] at x3
      simp only [List.getElem?_cons_zero, List.getElem?_cons_succ] at x0 x1 x2 x3
      have v1 : (val != val) = false := by simp
      have v2 : ((n : Int) != (n : Int)) = false := by simp
      go_wp2_with fail
      go_loopw [70] (fun i wq => ∃ k : Nat, i = .int .i64 (k : Int) ∧ k ≤ n ∧ Hid (Chg [] w5 wq)) (fun i _ => n - (intOf i).toNat)
      case atStart => exact ⟨0, rfl, Nat.zero_le _, Lib.hid (Chg.refl _ _)⟩
      case round =>
        obtain ⟨k, rfl, hk, hcq⟩ := hrel
        have r3 := cell_keep x3 hcq.out
        clear x0 x1 x2 x3
        by_cases hlt : k < n
        · have hkI : (k : Int) < (n : Int) := by omega
          have hk0 : (0 : Int) ≤ (k : Int) := by omega
          obtain ⟨b1, o1, hA1, y0, y1⟩ := qs_cells (HQ2.out.keep hcq.out) HQ3.out (k := k) (by rw [repQ_len]; exact hlt)
          rw [repQ_get n k hlt] at y0 y1
          subst hA1
          simp only at y0 y1
          have hwn : IntKind.i64.wrap ((n : Int) - (k : Int)) = (n : Int) - (k : Int) := by rw [IntKind.wrap_i64]; omega
          have v3 : ((n : Int) - (k : Int) != (n : Int) - (k : Int)) = false := by simp
          go_wp2_with fail
          go_roundw
          case rel => exact ⟨k + 1, by go_num, by omega, hcq⟩
          case measure => simp [intOf]; omega
        · have hkI : ¬ (k : Int) < (n : Int) := by omega
          have HC6 := Lib.hid (HC5.out.new hcq.out)
          go_wp2_with fail
          refine awake_any.mono ?_
          rintro e w9 ⟨rfl, hc9⟩
          have HP := Lib.hid (show LawPost w (.returned (.bool true)) w9 from ⟨rfl, HC6.out.new hc9⟩)
          clear hc9
          go_wp2_with fail
          go_ret
          exact HP.out
end
end Go.Proofs.Ytfhgnoajfipjdaa
