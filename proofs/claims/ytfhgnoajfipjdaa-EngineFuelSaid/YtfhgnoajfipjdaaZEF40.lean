/-
  EF: ArgsU, LawEngineFuel.
-/
import Derived.Test.YtfhgnoajfipjdaaZEF3
import Derived.Test.YtfhgnoajfipjdaaZEF13
import Derived.Test.YtfhgnoajfipjdaaZEF29
import Derived.Test.YtfhgnoajfipjdaaZEF36
import Derived.Test.YtfhgnoajfipjdaaZEF37
import Derived.Test.YtfhgnoajfipjdaaZEF39
import Derived.Deep.QuietTactic
import Derived.BigQuiet
namespace Go.Proofs.Ytfhgnoajfipjdaa
open Go.RowKit
/-- What Args answers. -/
def ArgsPost (w : World) (l : List FnV) (e : Ending) (w' : World) : Prop := ∃ (k : Nat) (f : FnV) (xs : List Int) (g : Nat), l[k]? = some f ∧ xs.length = f.args.toNat ∧ (∀ x ∈ xs, -9223372036854775808 ≤ x ∧ x ≤ 9223372036854775807) ∧ e = .returned (.tuple #[.int .i32 f.name, .slice (some ⟨g, 0, none⟩) xs.length xs.length]) ∧ w.heap.size ≤ g ∧ Whole w' g 2 (nms xs) ∧ Chg [] w w'
theorem fnCs_at : ∀ (l : List FnV) (k : Nat) (f : FnV), l[k]? = some f → (fnCs l)[k * 3]? = some (.int .i32 f.name) ∧ (fnCs l)[k * 3 + 1]? = some (.int .i64 f.args) ∧ (fnCs l)[k * 3 + 2]? = some (.string f.code)
  | x :: l, 0, f, h => by
    simp only [List.getElem?_cons_zero, Option.some.injEq] at h
    subst h
    exact ⟨rfl, rfl, rfl⟩
  | x :: l, k + 1, f, h => by
    rw [List.getElem?_cons_succ] at h
    have := fnCs_at l k f h
    simp only [fnCs, fnC, List.cons_append, List.nil_append]
    rw [show (k + 1) * 3 = k * 3 + 1 + 1 + 1 from by omega]
    exact this
theorem make_i64 (n : Nat) (h : n ≤ 1000000) (w : World) :
    (Instr.makeSlice 23 (.int .i64 (n : Int)) (.int .i64 (n : Int))).run Try.prog w = .ok (.slice (some ⟨w.heap.size, 0, none⟩) n n) (w.alloc (.cells (nms (List.replicate n 0)).toArray 2)) := by
  rw [show nms (List.replicate n 0) = List.replicate n (.int .i64 0) from by simp [nms]]
  obtain ⟨i, hi, hz, hs, hb⟩ := info_parts info_i64
  exact run_make1 _ _ i _ rfl Try.underlying23 hi hz hs n (by rw [hb]; omega) (by omega) w
section
variable {w : World} {A A2 : Option Addr} {n c m2 c2 : Nat} {l : List FnV} {pages most F fuel : Int} {us : List Int}
set_option maxHeartbeats 2000000 in
theorem uat_any (x : Int) (n : Nat) (hn : 1 ≤ n) (hn2 : n ≤ 1000000) (hx0 : -9223372036854775808 ≤ x) (hx1 : x ≤ 9223372036854775807) : Calls Try.prog 50 #[.int .i64 x, .int .i64 (n : Int)] w fun e w' => (∃ k : Nat, k < n ∧ e = .returned (.int .i64 (k : Int))) ∧ w = w' := by
  obtain ⟨b1, b2, _⟩ := into_within x 0 1048576 (by omega)
  obtain ⟨y, hy⟩ : ∃ y : Nat, withinI x 0 1048576 = (y : Int) := ⟨(withinI x 0 1048576).toNat, by omega⟩
  have HW := Lib.hid (show Calls Try.prog 50 #[.int .i64 x, .int .i64 (n : Int)] w (fun e w' => True) ∨ True from .inr trivial)
  have hmx : max (n : Int) 1 = (n : Int) := by omega
  have hm : (y : Int).tmod (n : Int) = ((y % n : Nat) : Int) := by rw [Int.tmod_eq_emod_of_nonneg (by omega)]; rfl
  have hlt : y % n < n := Nat.mod_lt _ (by omega)
  have HWI := Lib.hid (show ∀ W, Calls Try.prog 28 #[.int .i64 x, .int .i64 0, .int .i64 1048576] W fun e w' => e = .returned (.int .i64 (y : Int)) ∧ W = w' from fun W => by rw [← hy]; exact within_big x 0 1048576 (by omega) (by omega) (by omega) hx0 hx1)
  have hn0 : ¬ ((n : Int) = 0) := by omega
  clear hy b1 b2 HW
  go_enter Try.func50, Try.ntmps50
  go_wp2_with fail
  refine (HWI.out w).mono ?_
  rintro e w' ⟨rfl, rfl⟩
  go_wp2_with fail
  go_ret
  exact ⟨⟨y % n, hlt, rfl⟩, rfl⟩
set_option maxHeartbeats 4000000 in
set_option maxRecDepth 100000 in
theorem args_any (hF : Fnr w A n c l) (hn1 : 1 ≤ n) (hn2 : n ≤ 1000) (ha : ∀ f ∈ l, 0 ≤ f.args ∧ f.args ≤ 4) (hf0 : -9223372036854775808 ≤ F) (hf1 : F ≤ 9223372036854775807) (hal : us.length = m2) (hs : Src w A2 (nms us)) (hsp : 0 < m2 → ∀ ad, A2 = some ad → ad.spot = none) (hm : m2 ≤ 9223372036854775807) (har : ∀ x ∈ us, -9223372036854775808 ≤ x ∧ x ≤ 9223372036854775807) :
    Calls Try.prog 12 #[unitV pages most A n c, .agg #[.int .i64 F, .slice A2 m2 c2, .int .i64 fuel]] w (ArgsPost w l) := by
  obtain ⟨ad, e0, hb, hx⟩ := hF.src (by rw [fnCs_len, hF.len]; omega)
  have hsp0 := hF.spot (by omega) ad e0
  obtain ⟨fb, fo, fs⟩ := ad
  simp only at hsp0
  subst hsp0
  subst e0
  have HAT := Lib.hid (fun (W : World) => uat_any (w := W) F n hn1 (by omega) hf0 hf1)
  have HX := Lib.hid hx
  have HL := Lib.hid hF.len
  have HA := Lib.hid ha
  have HS := Lib.hid (And.intro hal (And.intro hs (And.intro hsp (And.intro hm har))))
  have hn0 : ((n : Int) == 0) = false := by simp; omega
  clear hx hF ha hal hs hsp hm har hf0 hf1 hb
  unfold unitV
  go_enter Try.func12, Try.ntmps12
  go_upto_region 3 with fail
  have hU := Whole.new w 28 [.int .i64 pages, .int .i64 most, .slice (some ⟨fb, fo, none⟩) n c]
  have hs1 : (w.alloc (.cells #[.int .i64 pages, .int .i64 most, .slice (some ⟨fb, fo, none⟩) n c] 28)).heap.size = w.heap.size + 1 := Array.size_push _
  have hal1 := (Chg.refl [] w).alloc (.cells #[.int .i64 pages, .int .i64 most, .slice (some ⟨fb, fo, none⟩) n c] 28)
  have hC := Whole.new (w.alloc (.cells #[.int .i64 pages, .int .i64 most, .slice (some ⟨fb, fo, none⟩) n c] 28)) 25 [.int .i64 F, .slice A2 m2 c2, .int .i64 fuel]
  have hal2 := (Chg.refl [] (w.alloc (.cells #[.int .i64 pages, .int .i64 most, .slice (some ⟨fb, fo, none⟩) n c] 28))).alloc (.cells #[.int .i64 F, .slice A2 m2 c2, .int .i64 fuel] 25)
  rw [hs1] at hC
  have hU1 := hU.keep hal2
  have hc1 := hal1.new hal2
  obtain ⟨gu, hgu⟩ : ∃ g, g = w.heap.size := ⟨_, rfl⟩
  rw [← hgu] at hU1 hC ⊢
  generalize (w.alloc (.cells #[.int .i64 pages, .int .i64 most, .slice (some ⟨fb, fo, none⟩) n c] 28)).alloc (.cells #[.int .i64 F, .slice A2 m2 c2, .int .i64 fuel] 25) = w1 at hU1 hC hc1 ⊢
  clear hU hs1 hal1 hal2 hgu
  have HC1 := Lib.hid hc1
  obtain ⟨gc, hgc⟩ : ∃ g, g = gu + 1 := ⟨_, rfl⟩
  rw [← hgc] at hC ⊢
  have HCC := Lib.hid hC
  have HU1 := Lib.hid hU1
  clear hU1 hC hc1 hgc
  have hP : PKeeps w1.heap.size 51 (fun cs _ => ∃ (k : Nat) (f : FnV), l[k]? = some f ∧ cs = fnC f) := fun _ _ _ h _ => h
  have TOK := vT_ok (n := 3) hP
  refine F2.wp_flow (by kernel_rfl) (vT w1.heap.size 51 3 (fun cs _ => ∃ (k : Nat) (f : FnV), l[k]? = some f ∧ cs = fnC f)) TOK (by kernel_rfl) (by kernel_rfl) ?_
  refine F2.flow1 (r := .pointer (some ⟨gu, 2, none⟩)) TOK rfl (.out rfl rfl) rfl (fun ev W he e1 => by go_simp) ?_
  refine F2.flow1h (r := .slice (some ⟨fb, fo, none⟩) n c) TOK rfl (.inn rfl) rfl (fun ev W he hW e1 => by have c2 := (hW.fe.whole (show Whole w1.drew gu 28 _ from HU1.out) (by decide)).cell 2; go_simp) ?_
  refine F2.flow1 (r := .pointer (some ⟨gc, 0, none⟩)) TOK rfl (.out rfl rfl) rfl (fun ev W he e1 => by go_simp) ?_
  refine F2.flow1h (r := .int .i64 F) TOK rfl (.inn rfl) rfl (fun ev W he hW e1 => by have c2 := (hW.fe.whole (show Whole w1.drew gc 25 _ from HCC.out) (by decide)).cell 0; go_simp) ?_
  refine F2.flow1 (r := .pointer (some ⟨gu, 2, none⟩)) TOK rfl (.out rfl rfl) rfl (fun ev W he e1 => by go_simp) ?_
  refine F2.flow1h (r := .slice (some ⟨fb, fo, none⟩) n c) TOK rfl (.inn rfl) rfl (fun ev W he hW e1 => by have c2 := (hW.fe.whole (show Whole w1.drew gu 28 _ from HU1.out) (by decide)).cell 2; go_simp) ?_
  refine F2.flow1 (x := .tmp 18) (r := .int .i64 (n : Int)) TOK (by simp [Op.operands, Call.operands]) (.inn rfl) rfl (fun ev W he e1 => by go_simp) ?_
  refine F2.flow_calld (fun v _ => ∃ k : Nat, k < n ∧ v = .int .i64 (k : Int)) (fun _ _ _ h _ => h) (.inr (fun _ _ _ h _ => h)) (by kernel_rfl) rfl (.cons (.inn rfl) (.cons (.inn rfl) .nil)) (fun W hW => (HAT.out W).mono ?_) ?_
  · rintro e w' ⟨⟨k, hk, rfl⟩, rfl⟩
    exact ⟨_, rfl, v_by _ (RV.of_chg hP (Chg.refl _ _)), k, hk, rfl⟩
  refine F2.flow_op (fun v _ => ∃ k : Nat, k < n ∧ v = .pointer (some ⟨fb, fo + k * 3, none⟩)) (fun _ _ _ h _ => h) (.inr (fun _ _ _ h _ => h)) rfl (fun ev W he hW hf => ?_) ?_
  · have e1 : ev (.tmp 14) = .slice (some ⟨fb, fo, none⟩) n c := hf.1
    obtain ⟨k, hk, e2⟩ : ∃ k : Nat, k < n ∧ ev (.tmp 20) = .int .i64 (k : Int) := hf.2.1
    have hk1 : (k : Int) < (n : Int) := by omega
    have hr : ∃ r, r = fo + k * 3 := ⟨_, rfl⟩
    clear hf hW
    go_simp
    exact ⟨TOK.by_refl _ _, k, hk, rfl⟩
  refine F2.flow_op (vaF 3 (fun cs _ => ∃ (k : Nat) (f : FnV), l[k]? = some f ∧ cs = fnC f)) (keeps_va hP) (.inr (keeps_va hP)) rfl (fun ev W he hW hf => ?_) ?_
  · obtain ⟨k, hk, e2⟩ : ∃ k : Nat, k < n ∧ ev (.tmp 21) = .pointer (some ⟨fb, fo + k * 3, none⟩) := hf.1
    obtain ⟨f, hfk⟩ : ∃ f, l[k]? = some f := ⟨l[k]'(by rw [HL.out]; exact hk), List.getElem?_eq_getElem _⟩
    obtain ⟨z0, z1, z2⟩ := fnCs_at l k f hfk
    have hcw : Chg [] w W := HC1.out.drew.new (hW.fe.chg (show w1.drew.heap.size ≤ w1.heap.size from Nat.le_refl _))
    have c0 := cell_keep (HX.out _ _ z0) hcw
    have c1 := cell_keep (HX.out _ _ z1) hcw
    have c2 := cell_keep (HX.out _ _ z2) hcw
    rw [add_plain] at c0 c1 c2
    rw [← Nat.add_assoc] at c1 c2
    clear hf hW z0 z1 z2 hcw
    go_simp
    exact ⟨TOK.by_refl _ _, fnC f, rfl, rfl, ⟨k, f, hfk, rfl⟩, rfl⟩
  refine v_alloc hP [.int .i32 0, .int .i64 0, .string ⟨#[]⟩] rfl (Nat.le_refl _) rfl (by intro h; cases h) (fun ev W => by go_simp) ?_
  refine v_put rfl rfl hP (by kernel_rfl) rfl ?_
  intro vs W hW hF hN
  obtain ⟨gx, cs, ex, hbx, hwx, _, k, f, hfk, rfl⟩ := hN 11 _ _ 6 rfl rfl rfl rfl
  have hcw : Chg [] w W := HC1.out.drew.new (hW.fe.chg (show w1.drew.heap.size ≤ w1.heap.size from Nat.le_refl _))
  have HCW := Lib.hid hcw
  have HFK := Lib.hid hfk
  have HCC2 := Lib.hid (show Whole W gc 25 _ from hW.fe.whole (show Whole w1.drew gc 25 _ from HCC.out) (by decide))
  have HFX := Lib.hid hwx
  simp only [putAll, Act.put, List.setIfInBounds_toArray, List.set_cons_zero, List.set_cons_succ]
  rw [ex]
  clear hF hN hW hwx hcw ex hbx TOK hfk hP
  obtain ⟨m, hm⟩ : ∃ m : Nat, f.args = (m : Int) ∧ m ≤ 4 := ⟨f.args.toNat, by have := HA.out f (List.mem_of_getElem? HFK.out); omega, by have := HA.out f (List.mem_of_getElem? HFK.out); omega⟩
  have hmin : min (m : Int) 4 = (m : Int) := by omega
  have hmax : max (m : Int) 0 = (m : Int) := by omega
  have a0 := HFX.out.cell 0
  have a1 := HFX.out.cell 1
  rw [show (fnC f)[1]? = some (.int .i64 f.args) from rfl, hm.1] at a1
  rw [show (fnC f)[0]? = some (.int .i32 f.name) from rfl] at a0
  have hmk := make_i64 m (by omega)
  go_upto_region 5 with fail
  have hO := Whole.new W 2 (nms (List.replicate m 0))
  have hal := (Chg.refl [] W).alloc (.cells (nms (List.replicate m 0)).toArray 2)
  obtain ⟨go_, hgo⟩ : ∃ g, g = W.heap.size := ⟨_, rfl⟩
  have HGO := Lib.hid (show w.heap.size ≤ go_ ∧ gx < go_ ∧ gc < go_ by have h1 := HCW.out.size; have h2 := HFX.out.lt; have h3 := HCC2.out.lt; omega)
  rw [← hgo] at hO ⊢
  have HC3 := Lib.hid (HCW.out.new hal)
  have HCC3 := Lib.hid (HCC2.out.keep hal)
  have HFX3 := Lib.hid (HFX.out.keep hal)
  generalize W.alloc (.cells (nms (List.replicate m 0)).toArray 2) = W3 at hO HC3 HCC3 HFX3 ⊢
  have HO := Lib.hid hO
  clear hO hal hgo a0 a1 hmk HFX HCC2 HCW
  go_wp2_with fail
  go_loopw [30] (fun i wr => ∃ (k : Nat) (xs : List Int), k ≤ m ∧ i = .int .i64 (k : Int) ∧ Hid (xs.length = m) ∧ Hid (∀ x ∈ xs, -9223372036854775808 ≤ x ∧ x ≤ 9223372036854775807) ∧ Hid (Whole wr go_ 2 (nms xs)) ∧ Hid (Chg [go_] W3 wr)) (fun i _ => m - (intOf i).toNat)
  case atStart => exact ⟨0, List.replicate m 0, by omega, rfl, Lib.hid (List.length_replicate), Lib.hid (fun x hx => by rw [(List.mem_replicate.1 hx).2]; omega), HO, Lib.hid (Chg.refl _ _)⟩
  case round =>
    obtain ⟨k, xs, hk, rfl, HXL, HXR, HXW, HCr⟩ := hrel
    by_cases hlt : k < m
    · have hdk : decide ((k : Int) < (m : Int)) = true := decide_eq_true (by omega)
      have j1 := (HCC3.out.chg HCr.out (by have := HGO.out; simp; omega)).cell 1
      rw [show ([.int .i64 F, .slice A2 m2 c2, .int .i64 fuel] : List Value)[1]? = some (.slice A2 m2 c2) from rfl] at j1
      obtain ⟨h1, h2, h3, h4, h5⟩ := HS.out
      by_cases hk2 : k < m2
      · have hdk2 : decide ((k : Int) < (m2 : Int)) = true := decide_eq_true (by omega)
        have hcw : Chg [] w wr := HC3.out.then_ HCr.out (fun i hi hil => by have := HGO.out; simp only [List.mem_cons, List.not_mem_nil, or_false] at hi; omega)
        obtain ⟨ad, e0, _, hx⟩ := (h2.keep hcw) (by rw [show (nms us).length = us.length from by simp [nms]]; omega)
        have hspd := h3 (by omega) ad e0
        obtain ⟨ab, ao, asp⟩ := ad
        simp only at hspd
        subst hspd
        subst e0
        have hku : k < us.length := by omega
        obtain ⟨v, hv⟩ : ∃ v, us[k]? = some v := ⟨us[k], List.getElem?_eq_getElem hku⟩
        have hvr := h5 v (List.mem_of_getElem? hv)
        have c1 := hx k (.int .i64 v) (by rw [show nms us = us.map (Value.int .i64) from rfl, List.getElem?_map, hv]; rfl)
        rw [add_plain] at c1
        have hkx : k < xs.length := by rw [HXL.out]; exact hlt
        have c2 := HXW.out.cell k
        rw [show nms xs = xs.map (Value.int .i64) from rfl, List.getElem?_map, List.getElem?_eq_getElem hkx] at c2
        obtain ⟨u0, hu0⟩ : ∃ u0, xs[k] = u0 := ⟨_, rfl⟩
        rw [hu0] at c2
        have f2 := HXW.out.frozen k
        have hset := HXW.out.set_ k (.int .i64 v)
        rw [show (nms xs).set k (.int .i64 v) = nms (xs.set k v) from by simp [nms]] at hset
        have HSET := Lib.hid hset
        have HCS := Lib.hid (HCr.out.setCell (p := ⟨go_, k, none⟩) (by simp) (.int .i64 v))
        have HVR := Lib.hid hvr
        have hkm2 : (k : Int) < (m2 : Int) := by omega
        have hkm : (k : Int) < (m : Int) := by omega
        clear h1 h2 h3 h4 h5 hx hv hvr hset hu0 hku hkx hcw
        go_wp2_with fail
        go_roundw
        case rel => exact ⟨k + 1, xs.set k v, by omega, by go_num, Lib.hid (by rw [List.length_set]; exact HXL.out), Lib.hid (fun x hx => by
          rcases List.mem_or_eq_of_mem_set hx with h | h
          · exact HXR.out x h
          · rw [h]; exact HVR.out), HSET, HCS⟩
        case measure => simp [intOf]; omega
      · have hdk2 : decide ((k : Int) < (m2 : Int)) = false := decide_eq_false (by omega)
        clear h1 h2 h3 h4 h5
        go_wp2_with fail
        go_roundw
        case rel => exact ⟨k + 1, xs, by omega, by go_num, HXL, HXR, HXW, HCr⟩
        case measure => simp [intOf]; omega
    · have hdk : decide ((k : Int) < (m : Int)) = false := decide_eq_false (by omega)
      have a0 := (HFX3.out.chg HCr.out (by have := HGO.out; simp; omega)).cell 0
      rw [show (fnC f)[0]? = some (.int .i32 f.name) from rfl] at a0
      have HP := Lib.hid (show ArgsPost w l (.returned (.tuple #[.int .i32 f.name, .slice (some ⟨go_, 0, none⟩) m m])) wr from by
        refine ⟨_, f, xs, go_, HFK.out, by rw [HXL.out, hm.1]; rfl, HXR.out, by rw [HXL.out], HGO.out.1, HXW.out, HC3.out.then_ HCr.out (fun i hi hil => ?_)⟩
        have := HGO.out
        simp only [List.mem_cons, List.not_mem_nil, or_false] at hi
        omega)
      go_wp2_with fail
      go_ret2
      exact HP.out
end
end Go.Proofs.Ytfhgnoajfipjdaa
namespace Go.Proofs.Ytfhgnoajfipjdaa
open Go.RowKit
section
variable {w : World} {TA : Option Addr} {tn tc : Nat} {tl : List Int} {F fuel : Int} {A2 : Option Addr} {m2 c2 : Nat} {us : List Int}
set_option maxHeartbeats 16000000 in
set_option maxRecDepth 100000 in
theorem engineFuel_any (hs : Src w TA (nms tl)) (hlen : tl.length = tn) (hspot : 0 < tn → ∀ ad, TA = some ad → ad.spot = none) (hn : tn ≤ 9223372036854775807) (hrng : ∀ x ∈ tl, -9223372036854775808 ≤ x ∧ x ≤ 9223372036854775807)
    (hf0 : -9223372036854775808 ≤ F) (hf1 : F ≤ 9223372036854775807) (hal : us.length = m2) (hs2 : Src w A2 (nms us)) (hsp2 : 0 < m2 → ∀ ad, A2 = some ad → ad.spot = none) (hm2 : m2 ≤ 9223372036854775807) (har : ∀ x ∈ us, -9223372036854775808 ≤ x ∧ x ≤ 9223372036854775807) :
    Calls Try.prog 3 #[.slice TA tn tc, .agg #[.int .i64 F, .slice A2 m2 c2, .int .i64 fuel]] w (LawPost w) := by
  have HT := Lib.hid (And.intro hs (And.intro hlen (And.intro hspot (And.intro hn hrng))))
  have HB := Lib.hid (And.intro hf0 (And.intro hf1 (And.intro hal (And.intro hs2 (And.intro hsp2 (And.intro hm2 har))))))
  clear hs hlen hspot hn hrng hf0 hf1 hal hs2 hsp2 hm2 har
  go_enter Try.func3, Try.ntmps3
  go_upto_region 1 with fail
  have hC := Whole.new w 25 [.int .i64 F, .slice A2 m2 c2, .int .i64 fuel]
  have hal := (Chg.refl [] w).alloc (.cells #[.int .i64 F, .slice A2 m2 c2, .int .i64 fuel] 25)
  obtain ⟨gc, hgc⟩ : ∃ g, g = w.heap.size := ⟨_, rfl⟩
  rw [← hgc] at hC ⊢
  generalize w.alloc (.cells #[.int .i64 F, .slice A2 m2 c2, .int .i64 fuel] 25) = w1 at hC hal ⊢
  have HCC := Lib.hid hC
  have HC1 := Lib.hid hal
  clear hC hal hgc
  go_wp2_with fail
  obtain ⟨t1, t2, t3, t4, t5⟩ := HT.out
  refine (unit_any (t1.keep HC1.out) t2 t3 t4 t5).mono ?_
  rintro e w2 ⟨pgI, msI, v, l, rfl, hp0, hp2, hm1, hm3, hown, hgood, hl0, hc2⟩
  obtain ⟨A, c, rfl, hcap, hsrc, hsp⟩ := rown_src hown
  obtain ⟨pg, rfl⟩ : ∃ pg : Nat, pgI = (pg : Int) := ⟨pgI.toNat, by omega⟩
  obtain ⟨ms, rfl⟩ : ∃ ms : Nat, msI = (ms : Int) := ⟨msI.toNat, by omega⟩
  obtain ⟨n, hn⟩ : ∃ n, n = l.length := ⟨_, rfl⟩
  rw [← hn] at hl0 hcap ⊢
  have hF2 : Fnr w2 A n c l := ⟨hn.symm, hsrc, hcap, by have := hgood.lo; omega, fun _ => hsp, fun f hf => by have := hgood.args f hf; omega⟩
  have HPM := Lib.hid (show pg ≤ ms ∧ ms ≤ 64 by omega)
  have HGD := Lib.hid hgood
  have HN3 := Lib.hid (show 1 ≤ n ∧ n ≤ 1000 by have := hgood.lo; omega)
  have HF2 := Lib.hid hF2
  have HAB := Lib.hid (show ∀ ad, A = some ad → ad.block < w2.heap.size from fun ad e => by
    obtain ⟨ad2, e2, h, _⟩ := hF2.src (by rw [fnCs_len]; omega)
    rw [e] at e2
    injection e2 with e2
    rw [e2]; exact h)
  have HCC2 := Lib.hid (HCC.out.keep hc2)
  have HC2 := Lib.hid (HC1.out.new hc2)
  clear t1 t2 t3 t4 t5 HT hp0 hp2 hm1 hm3 hown hsrc hgood hl0 hc2 hcap hsp hn HCC HC1 hF2
  go_upto_region 2 with fail
  have hU := Whole.new w2 28 [.int .i64 (pg : Int), .int .i64 (ms : Int), .slice A n c]
  have hal := (Chg.refl [] w2).alloc (.cells #[.int .i64 (pg : Int), .int .i64 (ms : Int), .slice A n c] 28)
  obtain ⟨gu, hgu⟩ : ∃ g, g = w2.heap.size := ⟨_, rfl⟩
  rw [← hgu] at hU ⊢
  have HS3 := Lib.hid hal.size
  generalize w2.alloc (.cells #[.int .i64 (pg : Int), .int .i64 (ms : Int), .slice A n c] 28) = w3 at hU hal HS3 ⊢
  have HU3 := Lib.hid hU
  have HF3 := Lib.hid (HF2.out.keep hal)
  have hcc3 := HCC2.out.keep hal
  have HC3 := Lib.hid (HC2.out.new hal)
  have u0 := hU.cell 0
  have u1 := hU.cell 1
  have u2 := hU.cell 2
  have k0 := hcc3.cell 0
  have k1 := hcc3.cell 1
  have k2 := hcc3.cell 2
  clear hU hal hgu hcc3 HF2 HC2 HCC2
  go_wp2_with fail
  obtain ⟨b1, b2, b3, b4, b5, b6, b7⟩ := HB.out
  have hargs := args_any (pages := (pg : Int)) (most := (ms : Int)) (fuel := fuel) (c2 := c2) HF3.out HN3.out.1 HN3.out.2 (fun f hf => by have := HGD.out.args f hf; omega) b1 b2 b3 (b4.keep HC3.out) b5 b6 b7
  unfold unitV at hargs
  refine hargs.mono ?_
  rintro e w4 ⟨kf, f, xs, ga, hkf, hxl, _, rfl, hga, hWa, hc4⟩
  have HKF := Lib.hid (show findI l f.name = (kf : Int) ∧ l[kf]? = some f ∧ f.args = (xs.length : Int) from ⟨(HGD.out.find hkf).1, hkf, by have := HGD.out.args f (List.mem_of_getElem? hkf); omega⟩)
  have HA4 := Lib.hid hWa
  have HU4 := Lib.hid (HU3.out.keep hc4)
  have HF4 := Lib.hid (HF3.out.keep hc4)
  have HC4 := Lib.hid (HC3.out.new hc4)
  have HS4 := Lib.hid (Nat.le_trans HS3.out hc4.size)
  obtain ⟨val, tr, s1, hdo, ht0, ht7, hv0, hsf, h1f, ⟨s2, hdo2, hz2⟩, hless⟩ := eDo_less HGD.out.safe hkf HKF.out.2.2 [] ms 2000 (zeros (pg * 64)) (falses pg) []
  obtain ⟨sp, hsp⟩ : ∃ sp, sp = 2000 - s1.fuel := ⟨_, rfl⟩
  have HSP := Lib.hid hsp
  rw [← hsp] at hdo2 hless
  have HDO := Lib.hid hdo
  have HD2 := Lib.hid hdo2
  have HLE := Lib.hid hless
  have HT1 := Lib.hid h1f
  have HV0 := Lib.hid hv0
  clear b1 b2 b3 b4 b5 b6 b7 HB hargs hkf hxl hga hWa hc4 u0 u1 u2 k0 k1 k2 HU3 HF3 HC3 hdo hdo2 hless h1f hv0 hsp
  go_upto_region 3 with fail
  have TOK := efT_ok (B := w4.heap.size) (Tl := []) (P := resP val tr (s1.fuel : Int)) (hard := [9]) (soft := [5, 6])
  refine F2.wp_flow (by kernel_rfl) (efT w4.heap.size [] (resP val tr (s1.fuel : Int)) [9] [5, 6]) TOK (by kernel_rfl) (by kernel_rfl) ?_
  refine F2.flow1h (r := .agg #[.int .i64 (pg : Int), .int .i64 (ms : Int), .slice A n c]) TOK rfl (.out rfl rfl) rfl (fun ev W he hW e1 => by have hu := hW.fe.whole (show Whole w4.drew gu 28 _ from HU4.out) (by decide); have c0 := hu.cell 0; have c1 := hu.cell 1; have c2 := hu.cell 2; clear hu; go_simp) ?_
  refine F2.flow1 (r := .pointer (some ⟨gu, 0, none⟩)) TOK rfl (.out rfl rfl) rfl (fun ev W he e1 => by go_simp) ?_
  refine F2.flow1h (r := .int .i64 (pg : Int)) TOK rfl (.inn rfl) rfl (fun ev W he hW e1 => by have c0 := (hW.fe.whole (show Whole w4.drew gu 28 _ from HU4.out) (by decide)).cell 0; go_simp) ?_
  refine F2.flow1 (r := .pointer (some ⟨gu, 1, none⟩)) TOK rfl (.out rfl rfl) rfl (fun ev W he e1 => by go_simp) ?_
  refine F2.flow1h (r := .int .i64 (ms : Int)) TOK rfl (.inn rfl) rfl (fun ev W he hW e1 => by have c0 := (hW.fe.whole (show Whole w4.drew gu 28 _ from HU4.out) (by decide)).cell 1; go_simp) ?_
  refine ef_new pg ms HPM.out.1 HPM.out.2 (Nat.le_refl _) rfl rfl (by kernel_rfl) (.cons (.inn rfl) (.cons (.inn rfl) .nil)) rfl (by intro h; cases h) ?_
  refine ef_row (Nat.le_refl _) rfl rfl (by kernel_rfl) (.cons (.const _) .nil) rfl (by intro h; cases h) ?_
  refine F2.flow_move_out TOK rfl rfl rfl (h := ?_)
  refine F2.flow_move_out TOK rfl rfl rfl (h := ?_)
  refine ef_run (fuel := 2000) (kf := kf) (m2 := xs.length) (args := xs) (fun u => ∃ A m c, u = .slice A m c) rfl rfl rfl rfl (by kernel_rfl) (.inn rfl) rfl rfl (.inn rfl) (.const _) (fun ev W hc hf => ⟨some ⟨ga, 0, none⟩, xs.length, hf, Src.of_all (HA4.out.keep (Chg.new (Chg.refl [] _).drew hc))⟩) (HF4.out.keep (Chg.refl [] _).drew) (fun ad e => Nat.lt_of_lt_of_le (HAB.out ad e) HS4.out) (HGD.out.right (by omega) (by have := HPM.out.1; omega) (by have := HPM.out.2; omega)) HKF.out.1 HKF.out.2.1 HKF.out.2.2 (by first | omega | (have := HSP.out; omega)) rfl HDO.out (fun A c => ⟨A, _, c, rfl⟩) rfl (by intro h; cases h) ?_
  refine F2.flow_move TOK rfl (keeps_ran _ _ _ _) (.inr (keeps_ran _ _ _ _)) rfl ?_
  refine ef_x0 rfl rfl (by intro h; cases h) ?_
  refine ef_x1 rfl rfl (by intro h; cases h) ?_
  refine ef_var (Nat.le_refl _) rfl (by intro h; cases h) (fun ev W => by go_simp) ?_
  refine ef_put rfl rfl (fun u h => by obtain ⟨A, m, c, rfl⟩ := h; exact ⟨A, m, c, rfl⟩) (fun u h => by obtain ⟨A, m, c, rfl⟩ := h; rfl) rfl ?_
  refine F2.flow_assign TOK rfl (keeps_isV _) (.inr (keeps_isV _)) rfl ?_
  intro vsw4 W hW hF hN
  obtain ⟨gx1, cs, ex, hbx, hwx, _, A5, m5, c5, rfl⟩ := hN 14 _ _ 8 rfl rfl rfl rfl
  have ee : vsw4 9 = .int .i64 0 := hF 9 _ rfl rfl
  have hcw : Chg [] w4 W := Chg.new (Chg.refl [] w4).drew (hW.fe.chg (show w4.drew.heap.size ≤ w4.heap.size from Nat.le_refl _))
  have HC5 := Lib.hid (HC4.out.new hcw)
  have HX1 := Lib.hid hwx
  have HU5 := Lib.hid (HU4.out.keep hcw)
  have HF5 := Lib.hid (HF4.out.keep hcw)
  have HA5 := Lib.hid (HA4.out.keep hcw)
  have HSz1 := Lib.hid hcw.size
  simp only [putAll, Act.put, List.setIfInBounds_toArray, List.set_cons_zero, List.set_cons_succ]
  rw [ex, ee]
  clear hF hN hW hwx hcw ex ee hbx TOK
  obtain ⟨w5, hw5⟩ : ∃ w5 : World, w5 = W := ⟨_, rfl⟩
  rw [← hw5] at HC5 HX1 HU5 HF5 HA5 HSz1 ⊢
  clear hw5
  have HS5 := Lib.hid (Nat.le_trans HS4.out HSz1.out)
  have x0 := HX1.out.cell 0
  have x1 := HX1.out.cell 1
  have x2 := HX1.out.cell 2
  have d1 : decide (tr < 0) = false := decide_eq_false (by omega)
  have d2 : decide (tr > 7) = false := decide_eq_false (by omega)
  have d3 : decide ((s1.fuel : Int) < 0) = false := decide_eq_false (by omega)
  have d4 : decide ((s1.fuel : Int) > 2000) = false := decide_eq_false (by omega)
  have hsub : IntKind.i64.wrap (2000 - (s1.fuel : Int)) = (sp : Int) := by rw [IntKind.wrap_i64]; have := HSP.out; omega
  go_upto_region 4 with fail
  go_cut [67] (fun v wx => v = .bool false ∧ w5 = wx)
  case first =>
    by_cases h0 : tr = 0
    · have e0 : (tr != 0) = false := by simp [h0]
      go_wp2_with fail
      go_meet
      exact ⟨rfl, rfl⟩
    · have e0 : (tr != 0) = true := by simp [h0]
      have e1 : (val != 0) = false := by simp [HV0.out h0]
      go_wp2_with fail
      go_meet
      exact ⟨rfl, rfl⟩
  case rest =>
    obtain ⟨rfl, hwc⟩ := hcut
    subst hwc
    go_upto_region 7 with fail
    have TOK := efT_ok (B := w5.heap.size) (Tl := []) (P := resP val tr (s2.fuel : Int)) (hard := [10]) (soft := [5, 6])
    refine F2.wp_flow (by kernel_rfl) (efT w5.heap.size [] (resP val tr (s2.fuel : Int)) [10] [5, 6]) TOK (by kernel_rfl) (by kernel_rfl) ?_
    refine F2.flow1h (r := .agg #[.int .i64 (pg : Int), .int .i64 (ms : Int), .slice A n c]) TOK rfl (.out rfl rfl) rfl (fun ev W he hW e1 => by have hu := hW.fe.whole (show Whole w5.drew gu 28 _ from HU5.out) (by decide); have c0 := hu.cell 0; have c1 := hu.cell 1; have c2 := hu.cell 2; clear hu; go_simp) ?_
    refine F2.flow1 (r := .pointer (some ⟨gu, 0, none⟩)) TOK rfl (.out rfl rfl) rfl (fun ev W he e1 => by go_simp) ?_
    refine F2.flow1h (r := .int .i64 (pg : Int)) TOK rfl (.inn rfl) rfl (fun ev W he hW e1 => by have c0 := (hW.fe.whole (show Whole w5.drew gu 28 _ from HU5.out) (by decide)).cell 0; go_simp) ?_
    refine F2.flow1 (r := .pointer (some ⟨gu, 1, none⟩)) TOK rfl (.out rfl rfl) rfl (fun ev W he e1 => by go_simp) ?_
    refine F2.flow1h (r := .int .i64 (ms : Int)) TOK rfl (.inn rfl) rfl (fun ev W he hW e1 => by have c0 := (hW.fe.whole (show Whole w5.drew gu 28 _ from HU5.out) (by decide)).cell 1; go_simp) ?_
    refine ef_new pg ms HPM.out.1 HPM.out.2 (Nat.le_refl _) rfl rfl (by kernel_rfl) (.cons (.inn rfl) (.cons (.inn rfl) .nil)) rfl (by intro h; cases h) ?_
    refine ef_row (Nat.le_refl _) rfl rfl (by kernel_rfl) (.cons (.const _) .nil) rfl (by intro h; cases h) ?_
    refine F2.flow_move_out TOK rfl rfl rfl (h := ?_)
    refine F2.flow_move_out TOK rfl rfl rfl (h := ?_)
    refine F2.flow_move_out TOK rfl rfl rfl (h := ?_)
    refine ef_run (fuel := sp) (kf := kf) (m2 := xs.length) (args := xs) (fun u => ∃ A m c, u = .slice A m c) rfl rfl rfl rfl (by kernel_rfl) (.inn rfl) rfl rfl (.inn rfl) (.inn rfl) (fun ev W hc hf => ⟨some ⟨ga, 0, none⟩, xs.length, hf, Src.of_all (HA5.out.keep (Chg.new (Chg.refl [] _).drew hc))⟩) (HF5.out.keep (Chg.refl [] _).drew) (fun ad e => Nat.lt_of_lt_of_le (HAB.out ad e) HS5.out) (HGD.out.right (by omega) (by have := HPM.out.1; omega) (by have := HPM.out.2; omega)) HKF.out.1 HKF.out.2.1 HKF.out.2.2 (by first | omega | (have := HSP.out; omega)) rfl HD2.out (fun A c => ⟨A, _, c, rfl⟩) rfl (by intro h; cases h) ?_
    refine F2.flow_move TOK rfl (keeps_ran _ _ _ _) (.inr (keeps_ran _ _ _ _)) rfl ?_
    refine ef_x0 rfl rfl (by intro h; cases h) ?_
    refine ef_x1 rfl rfl (by intro h; cases h) ?_
    refine ef_var (Nat.le_refl _) rfl (by intro h; cases h) (fun ev W => by go_simp) ?_
    refine ef_put rfl rfl (fun u h => by obtain ⟨A, m, c, rfl⟩ := h; exact ⟨A, m, c, rfl⟩) (fun u h => by obtain ⟨A, m, c, rfl⟩ := h; rfl) rfl ?_
    refine F2.flow_assign TOK rfl (keeps_isV _) (.inr (keeps_isV _)) rfl ?_
    intro vsw5 W hW hF hN
    obtain ⟨gx2, cs, ex, hbx, hwx, _, A5, m5, c5, rfl⟩ := hN 15 _ _ 11 rfl rfl rfl rfl
    have ee : vsw5 12 = .int .i64 0 := hF 12 _ rfl rfl
    have hcw : Chg [] w5 W := Chg.new (Chg.refl [] w5).drew (hW.fe.chg (show w5.drew.heap.size ≤ w5.heap.size from Nat.le_refl _))
    have HC6 := Lib.hid (HC5.out.new hcw)
    have HX2 := Lib.hid hwx
    have HU6 := Lib.hid (HU5.out.keep hcw)
    have HF6 := Lib.hid (HF5.out.keep hcw)
    have HA6 := Lib.hid (HA5.out.keep hcw)
    have HY1 := Lib.hid (HX1.out.keep hcw)
    have HSz2 := Lib.hid hcw.size
    simp only [putAll, Act.put, List.setIfInBounds_toArray, List.set_cons_zero, List.set_cons_succ]
    rw [ex, ee]
    clear hF hN hW hwx hcw ex ee hbx TOK
    obtain ⟨w6, hw6⟩ : ∃ w6 : World, w6 = W := ⟨_, rfl⟩
    rw [← hw6] at HC6 HX2 HY1 HU6 HF6 HA6 HSz2 ⊢
    clear hw6
    have HS6 := Lib.hid (Nat.le_trans HS5.out HSz2.out)
    clear x0 x1 x2 hsub d1 d2 d3 d4
    have x0 := HY1.out.cell 0
    have x1 := HY1.out.cell 1
    have y0 := HX2.out.cell 0
    have y1 := HX2.out.cell 1
    have y2 := HX2.out.cell 2
    simp only [List.getElem?_cons_zero, List.getElem?_cons_succ, hz2] at y2
    have n1 : (tr != tr) = false := by simp
    have n2 : (val != val) = false := by simp
    go_upto_region 10 with fail
    by_cases hs0 : sp = 0
    · have q1 : ((sp : Int) == 0) = true := by simp [hs0]
      go_wp2_with fail
      refine eknown_any.mono ?_
      rintro e w9 ⟨rfl, hc9⟩
      have HP := Lib.hid (show LawPost w (.returned (.bool true)) w9 from ⟨rfl, HC6.out.new hc9⟩)
      clear hc9
      go_wp2_with fail
      go_ret
      exact HP.out
    · have q1 : ((sp : Int) == 0) = false := by simp [hs0]
      by_cases ht1 : tr = 1
      · have q2 : (tr == 1) = true := by simp [ht1]
        go_wp2_with fail
        refine eknown_any.mono ?_
        rintro e w9 ⟨rfl, hc9⟩
        have HP := Lib.hid (show LawPost w (.returned (.bool true)) w9 from ⟨rfl, HC6.out.new hc9⟩)
        clear hc9
        go_wp2_with fail
        go_ret
        exact HP.out
      · have q2 : (tr == 1) = false := by simp [ht1]
        obtain ⟨s3, hdo3⟩ := HLE.out ht1 (by have := HSP.out; omega)
        have HD3 := Lib.hid hdo3
        clear hdo3
        have hs1 : IntKind.i64.wrap ((sp : Int) - 1) = ((sp - 1 : Nat) : Int) := by rw [IntKind.wrap_i64]; have := HSP.out; omega
        go_upto_region 12 with fail
        have TOK := efT_ok (B := w6.heap.size) (Tl := []) (P := resP 0 1 (s3.fuel : Int)) (hard := [11]) (soft := [5, 6])
        refine F2.wp_flow (by kernel_rfl) (efT w6.heap.size [] (resP 0 1 (s3.fuel : Int)) [11] [5, 6]) TOK (by kernel_rfl) (by kernel_rfl) ?_
        refine F2.flow1h (r := .agg #[.int .i64 (pg : Int), .int .i64 (ms : Int), .slice A n c]) TOK rfl (.out rfl rfl) rfl (fun ev W he hW e1 => by have hu := hW.fe.whole (show Whole w6.drew gu 28 _ from HU6.out) (by decide); have c0 := hu.cell 0; have c1 := hu.cell 1; have c2 := hu.cell 2; clear hu; go_simp) ?_
        refine F2.flow1 (r := .pointer (some ⟨gu, 0, none⟩)) TOK rfl (.out rfl rfl) rfl (fun ev W he e1 => by go_simp) ?_
        refine F2.flow1h (r := .int .i64 (pg : Int)) TOK rfl (.inn rfl) rfl (fun ev W he hW e1 => by have c0 := (hW.fe.whole (show Whole w6.drew gu 28 _ from HU6.out) (by decide)).cell 0; go_simp) ?_
        refine F2.flow1 (r := .pointer (some ⟨gu, 1, none⟩)) TOK rfl (.out rfl rfl) rfl (fun ev W he e1 => by go_simp) ?_
        refine F2.flow1h (r := .int .i64 (ms : Int)) TOK rfl (.inn rfl) rfl (fun ev W he hW e1 => by have c0 := (hW.fe.whole (show Whole w6.drew gu 28 _ from HU6.out) (by decide)).cell 1; go_simp) ?_
        refine ef_new pg ms HPM.out.1 HPM.out.2 (Nat.le_refl _) rfl rfl (by kernel_rfl) (.cons (.inn rfl) (.cons (.inn rfl) .nil)) rfl (by intro h; cases h) ?_
        refine ef_row (Nat.le_refl _) rfl rfl (by kernel_rfl) (.cons (.const _) .nil) rfl (by intro h; cases h) ?_
        refine F2.flow_move_out TOK rfl rfl rfl (h := ?_)
        refine F2.flow_move_out TOK rfl rfl rfl (h := ?_)
        refine F2.flow2 (r := .int .i64 ((sp - 1 : Nat) : Int)) TOK rfl (.inn rfl) (.const _) rfl (fun ev W he e1 e2 => by go_simp) ?_
        refine F2.flow_move_out TOK rfl rfl rfl (h := ?_)
        refine ef_run (fuel := (sp - 1)) (kf := kf) (m2 := xs.length) (args := xs) (fun u => ∃ A m c, u = .slice A m c) rfl rfl rfl rfl (by kernel_rfl) (.inn rfl) rfl rfl (.inn rfl) (.inn rfl) (fun ev W hc hf => ⟨some ⟨ga, 0, none⟩, xs.length, hf, Src.of_all (HA6.out.keep (Chg.new (Chg.refl [] _).drew hc))⟩) (HF6.out.keep (Chg.refl [] _).drew) (fun ad e => Nat.lt_of_lt_of_le (HAB.out ad e) HS6.out) (HGD.out.right (by omega) (by have := HPM.out.1; omega) (by have := HPM.out.2; omega)) HKF.out.1 HKF.out.2.1 HKF.out.2.2 (by first | omega | (have := HSP.out; omega)) rfl HD3.out (fun A c => ⟨A, _, c, rfl⟩) rfl (by intro h; cases h) ?_
        refine F2.flow_move TOK rfl (keeps_ran _ _ _ _) (.inr (keeps_ran _ _ _ _)) rfl ?_
        refine ef_x0 rfl rfl (by intro h; cases h) ?_
        refine ef_x1 rfl rfl (by intro h; cases h) ?_
        refine ef_var (Nat.le_refl _) rfl (by intro h; cases h) (fun ev W => by go_simp) ?_
        refine ef_put rfl rfl (fun u h => by obtain ⟨A, m, c, rfl⟩ := h; exact ⟨A, m, c, rfl⟩) (fun u h => by obtain ⟨A, m, c, rfl⟩ := h; rfl) rfl ?_
        refine F2.flow_assign TOK rfl (keeps_isV _) (.inr (keeps_isV _)) rfl ?_
        intro vsw6 W hW hF hN
        obtain ⟨gx3, cs, ex, hbx, hwx, _, A5, m5, c5, rfl⟩ := hN 16 _ _ 13 rfl rfl rfl rfl
        have ee : vsw6 14 = .int .i64 0 := hF 14 _ rfl rfl
        have hcw : Chg [] w6 W := Chg.new (Chg.refl [] w6).drew (hW.fe.chg (show w6.drew.heap.size ≤ w6.heap.size from Nat.le_refl _))
        have HC7 := Lib.hid (HC6.out.new hcw)
        have HX3 := Lib.hid hwx
        have HY7 := Lib.hid (HY1.out.keep hcw)
        have HSz3 := Lib.hid hcw.size
        simp only [putAll, Act.put, List.setIfInBounds_toArray, List.set_cons_zero, List.set_cons_succ]
        rw [ex, ee]
        clear hF hN hW hwx hcw ex ee hbx TOK
        clear x0 x1 y0 y1 y2
        have x1 := HY7.out.cell 1
        have z1 := HX3.out.cell 1
        go_wp2_with fail
        refine eknown_any.mono ?_
        rintro e w9 ⟨rfl, hc9⟩
        have HP := Lib.hid (show LawPost w (.returned (.bool true)) w9 from ⟨rfl, HC7.out.new hc9⟩)
        clear hc9
        go_wp2_with fail
        go_ret
        exact HP.out
end
end Go.Proofs.Ytfhgnoajfipjdaa
