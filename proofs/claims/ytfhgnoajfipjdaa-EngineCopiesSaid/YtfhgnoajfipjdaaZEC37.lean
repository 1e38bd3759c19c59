/-
  EC: ArgsU, EgKnown.
-/
import Derived.Test.YtfhgnoajfipjdaaZEC3
import Derived.Test.YtfhgnoajfipjdaaZEC5
import Derived.Test.YtfhgnoajfipjdaaZEC11
import Derived.Test.YtfhgnoajfipjdaaZEC24
import Derived.Test.YtfhgnoajfipjdaaZEC35
import Derived.Test.YtfhgnoajfipjdaaZEC36
import Derived.Deep.QuietTactic
import Derived.BigQuiet
namespace Go.Proofs.Ytfhgnoajfipjdaa
open Go.RowKit
/-- What Args answers. -/
def ArgsPost (w : World) (l : List FnV) (e : Ending) (w' : World) : Prop := ∃ (k : Nat) (f : FnV) (xs : List Int) (g : Nat), l[k]? = some f ∧ xs.length = f.args.toNat ∧ (∀ x ∈ xs, -9223372036854775808 ≤ x ∧ x ≤ 9223372036854775807) ∧ e = .returned (.tuple #[.int .i32 f.name, .slice (some ⟨g, 0, none⟩) xs.length xs.length]) ∧ w.heap.size ≤ g ∧ Whole w' g 2 (nms xs) ∧ Chg [] w w'
theorem fnCs_at : ∀ (l : List FnV) (k : Nat) (f : FnV), l[k]? = some f → (fnCs l)[k * 3]? = some (.int .i32 f.name) ∧ (fnCs l)[k * 3 + 1]? = some (.int .i64 f.args) ∧ (fnCs l)[k * 3 + 2]? = some (.string f.code)
  | x :: l, 0, f, h => by
    simp only [List.getElem?_cons_zero, Option.some.injEq] at h
    subst h
    exact ⟨rfl, rfl, rfl⟩
  | x :: l, k + 1, f, h => by
    rw [List.getElem?_cons_succ] at h
    have := fnCs_at l k f h
    simp only [fnCs, fnC, List.cons_append, List.nil_append]
    rw [show (k + 1) * 3 = k * 3 + 1 + 1 + 1 from by omega]
    exact this
theorem make_i64 (n : Nat) (h : n ≤ 1000000) (w : World) :
    (Instr.makeSlice 23 (.int .i64 (n : Int)) (.int .i64 (n : Int))).run Try.prog w = .ok (.slice (some ⟨w.heap.size, 0, none⟩) n n) (w.alloc (.cells (nms (List.replicate n 0)).toArray 2)) := by
  rw [show nms (List.replicate n 0) = List.replicate n (.int .i64 0) from by simp [nms]]
  obtain ⟨i, hi, hz, hs, hb⟩ := info_parts info_i64
  exact run_make1 _ _ i _ rfl Try.underlying23 hi hz hs n (by rw [hb]; omega) (by omega) w
section
variable {w : World} {A A2 : Option Addr} {n c m2 c2 : Nat} {l : List FnV} {pages most F fuel : Int} {us : List Int}
set_option maxHeartbeats 2000000 in
theorem uat_any (x : Int) (n : Nat) (hn : 1 ≤ n) (hn2 : n ≤ 1000000) (hx0 : -9223372036854775808 ≤ x) (hx1 : x ≤ 9223372036854775807) : Calls Try.prog 50 #[.int .i64 x, .int .i64 (n : Int)] w fun e w' => (∃ k : Nat, k < n ∧ e = .returned (.int .i64 (k : Int))) ∧ w = w' := by
  obtain ⟨b1, b2, _⟩ := into_within x 0 1048576 (by omega)
  obtain ⟨y, hy⟩ : ∃ y : Nat, withinI x 0 1048576 = (y : Int) := ⟨(withinI x 0 1048576).toNat, by omega⟩
  have HW := Lib.hid (show Calls Try.prog 50 #[.int .i64 x, .int .i64 (n : Int)] w (fun e w' => True) ∨ True from .inr trivial)
  have hmx : max (n : Int) 1 = (n : Int) := by omega
  have hm : (y : Int).tmod (n : Int) = ((y % n : Nat) : Int) := by rw [Int.tmod_eq_emod_of_nonneg (by omega)]; rfl
  have hlt : y % n < n := Nat.mod_lt _ (by omega)
  have HWI := Lib.hid (show ∀ W, Calls Try.prog 28 #[.int .i64 x, .int .i64 0, .int .i64 1048576] W fun e w' => e = .returned (.int .i64 (y : Int)) ∧ W = w' from fun W => by rw [← hy]; exact within_big x 0 1048576 (by omega) (by omega) (by omega) hx0 hx1)
  have hn0 : ¬ ((n : Int) = 0) := by omega
  clear hy b1 b2 HW
  go_enter Try.func50, Try.ntmps50
  go_wp2_with fail
  refine (HWI.out w).mono ?_
  rintro e w' ⟨rfl, rfl⟩
  go_wp2_with fail
  go_ret
  exact ⟨⟨y % n, hlt, rfl⟩, rfl⟩
set_option maxHeartbeats 4000000 in
set_option maxRecDepth 100000 in
theorem args_any (hF : Fnr w A n c l) (hn1 : 1 ≤ n) (hn2 : n ≤ 1000) (ha : ∀ f ∈ l, 0 ≤ f.args ∧ f.args ≤ 4) (hf0 : -9223372036854775808 ≤ F) (hf1 : F ≤ 9223372036854775807) (hal : us.length = m2) (hs : Src w A2 (nms us)) (hsp : 0 < m2 → ∀ ad, A2 = some ad → ad.spot = none) (hm : m2 ≤ 9223372036854775807) (har : ∀ x ∈ us, -9223372036854775808 ≤ x ∧ x ≤ 9223372036854775807) :
    Calls Try.prog 12 #[unitV pages most A n c, .agg #[.int .i64 F, .slice A2 m2 c2, .int .i64 fuel]] w (ArgsPost w l) := by
  obtain ⟨ad, e0, hb, hx⟩ := hF.src (by rw [fnCs_len, hF.len]; omega)
  have hsp0 := hF.spot (by omega) ad e0
  obtain ⟨fb, fo, fs⟩ := ad
  simp only at hsp0
  subst hsp0
  subst e0
  have HAT := Lib.hid (fun (W : World) => uat_any (w := W) F n hn1 (by omega) hf0 hf1)
  have HX := Lib.hid hx
  have HL := Lib.hid hF.len
  have HA := Lib.hid ha
  have HS := Lib.hid (And.intro hal (And.intro hs (And.intro hsp (And.intro hm har))))
  have hn0 : ((n : Int) == 0) = false := by simp; omega
  clear hx hF ha hal hs hsp hm har hf0 hf1 hb
  unfold unitV
  go_enter Try.func12, Try.ntmps12
  go_upto_region 3 with fail
  have hU := Whole.new w 28 [.int .i64 pages, .int .i64 most, .slice (some ⟨fb, fo, none⟩) n c]
  have hs1 : (w.alloc (.cells #[.int .i64 pages, .int .i64 most, .slice (some ⟨fb, fo, none⟩) n c] 28)).heap.size = w.heap.size + 1 := Array.size_push _
  have hal1 := (Chg.refl [] w).alloc (.cells #[.int .i64 pages, .int .i64 most, .slice (some ⟨fb, fo, none⟩) n c] 28)
  have hC := Whole.new (w.alloc (.cells #[.int .i64 pages, .int .i64 most, .slice (some ⟨fb, fo, none⟩) n c] 28)) 25 [.int .i64 F, .slice A2 m2 c2, .int .i64 fuel]
  have hal2 := (Chg.refl [] (w.alloc (.cells #[.int .i64 pages, .int .i64 most, .slice (some ⟨fb, fo, none⟩) n c] 28))).alloc (.cells #[.int .i64 F, .slice A2 m2 c2, .int .i64 fuel] 25)
  rw [hs1] at hC
  have hU1 := hU.keep hal2
  have hc1 := hal1.new hal2
  obtain ⟨gu, hgu⟩ : ∃ g, g = w.heap.size := ⟨_, rfl⟩
  rw [← hgu] at hU1 hC ⊢
  generalize (w.alloc (.cells #[.int .i64 pages, .int .i64 most, .slice (some ⟨fb, fo, none⟩) n c] 28)).alloc (.cells #[.int .i64 F, .slice A2 m2 c2, .int .i64 fuel] 25) = w1 at hU1 hC hc1 ⊢
  clear hU hs1 hal1 hal2 hgu
  have HC1 := Lib.hid hc1
  obtain ⟨gc, hgc⟩ : ∃ g, g = gu + 1 := ⟨_, rfl⟩
  rw [← hgc] at hC ⊢
  have HCC := Lib.hid hC
  have HU1 := Lib.hid hU1
  clear hU1 hC hc1 hgc
  have hP : PKeeps w1.heap.size 51 (fun cs _ => ∃ (k : Nat) (f : FnV), l[k]? = some f ∧ cs = fnC f) := fun _ _ _ h _ => h
  have TOK := vT_ok (n := 3) hP
  refine F2.wp_flow (by kernel_rfl) (vT w1.heap.size 51 3 (fun cs _ => ∃ (k : Nat) (f : FnV), l[k]? = some f ∧ cs = fnC f)) TOK (by kernel_rfl) (by kernel_rfl) ?_
  refine F2.flow1 (r := .pointer (some ⟨gu, 2, none⟩)) TOK rfl (.out rfl rfl) rfl (fun ev W he e1 => by go_simp) ?_
  refine F2.flow1h (r := .slice (some ⟨fb, fo, none⟩) n c) TOK rfl (.inn rfl) rfl (fun ev W he hW e1 => by have c2 := (hW.fe.whole (show Whole w1.drew gu 28 _ from HU1.out) (by decide)).cell 2; go_simp) ?_
  refine F2.flow1 (r := .pointer (some ⟨gc, 0, none⟩)) TOK rfl (.out rfl rfl) rfl (fun ev W he e1 => by go_simp) ?_
  refine F2.flow1h (r := .int .i64 F) TOK rfl (.inn rfl) rfl (fun ev W he hW e1 => by have c2 := (hW.fe.whole (show Whole w1.drew gc 25 _ from HCC.out) (by decide)).cell 0; go_simp) ?_
  refine F2.flow1 (r := .pointer (some ⟨gu, 2, none⟩)) TOK rfl (.out rfl rfl) rfl (fun ev W he e1 => by go_simp) ?_
  refine F2.flow1h (r := .slice (some ⟨fb, fo, none⟩) n c) TOK rfl (.inn rfl) rfl (fun ev W he hW e1 => by have c2 := (hW.fe.whole (show Whole w1.drew gu 28 _ from HU1.out) (by decide)).cell 2; go_simp) ?_
  refine F2.flow1 (x := .tmp 18) (r := .int .i64 (n : Int)) TOK (by simp [Op.operands, Call.operands]) (.inn rfl) rfl (fun ev W he e1 => by go_simp) ?_
  refine F2.flow_calld (fun v _ => ∃ k : Nat, k < n ∧ v = .int .i64 (k : Int)) (fun _ _ _ h _ => h) (.inr (fun _ _ _ h _ => h)) (by kernel_rfl) rfl (.cons (.inn rfl) (.cons (.inn rfl) .nil)) (fun W hW => (HAT.out W).mono ?_) ?_
  · rintro e w' ⟨⟨k, hk, rfl⟩, rfl⟩
    exact ⟨_, rfl, v_by _ (RV.of_chg hP (Chg.refl _ _)), k, hk, rfl⟩
  refine F2.flow_op (fun v _ => ∃ k : Nat, k < n ∧ v = .pointer (some ⟨fb, fo + k * 3, none⟩)) (fun _ _ _ h _ => h) (.inr (fun _ _ _ h _ => h)) rfl (fun ev W he hW hf => ?_) ?_
  · have e1 : ev (.tmp 14) = .slice (some ⟨fb, fo, none⟩) n c := hf.1
    obtain ⟨k, hk, e2⟩ : ∃ k : Nat, k < n ∧ ev (.tmp 20) = .int .i64 (k : Int) := hf.2.1
    have hk1 : (k : Int) < (n : Int) := by omega
    have hr : ∃ r, r = fo + k * 3 := ⟨_, rfl⟩
    clear hf hW
    go_simp
    exact ⟨TOK.by_refl _ _, k, hk, rfl⟩
  refine F2.flow_op (vaF 3 (fun cs _ => ∃ (k : Nat) (f : FnV), l[k]? = some f ∧ cs = fnC f)) (keeps_va hP) (.inr (keeps_va hP)) rfl (fun ev W he hW hf => ?_) ?_
  · obtain ⟨k, hk, e2⟩ : ∃ k : Nat, k < n ∧ ev (.tmp 21) = .pointer (some ⟨fb, fo + k * 3, none⟩) := hf.1
    obtain ⟨f, hfk⟩ : ∃ f, l[k]? = some f := ⟨l[k]'(by rw [HL.out]; exact hk), List.getElem?_eq_getElem _⟩
    obtain ⟨z0, z1, z2⟩ := fnCs_at l k f hfk
    have hcw : Chg [] w W := HC1.out.drew.new (hW.fe.chg (show w1.drew.heap.size ≤ w1.heap.size from Nat.le_refl _))
    have c0 := cell_keep (HX.out _ _ z0) hcw
    have c1 := cell_keep (HX.out _ _ z1) hcw
    have c2 := cell_keep (HX.out _ _ z2) hcw
    rw [add_plain] at c0 c1 c2
    rw [← Nat.add_assoc] at c1 c2
    clear hf hW z0 z1 z2 hcw
    go_simp
    exact ⟨TOK.by_refl _ _, fnC f, rfl, rfl, ⟨k, f, hfk, rfl⟩, rfl⟩
  refine v_alloc hP [.int .i32 0, .int .i64 0, .string ⟨#[]⟩] rfl (Nat.le_refl _) rfl (by intro h; cases h) (fun ev W => by go_simp) ?_
  refine v_put rfl rfl hP (by kernel_rfl) rfl ?_
  intro vs W hW hF hN
  obtain ⟨gx, cs, ex, hbx, hwx, _, k, f, hfk, rfl⟩ := hN 11 _ _ 6 rfl rfl rfl rfl
  have hcw : Chg [] w W := HC1.out.drew.new (hW.fe.chg (show w1.drew.heap.size ≤ w1.heap.size from Nat.le_refl _))
  have HCW := Lib.hid hcw
  have HFK := Lib.hid hfk
  have HCC2 := Lib.hid (show Whole W gc 25 _ from hW.fe.whole (show Whole w1.drew gc 25 _ from HCC.out) (by decide))
  have HFX := Lib.hid hwx
  simp only [putAll, Act.put, List.setIfInBounds_toArray, List.set_cons_zero, List.set_cons_succ]
  rw [ex]
  clear hF hN hW hwx hcw ex hbx TOK hfk hP
  obtain ⟨m, hm⟩ : ∃ m : Nat, f.args = (m : Int) ∧ m ≤ 4 := ⟨f.args.toNat, by have := HA.out f (List.mem_of_getElem? HFK.out); omega, by have := HA.out f (List.mem_of_getElem? HFK.out); omega⟩
  have hmin : min (m : Int) 4 = (m : Int) := by omega
  have hmax : max (m : Int) 0 = (m : Int) := by omega
  have a0 := HFX.out.cell 0
  have a1 := HFX.out.cell 1
  rw [show (fnC f)[1]? = some (.int .i64 f.args) from rfl, hm.1] at a1
  rw [show (fnC f)[0]? = some (.int .i32 f.name) from rfl] at a0
  have hmk := make_i64 m (by omega)
  go_upto_region 5 with fail
  have hO := Whole.new W 2 (nms (List.replicate m 0))
  have hal := (Chg.refl [] W).alloc (.cells (nms (List.replicate m 0)).toArray 2)
  obtain ⟨go_, hgo⟩ : ∃ g, g = W.heap.size := ⟨_, rfl⟩
  have HGO := Lib.hid (show w.heap.size ≤ go_ ∧ gx < go_ ∧ gc < go_ by have h1 := HCW.out.size; have h2 := HFX.out.lt; have h3 := HCC2.out.lt; omega)
  rw [← hgo] at hO ⊢
  have HC3 := Lib.hid (HCW.out.new hal)
  have HCC3 := Lib.hid (HCC2.out.keep hal)
  have HFX3 := Lib.hid (HFX.out.keep hal)
  generalize W.alloc (.cells (nms (List.replicate m 0)).toArray 2) = W3 at hO HC3 HCC3 HFX3 ⊢
  have HO := Lib.hid hO
  clear hO hal hgo a0 a1 hmk HFX HCC2 HCW
  go_wp2_with fail
  go_loopw [30] (fun i wr => ∃ (k : Nat) (xs : List Int), k ≤ m ∧ i = .int .i64 (k : Int) ∧ Hid (xs.length = m) ∧ Hid (∀ x ∈ xs, -9223372036854775808 ≤ x ∧ x ≤ 9223372036854775807) ∧ Hid (Whole wr go_ 2 (nms xs)) ∧ Hid (Chg [go_] W3 wr)) (fun i _ => m - (intOf i).toNat)
  case atStart => exact ⟨0, List.replicate m 0, by omega, rfl, Lib.hid (List.length_replicate), Lib.hid (fun x hx => by rw [(List.mem_replicate.1 hx).2]; omega), HO, Lib.hid (Chg.refl _ _)⟩
  case round =>
    obtain ⟨k, xs, hk, rfl, HXL, HXR, HXW, HCr⟩ := hrel
    by_cases hlt : k < m
    · have hdk : decide ((k : Int) < (m : Int)) = true := decide_eq_true (by omega)
      have j1 := (HCC3.out.chg HCr.out (by have := HGO.out; simp; omega)).cell 1
      rw [show ([.int .i64 F, .slice A2 m2 c2, .int .i64 fuel] : List Value)[1]? = some (.slice A2 m2 c2) from rfl] at j1
      obtain ⟨h1, h2, h3, h4, h5⟩ := HS.out
      by_cases hk2 : k < m2
      · have hdk2 : decide ((k : Int) < (m2 : Int)) = true := decide_eq_true (by omega)
        have hcw : Chg [] w wr := HC3.out.then_ HCr.out (fun i hi hil => by have := HGO.out; simp only [List.mem_cons, List.not_mem_nil, or_false] at hi; omega)
        obtain ⟨ad, e0, _, hx⟩ := (h2.keep hcw) (by rw [show (nms us).length = us.length from by simp [nms]]; omega)
        have hspd := h3 (by omega) ad e0
        obtain ⟨ab, ao, asp⟩ := ad
        simp only at hspd
        subst hspd
        subst e0
        have hku : k < us.length := by omega
        obtain ⟨v, hv⟩ : ∃ v, us[k]? = some v := ⟨us[k], List.getElem?_eq_getElem hku⟩
        have hvr := h5 v (List.mem_of_getElem? hv)
        have c1 := hx k (.int .i64 v) (by rw [show nms us = us.map (Value.int .i64) from rfl, List.getElem?_map, hv]; rfl)
        rw [add_plain] at c1
        have hkx : k < xs.length := by rw [HXL.out]; exact hlt
        have c2 := HXW.out.cell k
        rw [show nms xs = xs.map (Value.int .i64) from rfl, List.getElem?_map, List.getElem?_eq_getElem hkx] at c2
        obtain ⟨u0, hu0⟩ : ∃ u0, xs[k] = u0 := ⟨_, rfl⟩
        rw [hu0] at c2
        have f2 := HXW.out.frozen k
        have hset := HXW.out.set_ k (.int .i64 v)
        rw [show (nms xs).set k (.int .i64 v) = nms (xs.set k v) from by simp [nms]] at hset
        have HSET := Lib.hid hset
        have HCS := Lib.hid (HCr.out.setCell (p := ⟨go_, k, none⟩) (by simp) (.int .i64 v))
        have HVR := Lib.hid hvr
        have hkm2 : (k : Int) < (m2 : Int) := by omega
        have hkm : (k : Int) < (m : Int) := by omega
        clear h1 h2 h3 h4 h5 hx hv hvr hset hu0 hku hkx hcw
        go_wp2_with fail
        go_roundw
        case rel => exact ⟨k + 1, xs.set k v, by omega, by go_num, Lib.hid (by rw [List.length_set]; exact HXL.out), Lib.hid (fun x hx => by
          rcases List.mem_or_eq_of_mem_set hx with h | h
          · exact HXR.out x h
          · rw [h]; exact HVR.out), HSET, HCS⟩
        case measure => simp [intOf]; omega
      · have hdk2 : decide ((k : Int) < (m2 : Int)) = false := decide_eq_false (by omega)
        clear h1 h2 h3 h4 h5
        go_wp2_with fail
        go_roundw
        case rel => exact ⟨k + 1, xs, by omega, by go_num, HXL, HXR, HXW, HCr⟩
        case measure => simp [intOf]; omega
    · have hdk : decide ((k : Int) < (m : Int)) = false := decide_eq_false (by omega)
      have a0 := (HFX3.out.chg HCr.out (by have := HGO.out; simp; omega)).cell 0
      rw [show (fnC f)[0]? = some (.int .i32 f.name) from rfl] at a0
      have HP := Lib.hid (show ArgsPost w l (.returned (.tuple #[.int .i32 f.name, .slice (some ⟨go_, 0, none⟩) m m])) wr from by
        refine ⟨_, f, xs, go_, HFK.out, by rw [HXL.out, hm.1]; rfl, HXR.out, by rw [HXL.out], HGO.out.1, HXW.out, HC3.out.then_ HCr.out (fun i hi hil => ?_)⟩
        have := HGO.out
        simp only [List.mem_cons, List.not_mem_nil, or_false] at hi
        omega)
      go_wp2_with fail
      go_ret2
      exact HP.out
end
end Go.Proofs.Ytfhgnoajfipjdaa
namespace Go.Proofs.Ytfhgnoajfipjdaa
open Go.RowKit
theorem right_ku {code : ByteArray} (hok : (rFn (oneU code) 0).1 = 0) (hsz : code.size ≤ 1000000) : RightU 1 2 (oneU code) := by
  refine ⟨by decide, by decide, by decide, by simp [oneU], fun k f hf => ?_, fun k hk => ?_, fun f hf => ?_⟩
  · cases k with
    | zero => simp only [oneU, List.getElem?_cons_zero, Option.some.injEq] at hf; subst hf; exact ⟨by show nameB 102 = true; decide, by simp [findI, findK, oneU], by show (0 : Int) ≤ 1; decide, by show (1 : Int) ≤ 4; decide⟩
    | succ k => simp [oneU] at hf
  · obtain rfl : k = 0 := by simp [oneU] at hk; omega
    exact hok
  · simp only [oneU, List.mem_singleton] at hf
    subst hf
    exact hsz
def KOnePost (w : World) (code : ByteArray) (e : Ending) (w' : World) : Prop := ∃ g, e = .returned (.agg #[.int .i64 1, .int .i64 2, .slice (some ⟨g, 0, none⟩) 1 1]) ∧ w.heap.size ≤ g ∧ Whole w' g 51 (fnCs (oneU code)) ∧ Chg [] w w'
def KRunPost (w : World) (val trap fuel : Int) (e : Ending) (w' : World) : Prop := ∃ A m c, e = .returned (.tuple #[.agg #[.int .i64 val, .int .i64 trap, .int .i64 fuel, .slice A m c], .int .i64 0]) ∧ Chg [] w w'
section
variable {w : World}
set_option maxHeartbeats 4000000 in
set_option maxRecDepth 100000 in
theorem kone_any (code : ByteArray) : Calls Try.prog 58 #[.string code] w (KOnePost w code) := by
  have h1 : Whole (w.alloc (.cells #[.int .i64 1, .int .i64 2, .slice (some ⟨w.heap.size + 1, 0, none⟩) 1 1] 28)) w.heap.size 28 [.int .i64 1, .int .i64 2, .slice (some ⟨w.heap.size + 1, 0, none⟩) 1 1] := Whole.new w _ _
  have hal : Chg [] w (w.alloc (.cells #[.int .i64 1, .int .i64 2, .slice (some ⟨w.heap.size + 1, 0, none⟩) 1 1] 28)) := (Chg.refl [] w).alloc _
  have hsz : (w.alloc (.cells #[.int .i64 1, .int .i64 2, .slice (some ⟨w.heap.size + 1, 0, none⟩) 1 1] 28)).heap.size = w.heap.size + 1 := Array.size_push _
  have h2 := Whole.new (w.alloc (.cells #[.int .i64 1, .int .i64 2, .slice (some ⟨w.heap.size + 1, 0, none⟩) 1 1] 28)) 51 [.int .i32 102, .int .i64 1, .string code]
  rw [hsz] at h2
  have hal2 := (Chg.refl [] (w.alloc (.cells #[.int .i64 1, .int .i64 2, .slice (some ⟨w.heap.size + 1, 0, none⟩) 1 1] 28))).alloc (.cells #[.int .i32 102, .int .i64 1, .string code] 51)
  have h3 := h1.keep hal2
  have HP := Lib.hid (show KOnePost w code (.returned (.agg #[.int .i64 1, .int .i64 2, .slice (some ⟨w.heap.size + 1, 0, none⟩) 1 1])) ((w.alloc (.cells #[.int .i64 1, .int .i64 2, .slice (some ⟨w.heap.size + 1, 0, none⟩) 1 1] 28)).alloc (.cells #[.int .i32 102, .int .i64 1, .string code] 51)) from ⟨_, rfl, by omega, h2, hal.new hal2⟩)
  have e0 := h3.cell 0
  have e1 := h3.cell 1
  have e2 := h3.cell 2
  clear h1 h2 h3 hal hal2 hsz
  go_enter Try.func58, Try.ntmps58
  go_wp2_with fail
  generalize (w.alloc (.cells #[.int .i64 1, .int .i64 2, .slice (some ⟨w.heap.size + 1, 0, none⟩) 1 1] 28)).alloc (.cells #[.int .i32 102, .int .i64 1, .string code] 51) = wf at HP e0 e1 e2 ⊢
  simp only [List.getElem?_cons_zero, List.getElem?_cons_succ] at e0 e1 e2
  refine bodyPost_ret (v := .agg #[.int .i64 1, .int .i64 2, .slice (some ⟨w.heap.size + 1, 0, none⟩) 1 1]) (by simp [results, Try.results58, go_sem, e0, e1, e2]) rfl HP.out
set_option maxHeartbeats 4000000 in
set_option maxRecDepth 100000 in
/-- A run with no memory. -/
theorem erun_nil {pages most : Int} {A : Option Addr} {n c rp m2 c2 : Nat} {A2 : Option Addr} (name fuel : Int) : Calls Try.prog 13 #[unitV pages most A n c, .pointer none, .pointer (some ⟨rp, 0, none⟩), .int .i32 name, .int .i64 fuel, .slice A2 m2 c2] w
    (fun e w' => e = .returned (.tuple #[.agg #[.int .i64 0, .int .i64 0, .int .i64 0, .slice none 0 0], .int .i64 1]) ∧ Chg [] w w') := by
  unfold unitV
  go_enter Try.func13, Try.ntmps13
  go_wp2_with fail
  have hs1 : (w.alloc (.cells #[.int .i64 pages, .int .i64 most, .slice A n c] 28)).heap.size = w.heap.size + 1 := Array.size_push _
  have hR := Whole.new (w.alloc (.cells #[.int .i64 pages, .int .i64 most, .slice A n c] 28)) 34 [.int .i64 0, .int .i64 0, .int .i64 0, .slice none 0 0]
  have hc : Chg [] w ((w.alloc (.cells #[.int .i64 pages, .int .i64 most, .slice A n c] 28)).alloc (.cells #[.int .i64 0, .int .i64 0, .int .i64 0, .slice none 0 0] 34)) := ((Chg.refl [] w).alloc _).alloc _
  rw [hs1] at hR
  generalize (w.alloc (.cells #[.int .i64 pages, .int .i64 most, .slice A n c] 28)).alloc (.cells #[.int .i64 0, .int .i64 0, .int .i64 0, .slice none 0 0] 34) = wf at hR hc ⊢
  have e0 := hR.cell 0
  have e1 := hR.cell 1
  have e2 := hR.cell 2
  have e3 := hR.cell 3
  simp only [List.getElem?_cons_zero, List.getElem?_cons_succ] at e0 e1 e2 e3
  refine bodyPost_ret (v := .tuple #[.agg #[.int .i64 0, .int .i64 0, .int .i64 0, .slice none 0 0], .int .i64 1]) (by simp [results, Try.results13, go_sem, e0, e1, e2, e3]) rfl ⟨rfl, hc⟩
set_option maxHeartbeats 8000000 in
set_option maxRecDepth 100000 in
theorem krun_any {code : ByteArray} {fuel : Nat} {val trap : Int} {s' : EgV} (hU : RightU 1 2 (oneU code)) (hfu : fuel ≤ 1048576) (hdo : eDo (oneU code) [] 2 0 fuel [5] (zeros 64) [false] [] = some (val, trap, s')) : Calls Try.prog 57 #[.string code, .int .i64 (fuel : Int)] w (KRunPost w val trap (s'.fuel : Int)) := by
  have HU := Lib.hid hU
  have HDO := Lib.hid hdo
  have HFU := Lib.hid hfu
  clear hU hdo hfu
  go_enter Try.func57, Try.ntmps57
  go_upto_region 1 with fail
  have hR0 := Whole.new w 34 [.int .i64 0, .int .i64 0, .int .i64 0, .slice none 0 0]
  have hc0 := (Chg.refl [] w).alloc (.cells #[.int .i64 0, .int .i64 0, .int .i64 0, .slice none 0 0] 34)
  obtain ⟨gr, hgr⟩ : ∃ g, g = w.heap.size := ⟨_, rfl⟩
  rw [← hgr] at hR0 ⊢
  generalize w.alloc (.cells #[.int .i64 0, .int .i64 0, .int .i64 0, .slice none 0 0] 34) = w0 at hR0 hc0 ⊢
  have HGR := Lib.hid (show w.heap.size ≤ gr by omega)
  have HR0 := Lib.hid hR0
  have HC0 := Lib.hid hc0
  clear hR0 hc0 hgr
  go_wp2_with fail
  refine (kone_any code).mono ?_
  rintro e w1 ⟨g, rfl, hg, hW, hc1⟩
  have HW := Lib.hid hW
  have HG := Lib.hid hg
  have HR1 := Lib.hid (HR0.out.keep hc1)
  have HC1 := Lib.hid (HC0.out.new hc1)
  clear hg hW hc1 HC0
  go_wp2_with fail
  refine (cnew_yes 1 2 (by omega) (by omega)).mono ?_
  rintro e w2 ⟨p, gC, gD, rfl, hM, hp, hgC, hgD, hc2⟩
  have HM := Lib.hid hM
  have HPB := Lib.hid (And.intro hp (And.intro hgC hgD))
  have HC2 := Lib.hid hc2
  clear hM hp hgC hgD hc2
  go_wp2_with fail
  refine (rnew_any (vs := []) (rs := []) Nums.nil (fun h => absurd h (by simp)) (fun ad h => by cases h) rfl (Nat.le_refl 0) 0 rfl).mono ?_
  rintro e w3 ⟨rp, av, rfl, hR, hrp, hc3⟩
  have HR := Lib.hid hR
  have HRP := Lib.hid hrp
  have HC3 := Lib.hid hc3
  clear hR hrp hc3
  go_wp2_with fail
  have hal : Chg [] w3 (w3.alloc (.cells #[.int .i64 5] 2)) := (Chg.refl [] w3).alloc _
  have hc14 := (HC2.out.new HC3.out).new hal
  have hW4 := HW.out.keep hc14
  have hM4 := HM.out.keep (HC3.out.new hal)
  have hR4 := HR.out.keep hal
  have hglt := HW.out.lt
  have hF : Fnr (w3.alloc (.cells #[.int .i64 5] 2)) (some ⟨g, 0, none⟩) 1 1 (oneU code) := ⟨rfl, Src.of_all hW4, Nat.le_refl _, by omega, fun _ ad e => by injection e with e; subst e; rfl, fun f hf => by simp only [oneU, List.mem_singleton] at hf; subst hf; exact ⟨by show (-9223372036854775808 : Int) ≤ 1; decide, by show (1 : Int) ≤ 9223372036854775807; decide⟩⟩
  have hRun := engrun_any (T := [p, gC, gD, rp]) (args := [5]) (k := 0) (fuel := fuel) (m2 := 1) (c2 := 1) (A2 := some ⟨w3.heap.size, 0, none⟩) (name := 102) (f := ⟨102, 1, code⟩) hM4 hR4 hF HU.out (by simp) (by simp) (by simp) (by simp) (fun i hi => by simp [Value.ownBlock] at hi)
    (fun ad e => by
      injection e with e
      subst e
      refine ⟨hW4.lt, fun hm => ?_⟩
      have h1 := HPB.out
      have h2 := HRP.out
      have h3 := HC2.out.size
      simp only [List.mem_cons, List.not_mem_nil, or_false] at hm
      omega) rfl rfl rfl HFU.out (by simp) rfl (Src.of_all (Whole.new w3 2 [.int .i64 5])) HDO.out
  have HRUN := Lib.hid hRun
  have HTW := Lib.hid (show gr ∉ [p, gC, gD, rp] ∧ ∀ i ∈ [p, gC, gD, rp], w.heap.size ≤ i by
    have h0 := HR1.out.lt
    have h1 := HPB.out
    have h2 := HRP.out
    have h3 := HC2.out.size
    have h4 := HC1.out.size
    refine ⟨by simp; omega, fun i hi => ?_⟩
    simp only [List.mem_cons, List.not_mem_nil, or_false] at hi
    omega)
  have HR4 := Lib.hid (HR1.out.keep hc14)
  have HC4 := Lib.hid (HC1.out.new hc14)
  clear hal hc14 hW4 hM4 hR4 hF hRun hglt
  unfold unitV at HRUN
  refine HRUN.out.mono ?_
  rintro e w5 ⟨v5, rfl, ⟨Av, cv, rfl, _⟩, _, _, hc5⟩
  generalize (List.drop ([] : List (Int × Int)).length s'.qs).length = m5
  have HC5 := Lib.hid (HC4.out.then_ hc5 (fun i hi hl => by have := HTW.out.2 i hi; omega))
  have hR5 := HR4.out.chg hc5 HTW.out.1
  have c0 := hR5.cell 0
  have c1 := hR5.cell 1
  have c2 := hR5.cell 2
  have c3 := hR5.cell 3
  have f0 := hR5.frozen 0
  have f1 := hR5.frozen 1
  have f2 := hR5.frozen 2
  have f3 := hR5.frozen 3
  have HR5 := Lib.hid hR5
  clear hc5 hR5
  go_wp2_with fail
  have hset : Whole ((((w5.setCell ⟨gr, 0, none⟩ (.int .i64 val)).setCell ⟨gr, 1, none⟩ (.int .i64 trap)).setCell ⟨gr, 2, none⟩ (.int .i64 (s'.fuel : Int))).setCell ⟨gr, 3, none⟩ (.slice Av m5 cv)) gr 34 [.int .i64 val, .int .i64 trap, .int .i64 (s'.fuel : Int), .slice Av m5 cv] := (((HR5.out.set_ 0 _).set_ 1 _).set_ 2 _).set_ 3 _
  have hno : ∀ i, (⟨gr, i, none⟩ : Addr).block < w.heap.size → (⟨gr, i, none⟩ : Addr).block ∈ ([] : List Nat) := fun i h => absurd h (by have := HGR.out; show ¬ gr < _; omega)
  have hcf : Chg [] w ((((w5.setCell ⟨gr, 0, none⟩ (.int .i64 val)).setCell ⟨gr, 1, none⟩ (.int .i64 trap)).setCell ⟨gr, 2, none⟩ (.int .i64 (s'.fuel : Int))).setCell ⟨gr, 3, none⟩ (.slice Av m5 cv)) := (((HC5.out.setCell (hno 0) _).setCell (hno 1) _).setCell (hno 2) _).setCell (hno 3) _
  generalize (((w5.setCell ⟨gr, 0, none⟩ (.int .i64 val)).setCell ⟨gr, 1, none⟩ (.int .i64 trap)).setCell ⟨gr, 2, none⟩ (.int .i64 (s'.fuel : Int))).setCell ⟨gr, 3, none⟩ (.slice Av m5 cv) = wf at hset hcf ⊢
  clear c0 c1 c2 c3 f0 f1 f2 f3
  have e0 := hset.cell 0
  have e1 := hset.cell 1
  have e2 := hset.cell 2
  have e3 := hset.cell 3
  simp only [List.getElem?_cons_zero, List.getElem?_cons_succ] at e0 e1 e2 e3
  refine bodyPost_ret (v := .tuple #[.agg #[.int .i64 val, .int .i64 trap, .int .i64 (s'.fuel : Int), .slice Av m5 cv], .int .i64 0]) (by simp [results, Try.results57, go_sem, e0, e1, e2, e3]) rfl ⟨Av, m5, cv, rfl, hcf⟩
theorem dig3_of {q : Option (Int × Int × EgV)} {v t : Int} {f : Nat} (h : dig3 q = some (v, t, f)) : ∃ s', q = some (v, t, s') ∧ s'.fuel = f := by
  cases q with
  | none => cases h
  | some q =>
    obtain ⟨x, y, s'⟩ := q
    simp only [dig3, Option.map_some, Option.some.injEq, Prod.mk.injEq] at h
    obtain ⟨rfl, rfl, rfl⟩ := h
    exact ⟨s', rfl, rfl⟩
theorem ka_ok : (rFn (oneU ⟨#[49, 32, 50, 43]⟩) 0).1 = 0 := by decide +kernel
theorem kb_ok : (rFn (oneU ⟨#[49]⟩) 0).1 = 0 := by decide +kernel
theorem kc_ok : (rFn (oneU ⟨#[97, 206, 187, 102]⟩) 0).1 = 0 := by decide +kernel
set_option maxHeartbeats 8000000 in
set_option maxRecDepth 100000 in
theorem eknown_any : Calls Try.prog 16 #[] w (LawPost w) := by
  obtain ⟨sa, ha, hfa⟩ := dig3_of known_a
  obtain ⟨sb, hb, hfb⟩ := dig3_of known_b
  obtain ⟨sc, hc⟩ : ∃ sc, eDo (oneU ⟨#[97, 206, 187, 102]⟩) [] 2 0 999 [5] (zeros 64) [false] [] = some (0, 6, sc) := by
    have h := known_c
    cases hq : eDo (oneU ⟨#[97, 206, 187, 102]⟩) [] 2 0 999 [5] (List.replicate 64 0) [false] [] with
    | none => rw [hq] at h; cases h
    | some q =>
      obtain ⟨x, y, s'⟩ := q
      rw [hq] at h
      simp only [dig3, Option.map_some, Option.some.injEq, Prod.mk.injEq] at h
      obtain ⟨rfl, rfl⟩ := h
      exact ⟨s', hq⟩
  have HA := Lib.hid (And.intro (right_ku ka_ok (by decide)) ha)
  have HB := Lib.hid (And.intro (right_ku kb_ok (by decide)) hb)
  have HCC := Lib.hid (And.intro (right_ku kc_ok (by decide)) hc)
  clear ha hb hc
  go_enter Try.func16, Try.ntmps16
  go_wp2_with fail
  refine (krun_any (fuel := 9) HA.out.1 (by decide) HA.out.2).mono ?_
  rintro e w1 ⟨A1, m1, c1, rfl, hc1⟩
  rw [hfa]
  have HC1 := Lib.hid hc1
  clear hc1
  go_upto_region 2 with fail
  have hX1 := Whole.new w1 34 [.int .i64 3, .int .i64 0, .int .i64 6, .slice A1 m1 c1]
  have hal1 := (Chg.refl [] w1).alloc (.cells #[.int .i64 3, .int .i64 0, .int .i64 6, .slice A1 m1 c1] 34)
  obtain ⟨g1, hg1⟩ : ∃ g, g = w1.heap.size := ⟨_, rfl⟩
  rw [← hg1] at hX1 ⊢
  generalize w1.alloc (.cells #[.int .i64 3, .int .i64 0, .int .i64 6, .slice A1 m1 c1] 34) = v1 at hX1 hal1 ⊢
  have HX1 := Lib.hid hX1
  have HD1 := Lib.hid (HC1.out.new hal1)
  clear hX1 hal1 hg1 HC1
  go_wp2_with fail
  refine (krun_any (fuel := 0) HB.out.1 (by decide) HB.out.2).mono ?_
  rintro e w2 ⟨A2, m2, c2, rfl, hc2⟩
  rw [hfb]
  have HX2 := Lib.hid (HX1.out.keep hc2)
  have HC2 := Lib.hid (HD1.out.new hc2)
  clear hc2 HX1 HD1
  go_upto_region 3 with fail
  have hX2 := Whole.new w2 34 [.int .i64 0, .int .i64 1, .int .i64 ((0 : Nat) : Int), .slice A2 m2 c2]
  have hal2 := (Chg.refl [] w2).alloc (.cells #[.int .i64 0, .int .i64 1, .int .i64 ((0 : Nat) : Int), .slice A2 m2 c2] 34)
  obtain ⟨g2, hg2⟩ : ∃ g, g = w2.heap.size := ⟨_, rfl⟩
  rw [← hg2] at hX2 ⊢
  generalize w2.alloc (.cells #[.int .i64 0, .int .i64 1, .int .i64 ((0 : Nat) : Int), .slice A2 m2 c2] 34) = v2 at hX2 hal2 ⊢
  have HX3 := Lib.hid (HX2.out.keep hal2)
  have HY3 := Lib.hid hX2
  have HD2 := Lib.hid (HC2.out.new hal2)
  clear hX2 hal2 hg2 HC2 HX2
  go_wp2_with fail
  refine (krun_any (fuel := 999) HCC.out.1 (by decide) HCC.out.2).mono ?_
  rintro e w3 ⟨A3, m3, c3, rfl, hc3⟩
  generalize (sc.fuel : Int) = fc
  have HX4 := Lib.hid (HX3.out.keep hc3)
  have HY4 := Lib.hid (HY3.out.keep hc3)
  have HC3 := Lib.hid (HD2.out.new hc3)
  clear hc3 HX3 HY3 HD2
  go_upto_region 4 with fail
  have hX3 := Whole.new w3 34 [.int .i64 0, .int .i64 6, .int .i64 fc, .slice A3 m3 c3]
  have hal3 := (Chg.refl [] w3).alloc (.cells #[.int .i64 0, .int .i64 6, .int .i64 fc, .slice A3 m3 c3] 34)
  obtain ⟨g3, hg3⟩ : ∃ g, g = w3.heap.size := ⟨_, rfl⟩
  rw [← hg3] at hX3 ⊢
  generalize w3.alloc (.cells #[.int .i64 0, .int .i64 6, .int .i64 fc, .slice A3 m3 c3] 34) = v3 at hX3 hal3 ⊢
  have HX5 := Lib.hid (HX4.out.keep hal3)
  have HY5 := Lib.hid (HY4.out.keep hal3)
  have HZ5 := Lib.hid hX3
  have HD3 := Lib.hid (HC3.out.new hal3)
  clear hX3 hal3 hg3 HC3 HX4 HY4
  go_wp2_with fail
  refine (kone_any ⟨#[49]⟩).mono ?_
  rintro e w4 ⟨g4, rfl, _, _, hc4⟩
  have HC4 := Lib.hid hc4
  clear hc4
  go_wp2_with fail
  refine (rnew_any (vs := []) (rs := []) Nums.nil (fun h => absurd h (by simp)) (fun ad h => by cases h) rfl (Nat.le_refl 0) 0 rfl).mono ?_
  rintro e w5 ⟨rp, av, rfl, _, _, hc5⟩
  have HC5 := Lib.hid hc5
  clear hc5
  go_wp2_with fail
  have hal4 := (Chg.refl [] w5).alloc (.cells #[.int .i64 0] 2)
  have hn := erun_nil (w := w5.alloc (.cells #[.int .i64 0] 2)) (pages := 1) (most := 2) (A := some ⟨g4, 0, none⟩) (n := 1) (c := 1) (rp := rp) (m2 := 1) (c2 := 1) (A2 := some ⟨w5.heap.size, 0, none⟩) 102 1
  unfold unitV at hn
  refine hn.mono ?_
  rintro e w6 ⟨rfl, hc6⟩
  have hc36 := ((HC4.out.new HC5.out).new hal4).new hc6
  have HX6 := Lib.hid (HX5.out.keep hc36)
  have HY6 := Lib.hid (HY5.out.keep hc36)
  have HZ6 := Lib.hid (HZ5.out.keep hc36)
  have HC6 := Lib.hid (HD3.out.new hc36)
  clear hn hc36 hc6 hal4 HX5 HY5 HZ5 HD3
  go_upto_region 5 with fail
  have hX6 := Whole.new w6 34 [.int .i64 0, .int .i64 0, .int .i64 0, .slice none 0 0]
  have hal7 := (Chg.refl [] w6).alloc (.cells #[.int .i64 0, .int .i64 0, .int .i64 0, .slice none 0 0] 34)
  obtain ⟨g6, hg6⟩ : ∃ g, g = w6.heap.size := ⟨_, rfl⟩
  rw [← hg6] at hX6 ⊢
  generalize w6.alloc (.cells #[.int .i64 0, .int .i64 0, .int .i64 0, .slice none 0 0] 34) = v6 at hX6 hal7 ⊢
  have x := HX6.out.keep hal7
  have y := HY6.out.keep hal7
  have z := HZ6.out.keep hal7
  have HP := Lib.hid (show LawPost w (.returned (.bool true)) v6 from ⟨rfl, HC6.out.new hal7⟩)
  have a0 := x.cell 0
  have a1 := x.cell 1
  have a2 := x.cell 2
  have b1 := y.cell 1
  have d1 := z.cell 1
  clear x y z hX6 hal7 hg6
  go_wp2_with fail
  go_ret
  exact HP.out
end
end Go.Proofs.Ytfhgnoajfipjdaa
