/-
  NestWithin, part 6: LawNestW.
-/
import Derived.Test.YtafgpmempgoikaaZNestWithin1
import Derived.Test.YtafgpmempgoikaaZNestWithin2
import Derived.Test.YtafgpmempgoikaaZNestWithin3
import Derived.Test.YtafgpmempgoikaaZNestWithin4
import Derived.Test.YtafgpmempgoikaaZNestWithin5
namespace Go.Proofs.Ytafgpmempgoikaa
open Go.RowKit
theorem rFunc_ok {l : List FnV} {code : ByteArray} (h : (rFunc l code).1 = 0) : ∃ ts t d, tokR code = some ts ∧ rNest (signs ts) = some (t, d) ∧ rWalk l ts 0 [] [] = rFunc l code := by
  unfold rFunc at h ⊢
  cases ht : tokR code with
  | none =>
    rw [ht] at h
    simp only at h
    unfold tokE at h
    split at h <;> cases h
  | some ts =>
    rw [ht] at h
    simp only at h ⊢
    cases hn : rNest (signs ts) with
    | none => rw [hn] at h; cases h
    | some r => obtain ⟨t, d⟩ := r; exact ⟨ts, t, d, rfl, hn, rfl⟩
theorem rFunc_ne {l : List FnV} {code : ByteArray} (h : (rFunc l code).1 = 0) {ts : List TkV} (ht : tokR code = some ts) : 0 < ts.length := by
  cases ts with
  | cons t r => simp
  | nil =>
    exfalso
    unfold rFunc at h
    rw [ht] at h
    simp only at h
    rw [show rNest (signs []) = some ([], 0) from by decide +kernel] at h
    simp only at h
    rw [rWalk, if_pos (by decide)] at h
    cases h
theorem tks_ones (l : List TkV) : ∀ u ∈ tkCs l, u.oneCell' = true := by
  induction l with
  | nil => intro u hu; simp [tkCs] at hu
  | cons t l ih =>
    intro u hu
    rw [tkCs] at hu
    rcases List.mem_append.1 hu with h | h
    · simp only [tkC, List.mem_cons, List.not_mem_nil, or_false] at h
      rcases h with rfl | rfl | rfl <;> rfl
    · exact ih u h
theorem tks_cells {W : World} {b o n c : Nat} {l : List TkV} (h : Tks W (some ⟨b, o, none⟩) n c l) (hn : 0 < n) : ∀ (j : Nat) (u : Value), (tkCs l)[j]? = some u → W.cell? (Addr.add ⟨b, o, none⟩ j) = some u := by
  obtain ⟨ad, e, _, hx⟩ := h.src (by rw [tkCs_len]; have := h.len; omega)
  injection e with e
  subst e
  exact hx
section
variable {w : World}
theorem tok_of (s : ByteArray) (ts : List TkV) (h : tokR s = some ts) (hs : s.size ≤ 1000000) : Calls Try.prog 12 #[.string s] w fun e w' => ∃ A c, e = .returned (.tuple #[.slice A ts.length c, .int .i64 0]) ∧ Tks w' A ts.length c ts ∧ Chg [] w w' ∧ ts.length ≤ 512 := by
  refine (tokens_any s (by omega)).mono ?_
  rintro e w' ⟨hc, ⟨ts', v, h', hl, rfl, ho⟩ | ⟨h', _⟩⟩
  · rw [h] at h'
    injection h' with h'
    subst h'
    obtain ⟨A, c, rfl, hT⟩ := Tks.of_own ho (by omega)
    exact ⟨A, c, rfl, hT, hc, hl⟩
  · rw [h] at h'; cases h'
set_option maxHeartbeats 4000000 in
set_option maxRecDepth 100000 in
theorem nestWithin_any {A : Option Addr} {n c : Nat} {l : List Int} (hs : Src w A (nms l)) (hlen : l.length = n) (hspot : 0 < n → ∀ ad, A = some ad → ad.spot = none) (hn : n ≤ 9223372036854775807) (hrng : ∀ x ∈ l, -9223372036854775808 ≤ x ∧ x ≤ 9223372036854775807) :
    Calls Try.prog 4 #[.slice A n c] w (LawPost w) := by
  obtain ⟨i0, hi0, hz0, hz1, hz2⟩ := info_parts info_token
  have HUN := Lib.hid (unit_any (c := c) hs hlen hspot hn hrng)
  clear hs hlen hspot hn hrng
  go_enter Try.func4, Try.ntmps4
  go_wp2_with fail
  refine HUN.out.mono ?_
  rintro e w1 ⟨pg, ms, v, fl, rfl, hp0, hp1, hm0, hm1, ho, hg, hfl0, hc1⟩
  obtain ⟨FA, fc, rfl, hFr⟩ := Fnr.of_own ho (by have := hg.lo; omega) (fun f hf => by have := hg.args f hf; omega)
  have HF1 := Lib.hid hFr
  have HG := Lib.hid hg
  have HC1 := Lib.hid hc1
  have hfl3 := hg.lo
  obtain ⟨fn, hfn⟩ : ∃ fn, fn = fl.length := ⟨_, rfl⟩
  rw [← hfn] at HF1 hfl3 ⊢
  have HFN := Lib.hid hfn
  clear HUN ho hg hc1 hFr hfl0 hfn hp0 hp1 hm0 hm1
  have hff := funcs_of w1 (.int .i64 pg) (.int .i64 ms) (.slice FA fn fc)
  go_wp2_with fail
  go_loopw [16] (fun i wr => ∃ k : Nat, i = .int .i64 (k : Int) ∧ k ≤ fn ∧ Hid (Chg [] w1 wr)) (fun i _ => fn - (intOf i).toNat)
  case atStart => exact ⟨0, rfl, by omega, Lib.hid (Chg.refl _ _)⟩
  case round =>
    obtain ⟨k, rfl, hk, HCr⟩ := hrel
    by_cases hkn : k < fn
    · have hkI : (k : Int) < (fn : Int) := by omega
      obtain ⟨f, hfk⟩ : ∃ f, fl[k]? = some f := ⟨fl[k]'(by rw [← HFN.out]; exact hkn), by simp⟩
      obtain ⟨fb, fo, rfl, hfbl, e0, e1, e2⟩ := (HF1.out.keep HCr.out).cell hfk
      obtain ⟨_, _, _, hcs, hok⟩ := HG.out.fn k f hfk
      obtain ⟨ts, t, d, htk, hnt, _⟩ := rFunc_ok hok
      have hne := rFunc_ne hok htk
      have HTK := Lib.hid htk
      have HWI := Lib.hid (nest_within hnt)
      have HNN := Lib.hid ((nest_same (signs ts)).trans hnt)
      have HCS := Lib.hid hcs
      clear hfk hok htk hnt hcs
      go_upto_region 4 with fail
      have hal := (Chg.refl [] wr).alloc (.cells #[.int .i32 f.name, .int .i64 f.args, .string f.code] 30)
      have hX := Whole.new wr 30 [.int .i32 f.name, .int .i64 f.args, .string f.code]
      have x2 := hX.cell 2
      have HC2 := Lib.hid (HCr.out.new hal)
      obtain ⟨gx, hgx⟩ : ∃ g, g = wr.heap.size := ⟨_, rfl⟩
      rw [← hgx] at x2 ⊢
      generalize wr.alloc (.cells #[.int .i32 f.name, .int .i64 f.args, .string f.code] 30) = w2 at x2 HC2 ⊢
      clear hal hX hgx e0 e1 e2 hfbl HCr
      go_wp2_with fail
      refine (tok_of f.code ts HTK.out (by have := HCS.out; omega)).mono ?_
      rintro e w3 ⟨TA, tc, rfl, hT3, hc3, htm⟩
      have HT3 := Lib.hid hT3
      have HC3 := Lib.hid (HC2.out.new hc3)
      clear hT3 hc3 x2
      obtain ⟨tn, htn⟩ : ∃ tn, tn = ts.length := ⟨_, rfl⟩
      rw [← htn] at HT3 htm hne ⊢
      have HTN := Lib.hid htn
      clear htn
      go_wp2_with fail
      refine (of_const HT3.out t d HNN.out).mono ?_
      rintro e w4 ⟨gt, rfl, hW4, htl, hc4⟩
      have HT4 := Lib.hid (HT3.out.keep hc4)
      have HW4 := Lib.hid hW4
      have HC4 := Lib.hid (HC3.out.new hc4)
      clear hW4 hc4 htl
      go_wp2_with fail
      go_loopw [42] (fun i wr => ∃ j : Nat, i = .int .i64 (j : Int) ∧ j ≤ tn ∧ Hid (Chg [] w4 wr)) (fun i _ => tn - (intOf i).toNat)
      case atStart => exact ⟨0, rfl, by omega, Lib.hid (Chg.refl _ _)⟩
      case round =>
        obtain ⟨j, rfl, hj, HCj⟩ := hrel
        have HTr := Lib.hid (HT4.out.keep HCj.out)
        have HWr := Lib.hid (HW4.out.keep HCj.out)
        by_cases hjn : j < tn
        · have hjI : (j : Int) < (tn : Int) := by omega
          obtain ⟨tk, htk⟩ : ∃ tk, ts[j]? = some tk := ⟨ts[j]'(by rw [← HTN.out]; exact hjn), by simp⟩
          have hsj : (signs ts)[j]? = some tk.sign := by unfold signs; rw [List.getElem?_map, htk]; rfl
          obtain ⟨v, hv, hA1, hA2, hA3⟩ := HWI.out.2 j tk.sign hsj
          rw [show (signs ts).length = tn from by unfold signs; rw [List.length_map]; exact HTN.out.symm] at hA1
          have z0 : wr.cell? ⟨gt, j, none⟩ = some (.int .i64 v) := (HWr.out.cell j).trans (by simp [nms, hv])
          obtain ⟨b, o, rfl, hbl, t0, t1, t2⟩ := HTr.out.cell htk
          clear htk hsj hv t1 t2
          generalize hsg : tk.sign = s at *
          clear hsg
          by_cases h63 : s = 63
          · have hb := hA1 (by omega)
            obtain ⟨hb1, hb2⟩ := hb
            have qa : decide (v ≤ (j : Int)) = false := by simp; omega
            have qb : decide ((tn : Int) < v) = false := by simp; omega
            subst h63
            clear hA1 hA2 hA3 hb1 hb2
            go_upto_region 12 with fail
            refine wp_flow_in plainT plainT_ok (by kernel_rfl) (by kernel_rfl) ?_
            refine flow_move_out plainT_ok rfl rfl rfl ?_
            refine flow_eql plainT_ok (.inn rfl) (.const _) (fun ev W he e1 e2 => by go_simp) rfl ?_
            refine flow_move plainT_ok rfl (keeps_isV _) (.inr (keeps_isV _)) rfl ?_
            refine flow_skip rfl ?_
            refine flow_skip rfl ?_
            refine flow_or_true plainT_ok rfl rfl rfl ?_
            refine flow_move plainT_ok rfl (keeps_isV _) (.inr (keeps_isV _)) rfl ?_
            refine flow_skip rfl ?_
            refine flow_skip rfl ?_
            refine flow_or_true plainT_ok rfl rfl rfl ?_
            refine flow_move plainT_ok rfl (keeps_isV _) (.inr (keeps_isV _)) rfl ?_
            refine flow_move_out plainT_ok rfl rfl rfl ?_
            refine flow_move_out plainT_ok rfl rfl rfl ?_
            refine flow2 (r := .pointer (some ⟨gt, j, none⟩)) plainT_ok rfl (.inn rfl) (.inn rfl) rfl (fun ev W he e1 e2 => by go_simp) ?_
            refine flow1h (r := .int .i64 v) plainT_ok rfl (.inn rfl) rfl (fun ev W he hW e1 => by have zz := cell_keep z0 (show Chg [] _ _ from hW); go_simp) ?_
            refine flow_move_out plainT_ok rfl rfl rfl ?_
            refine flow2 (r := .bool false) plainT_ok rfl (.inn rfl) (.inn rfl) rfl (fun ev W he e1 e2 => by go_simp) ?_
            refine flow_move plainT_ok rfl (keeps_isV _) (.inr (keeps_isV _)) rfl ?_
            refine flow_move_out plainT_ok rfl rfl rfl ?_
            refine flow_move_out plainT_ok rfl rfl rfl ?_
            refine flow2 (r := .pointer (some ⟨gt, j, none⟩)) plainT_ok rfl (.inn rfl) (.inn rfl) rfl (fun ev W he e1 e2 => by go_simp) ?_
            refine flow1h (r := .int .i64 v) plainT_ok rfl (.inn rfl) rfl (fun ev W he hW e1 => by have zz := cell_keep z0 (show Chg [] _ _ from hW); go_simp) ?_
            refine flow_move_out plainT_ok rfl rfl rfl ?_
            refine flow1 (r := .int .i64 (tn : Int)) plainT_ok rfl (.inn rfl) rfl (fun ev W he e1 => by have q1 : ev (.tmp 72) = .slice (some ⟨b, o, none⟩) tn tc := e1; go_simp) ?_
            refine flow2 (r := .bool false) plainT_ok rfl (.inn rfl) (.inn rfl) rfl (fun ev W he e1 e2 => by go_simp) ?_
            refine flow_or_false plainT_ok rfl rfl rfl ?_
            refine flow_and plainT_ok rfl rfl rfl ?_
            refine flow_move plainT_ok rfl (keeps_isV _) (.inr (keeps_isV _)) rfl ?_
            refine flow_move_out plainT_ok rfl rfl rfl ?_
            refine flow2 (r := .bool false) plainT_ok rfl (.inn rfl) (.const _) rfl (fun ev W he e1 e2 => by go_simp) ?_
            refine flow_move plainT_ok rfl (keeps_isV _) (.inr (keeps_isV _)) rfl ?_
            refine flow_skip rfl ?_
            refine flow_skip rfl ?_
            refine flow_skip rfl ?_
            refine flow_skip rfl ?_
            refine flow_skip rfl ?_
            refine flow_skip rfl ?_
            refine flow_skip_un rfl ?_
            refine flow_skip_un rfl ?_
            refine flow_skip_un rfl ?_
            refine flow_skip_un rfl ?_
            refine flow_skip_un rfl ?_
            refine flow_skip_un rfl ?_
            refine flow_skip rfl ?_
            refine flow_skip rfl ?_
            refine flow_skip_un rfl ?_
            refine flow_skip_un rfl ?_
            refine flow_skip_un rfl ?_
            refine flow_skip_un rfl ?_
            refine flow_skip_un rfl ?_
            refine flow_skip_un rfl ?_
            refine flow_skip_un rfl ?_
            refine flow_skip_un rfl ?_
            refine flow_skip_un rfl ?_
            refine flow_skip rfl ?_
            refine flow_and_false plainT_ok rfl rfl rfl ?_
            refine flow_or_false plainT_ok rfl rfl rfl ?_
            refine flow_move plainT_ok rfl (keeps_isV _) (.inr (keeps_isV _)) rfl ?_
            refine flow_move_out plainT_ok rfl rfl rfl ?_
            refine flow2 (r := .bool false) plainT_ok rfl (.inn rfl) (.const _) rfl (fun ev W he e1 e2 => by go_simp) ?_
            refine flow_move plainT_ok rfl (keeps_isV _) (.inr (keeps_isV _)) rfl ?_
            refine flow_skip rfl ?_
            refine flow_skip rfl ?_
            refine flow_and_false plainT_ok rfl rfl rfl ?_
            refine flow_move plainT_ok rfl (keeps_isV _) (.inr (keeps_isV _)) rfl ?_
            refine flow_skip rfl ?_
            refine flow_skip rfl ?_
            refine flow_and_false plainT_ok rfl rfl rfl ?_
            refine flow_move plainT_ok rfl (keeps_isV _) (.inr (keeps_isV _)) rfl ?_
            refine flow_skip rfl ?_
            refine flow_skip rfl ?_
            refine flow_and_false plainT_ok rfl rfl rfl ?_
            refine flow_move plainT_ok rfl (keeps_isV _) (.inr (keeps_isV _)) rfl ?_
            refine flow_skip rfl ?_
            refine flow_skip rfl ?_
            refine flow_skip rfl ?_
            refine flow_skip rfl ?_
            refine flow_skip rfl ?_
            refine flow_and_false plainT_ok rfl rfl rfl ?_
            refine flow_or_false plainT_ok rfl rfl rfl ?_
            intro vs V hV hG
            obtain e129 : vs 129 = .bool false := hG 129 _ rfl (by kernel_rfl)
            have HCV := Lib.hid (HCj.out.new (show Chg [] wr V from hV))
            simp only [List.cons_append, List.nil_append, List.append_eq, putAll, Act.put, List.setIfInBounds_toArray, List.set_cons_zero, List.set_cons_succ, e129]
            clear hG hV e129
            go_wp2_with fail
            go_roundw
            case rel => exact ⟨j + 1, by go_num, by omega, HCV⟩
            case measure => simp [intOf]; omega
          have q63 : (s == 63) = false := by simpa using h63
          have p63 : (s != 63) = true := by simpa using h63
          by_cases h58 : s = 58
          · have hb := hA1 (by omega)
            obtain ⟨hb1, hb2⟩ := hb
            have qa : decide (v ≤ (j : Int)) = false := by simp; omega
            have qb : decide ((tn : Int) < v) = false := by simp; omega
            subst h58
            clear hA1 hA2 hA3 hb1 hb2
            go_upto_region 12 with fail
            refine wp_flow_in plainT plainT_ok (by kernel_rfl) (by kernel_rfl) ?_
            refine flow_move_out plainT_ok rfl rfl rfl ?_
            refine flow2 (r := .bool false) plainT_ok rfl (.inn rfl) (.const _) rfl (fun ev W he e1 e2 => by go_simp) ?_
            refine flow_move plainT_ok rfl (keeps_isV _) (.inr (keeps_isV _)) rfl ?_
            refine flow_move_out plainT_ok rfl rfl rfl ?_
            refine flow_eql plainT_ok (.inn rfl) (.const _) (fun ev W he e1 e2 => by go_simp) rfl ?_
            refine flow_or_false plainT_ok rfl rfl rfl ?_
            refine flow_move plainT_ok rfl (keeps_isV _) (.inr (keeps_isV _)) rfl ?_
            refine flow_skip rfl ?_
            refine flow_skip rfl ?_
            refine flow_or_true plainT_ok rfl rfl rfl ?_
            refine flow_move plainT_ok rfl (keeps_isV _) (.inr (keeps_isV _)) rfl ?_
            refine flow_move_out plainT_ok rfl rfl rfl ?_
            refine flow_move_out plainT_ok rfl rfl rfl ?_
            refine flow2 (r := .pointer (some ⟨gt, j, none⟩)) plainT_ok rfl (.inn rfl) (.inn rfl) rfl (fun ev W he e1 e2 => by go_simp) ?_
            refine flow1h (r := .int .i64 v) plainT_ok rfl (.inn rfl) rfl (fun ev W he hW e1 => by have zz := cell_keep z0 (show Chg [] _ _ from hW); go_simp) ?_
            refine flow_move_out plainT_ok rfl rfl rfl ?_
            refine flow2 (r := .bool false) plainT_ok rfl (.inn rfl) (.inn rfl) rfl (fun ev W he e1 e2 => by go_simp) ?_
            refine flow_move plainT_ok rfl (keeps_isV _) (.inr (keeps_isV _)) rfl ?_
            refine flow_move_out plainT_ok rfl rfl rfl ?_
            refine flow_move_out plainT_ok rfl rfl rfl ?_
            refine flow2 (r := .pointer (some ⟨gt, j, none⟩)) plainT_ok rfl (.inn rfl) (.inn rfl) rfl (fun ev W he e1 e2 => by go_simp) ?_
            refine flow1h (r := .int .i64 v) plainT_ok rfl (.inn rfl) rfl (fun ev W he hW e1 => by have zz := cell_keep z0 (show Chg [] _ _ from hW); go_simp) ?_
            refine flow_move_out plainT_ok rfl rfl rfl ?_
            refine flow1 (r := .int .i64 (tn : Int)) plainT_ok rfl (.inn rfl) rfl (fun ev W he e1 => by have q1 : ev (.tmp 72) = .slice (some ⟨b, o, none⟩) tn tc := e1; go_simp) ?_
            refine flow2 (r := .bool false) plainT_ok rfl (.inn rfl) (.inn rfl) rfl (fun ev W he e1 e2 => by go_simp) ?_
            refine flow_or_false plainT_ok rfl rfl rfl ?_
            refine flow_and plainT_ok rfl rfl rfl ?_
            refine flow_move plainT_ok rfl (keeps_isV _) (.inr (keeps_isV _)) rfl ?_
            refine flow_move_out plainT_ok rfl rfl rfl ?_
            refine flow2 (r := .bool false) plainT_ok rfl (.inn rfl) (.const _) rfl (fun ev W he e1 e2 => by go_simp) ?_
            refine flow_move plainT_ok rfl (keeps_isV _) (.inr (keeps_isV _)) rfl ?_
            refine flow_skip rfl ?_
            refine flow_skip rfl ?_
            refine flow_skip rfl ?_
            refine flow_skip rfl ?_
            refine flow_skip rfl ?_
            refine flow_skip rfl ?_
            refine flow_skip_un rfl ?_
            refine flow_skip_un rfl ?_
            refine flow_skip_un rfl ?_
            refine flow_skip_un rfl ?_
            refine flow_skip_un rfl ?_
            refine flow_skip_un rfl ?_
            refine flow_skip rfl ?_
            refine flow_skip rfl ?_
            refine flow_skip_un rfl ?_
            refine flow_skip_un rfl ?_
            refine flow_skip_un rfl ?_
            refine flow_skip_un rfl ?_
            refine flow_skip_un rfl ?_
            refine flow_skip_un rfl ?_
            refine flow_skip_un rfl ?_
            refine flow_skip_un rfl ?_
            refine flow_skip_un rfl ?_
            refine flow_skip rfl ?_
            refine flow_and_false plainT_ok rfl rfl rfl ?_
            refine flow_or_false plainT_ok rfl rfl rfl ?_
            refine flow_move plainT_ok rfl (keeps_isV _) (.inr (keeps_isV _)) rfl ?_
            refine flow_move_out plainT_ok rfl rfl rfl ?_
            refine flow2 (r := .bool true) plainT_ok rfl (.inn rfl) (.const _) rfl (fun ev W he e1 e2 => by go_simp) ?_
            refine flow_move plainT_ok rfl (keeps_isV _) (.inr (keeps_isV _)) rfl ?_
            refine flow_move_out plainT_ok rfl rfl rfl ?_
            refine flow2 (r := .bool false) plainT_ok rfl (.inn rfl) (.const _) rfl (fun ev W he e1 e2 => by go_simp) ?_
            refine flow_and plainT_ok rfl rfl rfl ?_
            refine flow_move plainT_ok rfl (keeps_isV _) (.inr (keeps_isV _)) rfl ?_
            refine flow_skip rfl ?_
            refine flow_skip rfl ?_
            refine flow_and_false plainT_ok rfl rfl rfl ?_
            refine flow_move plainT_ok rfl (keeps_isV _) (.inr (keeps_isV _)) rfl ?_
            refine flow_skip rfl ?_
            refine flow_skip rfl ?_
            refine flow_and_false plainT_ok rfl rfl rfl ?_
            refine flow_move plainT_ok rfl (keeps_isV _) (.inr (keeps_isV _)) rfl ?_
            refine flow_skip rfl ?_
            refine flow_skip rfl ?_
            refine flow_skip rfl ?_
            refine flow_skip rfl ?_
            refine flow_skip rfl ?_
            refine flow_and_false plainT_ok rfl rfl rfl ?_
            refine flow_or_false plainT_ok rfl rfl rfl ?_
            intro vs V hV hG
            obtain e129 : vs 129 = .bool false := hG 129 _ rfl (by kernel_rfl)
            have HCV := Lib.hid (HCj.out.new (show Chg [] wr V from hV))
            simp only [List.cons_append, List.nil_append, List.append_eq, putAll, Act.put, List.setIfInBounds_toArray, List.set_cons_zero, List.set_cons_succ, e129]
            clear hG hV e129
            go_wp2_with fail
            go_roundw
            case rel => exact ⟨j + 1, by go_num, by omega, HCV⟩
            case measure => simp [intOf]; omega
          have q58 : (s == 58) = false := by simpa using h58
          have p58 : (s != 58) = true := by simpa using h58
          by_cases h126 : s = 126
          · have hb := hA1 (by omega)
            obtain ⟨hb1, hb2⟩ := hb
            have qa : decide (v ≤ (j : Int)) = false := by simp; omega
            have qb : decide ((tn : Int) < v) = false := by simp; omega
            subst h126
            clear hA1 hA2 hA3 hb1 hb2
            go_upto_region 12 with fail
            refine wp_flow_in plainT plainT_ok (by kernel_rfl) (by kernel_rfl) ?_
            refine flow_move_out plainT_ok rfl rfl rfl ?_
            refine flow2 (r := .bool false) plainT_ok rfl (.inn rfl) (.const _) rfl (fun ev W he e1 e2 => by go_simp) ?_
            refine flow_move plainT_ok rfl (keeps_isV _) (.inr (keeps_isV _)) rfl ?_
            refine flow_move_out plainT_ok rfl rfl rfl ?_
            refine flow2 (r := .bool false) plainT_ok rfl (.inn rfl) (.const _) rfl (fun ev W he e1 e2 => by go_simp) ?_
            refine flow_or_false plainT_ok rfl rfl rfl ?_
            refine flow_move plainT_ok rfl (keeps_isV _) (.inr (keeps_isV _)) rfl ?_
            refine flow_move_out plainT_ok rfl rfl rfl ?_
            refine flow_eql plainT_ok (.inn rfl) (.const _) (fun ev W he e1 e2 => by go_simp) rfl ?_
            refine flow_or_false plainT_ok rfl rfl rfl ?_
            refine flow_move plainT_ok rfl (keeps_isV _) (.inr (keeps_isV _)) rfl ?_
            refine flow_move_out plainT_ok rfl rfl rfl ?_
            refine flow_move_out plainT_ok rfl rfl rfl ?_
            refine flow2 (r := .pointer (some ⟨gt, j, none⟩)) plainT_ok rfl (.inn rfl) (.inn rfl) rfl (fun ev W he e1 e2 => by go_simp) ?_
            refine flow1h (r := .int .i64 v) plainT_ok rfl (.inn rfl) rfl (fun ev W he hW e1 => by have zz := cell_keep z0 (show Chg [] _ _ from hW); go_simp) ?_
            refine flow_move_out plainT_ok rfl rfl rfl ?_
            refine flow2 (r := .bool false) plainT_ok rfl (.inn rfl) (.inn rfl) rfl (fun ev W he e1 e2 => by go_simp) ?_
            refine flow_move plainT_ok rfl (keeps_isV _) (.inr (keeps_isV _)) rfl ?_
            refine flow_move_out plainT_ok rfl rfl rfl ?_
            refine flow_move_out plainT_ok rfl rfl rfl ?_
            refine flow2 (r := .pointer (some ⟨gt, j, none⟩)) plainT_ok rfl (.inn rfl) (.inn rfl) rfl (fun ev W he e1 e2 => by go_simp) ?_
            refine flow1h (r := .int .i64 v) plainT_ok rfl (.inn rfl) rfl (fun ev W he hW e1 => by have zz := cell_keep z0 (show Chg [] _ _ from hW); go_simp) ?_
            refine flow_move_out plainT_ok rfl rfl rfl ?_
            refine flow1 (r := .int .i64 (tn : Int)) plainT_ok rfl (.inn rfl) rfl (fun ev W he e1 => by have q1 : ev (.tmp 72) = .slice (some ⟨b, o, none⟩) tn tc := e1; go_simp) ?_
            refine flow2 (r := .bool false) plainT_ok rfl (.inn rfl) (.inn rfl) rfl (fun ev W he e1 e2 => by go_simp) ?_
            refine flow_or_false plainT_ok rfl rfl rfl ?_
            refine flow_and plainT_ok rfl rfl rfl ?_
            refine flow_move plainT_ok rfl (keeps_isV _) (.inr (keeps_isV _)) rfl ?_
            refine flow_move_out plainT_ok rfl rfl rfl ?_
            refine flow2 (r := .bool false) plainT_ok rfl (.inn rfl) (.const _) rfl (fun ev W he e1 e2 => by go_simp) ?_
            refine flow_move plainT_ok rfl (keeps_isV _) (.inr (keeps_isV _)) rfl ?_
            refine flow_skip rfl ?_
            refine flow_skip rfl ?_
            refine flow_skip rfl ?_
            refine flow_skip rfl ?_
            refine flow_skip rfl ?_
            refine flow_skip rfl ?_
            refine flow_skip_un rfl ?_
            refine flow_skip_un rfl ?_
            refine flow_skip_un rfl ?_
            refine flow_skip_un rfl ?_
            refine flow_skip_un rfl ?_
            refine flow_skip_un rfl ?_
            refine flow_skip rfl ?_
            refine flow_skip rfl ?_
            refine flow_skip_un rfl ?_
            refine flow_skip_un rfl ?_
            refine flow_skip_un rfl ?_
            refine flow_skip_un rfl ?_
            refine flow_skip_un rfl ?_
            refine flow_skip_un rfl ?_
            refine flow_skip_un rfl ?_
            refine flow_skip_un rfl ?_
            refine flow_skip_un rfl ?_
            refine flow_skip rfl ?_
            refine flow_and_false plainT_ok rfl rfl rfl ?_
            refine flow_or_false plainT_ok rfl rfl rfl ?_
            refine flow_move plainT_ok rfl (keeps_isV _) (.inr (keeps_isV _)) rfl ?_
            refine flow_move_out plainT_ok rfl rfl rfl ?_
            refine flow2 (r := .bool true) plainT_ok rfl (.inn rfl) (.const _) rfl (fun ev W he e1 e2 => by go_simp) ?_
            refine flow_move plainT_ok rfl (keeps_isV _) (.inr (keeps_isV _)) rfl ?_
            refine flow_move_out plainT_ok rfl rfl rfl ?_
            refine flow2 (r := .bool true) plainT_ok rfl (.inn rfl) (.const _) rfl (fun ev W he e1 e2 => by go_simp) ?_
            refine flow_and plainT_ok rfl rfl rfl ?_
            refine flow_move plainT_ok rfl (keeps_isV _) (.inr (keeps_isV _)) rfl ?_
            refine flow_move_out plainT_ok rfl rfl rfl ?_
            refine flow2 (r := .bool false) plainT_ok rfl (.inn rfl) (.const _) rfl (fun ev W he e1 e2 => by go_simp) ?_
            refine flow_and plainT_ok rfl rfl rfl ?_
            refine flow_move plainT_ok rfl (keeps_isV _) (.inr (keeps_isV _)) rfl ?_
            refine flow_skip rfl ?_
            refine flow_skip rfl ?_
            refine flow_and_false plainT_ok rfl rfl rfl ?_
            refine flow_move plainT_ok rfl (keeps_isV _) (.inr (keeps_isV _)) rfl ?_
            refine flow_skip rfl ?_
            refine flow_skip rfl ?_
            refine flow_skip rfl ?_
            refine flow_skip rfl ?_
            refine flow_skip rfl ?_
            refine flow_and_false plainT_ok rfl rfl rfl ?_
            refine flow_or_false plainT_ok rfl rfl rfl ?_
            intro vs V hV hG
            obtain e129 : vs 129 = .bool false := hG 129 _ rfl (by kernel_rfl)
            have HCV := Lib.hid (HCj.out.new (show Chg [] wr V from hV))
            simp only [List.cons_append, List.nil_append, List.append_eq, putAll, Act.put, List.setIfInBounds_toArray, List.set_cons_zero, List.set_cons_succ, e129]
            clear hG hV e129
            go_wp2_with fail
            go_roundw
            case rel => exact ⟨j + 1, by go_num, by omega, HCV⟩
            case measure => simp [intOf]; omega
          have q126 : (s == 126) = false := by simpa using h126
          have p126 : (s != 126) = true := by simpa using h126
          by_cases h93 : s = 93
          · obtain ⟨hb1, hb2, hb3⟩ := hA2 h93
            obtain ⟨q, rfl⟩ : ∃ q : Nat, v = (q : Int) := ⟨v.toNat, by omega⟩
            obtain ⟨tq, htq, hsq⟩ : ∃ tq, ts[q]? = some tq ∧ tq.sign = 91 := by
              rw [show ((q : Int)).toNat = q from rfl] at hb3
              unfold signs at hb3
              rw [List.getElem?_map] at hb3
              cases hq : ts[q]? with
              | none => rw [hq] at hb3; cases hb3
              | some tq => rw [hq] at hb3; injection hb3 with hb3; exact ⟨tq, rfl, hb3⟩
            obtain ⟨b', o', e, _, y0, _, _⟩ := HTr.out.cell htq
            injection e with e
            injection e with e1 e2
            subst e1; subst e2
            rw [hsq] at y0
            have qa : decide ((q : Int) < 0) = false := by simp
            have qb : decide ((j : Int) ≤ (q : Int)) = false := by simp; omega
            have hqt : (q : Int) < (tn : Int) := by omega
            have hqj : q < j := by omega
            subst h93
            clear hA1 hA2 hA3 hb1 hb2 hb3 htq hsq
            go_upto_region 12 with fail
            refine wp_flow_in plainT plainT_ok (by kernel_rfl) (by kernel_rfl) ?_
            refine flow_move_out plainT_ok rfl rfl rfl ?_
            refine flow2 (r := .bool false) plainT_ok rfl (.inn rfl) (.const _) rfl (fun ev W he e1 e2 => by go_simp) ?_
            refine flow_move plainT_ok rfl (keeps_isV _) (.inr (keeps_isV _)) rfl ?_
            refine flow_move_out plainT_ok rfl rfl rfl ?_
            refine flow2 (r := .bool false) plainT_ok rfl (.inn rfl) (.const _) rfl (fun ev W he e1 e2 => by go_simp) ?_
            refine flow_or_false plainT_ok rfl rfl rfl ?_
            refine flow_move plainT_ok rfl (keeps_isV _) (.inr (keeps_isV _)) rfl ?_
            refine flow_move_out plainT_ok rfl rfl rfl ?_
            refine flow2 (r := .bool false) plainT_ok rfl (.inn rfl) (.const _) rfl (fun ev W he e1 e2 => by go_simp) ?_
            refine flow_or_false plainT_ok rfl rfl rfl ?_
            refine flow_move plainT_ok rfl (keeps_isV _) (.inr (keeps_isV _)) rfl ?_
            refine flow_skip rfl ?_
            refine flow_skip rfl ?_
            refine flow_skip rfl ?_
            refine flow_skip rfl ?_
            refine flow_skip rfl ?_
            refine flow_skip rfl ?_
            refine flow_skip rfl ?_
            refine flow_skip_un rfl ?_
            refine flow_skip_un rfl ?_
            refine flow_skip_un rfl ?_
            refine flow_skip_un rfl ?_
            refine flow_skip_un rfl ?_
            refine flow_skip_un rfl ?_
            refine flow_skip_un rfl ?_
            refine flow_skip rfl ?_
            refine flow_and_false plainT_ok rfl rfl rfl ?_
            refine flow_move plainT_ok rfl (keeps_isV _) (.inr (keeps_isV _)) rfl ?_
            refine flow_move_out plainT_ok rfl rfl rfl ?_
            refine flow_eql plainT_ok (.inn rfl) (.const _) (fun ev W he e1 e2 => by go_simp) rfl ?_
            refine flow_move plainT_ok rfl (keeps_isV _) (.inr (keeps_isV _)) rfl ?_
            refine flow_move_out plainT_ok rfl rfl rfl ?_
            refine flow_move_out plainT_ok rfl rfl rfl ?_
            refine flow2 (r := .pointer (some ⟨gt, j, none⟩)) plainT_ok rfl (.inn rfl) (.inn rfl) rfl (fun ev W he e1 e2 => by go_simp) ?_
            refine flow1h (r := .int .i64 (q : Int)) plainT_ok rfl (.inn rfl) rfl (fun ev W he hW e1 => by have zz := cell_keep z0 (show Chg [] _ _ from hW); go_simp) ?_
            refine flow2 (r := .bool false) plainT_ok rfl (.inn rfl) (.const _) rfl (fun ev W he e1 e2 => by go_simp) ?_
            refine flow_move plainT_ok rfl (keeps_isV _) (.inr (keeps_isV _)) rfl ?_
            refine flow_move_out plainT_ok rfl rfl rfl ?_
            refine flow_move_out plainT_ok rfl rfl rfl ?_
            refine flow2 (r := .pointer (some ⟨gt, j, none⟩)) plainT_ok rfl (.inn rfl) (.inn rfl) rfl (fun ev W he e1 e2 => by go_simp) ?_
            refine flow1h (r := .int .i64 (q : Int)) plainT_ok rfl (.inn rfl) rfl (fun ev W he hW e1 => by have zz := cell_keep z0 (show Chg [] _ _ from hW); go_simp) ?_
            refine flow_move_out plainT_ok rfl rfl rfl ?_
            refine flow2 (r := .bool false) plainT_ok rfl (.inn rfl) (.inn rfl) rfl (fun ev W he e1 e2 => by go_simp) ?_
            refine flow_or_false plainT_ok rfl rfl rfl ?_
            refine flow_move plainT_ok rfl (keeps_isV _) (.inr (keeps_isV _)) rfl ?_
            refine flow_move_out plainT_ok rfl rfl rfl ?_
            refine flow_move_out plainT_ok rfl rfl rfl ?_
            refine flow_move_out plainT_ok rfl rfl rfl ?_
            refine flow2 (r := .pointer (some ⟨gt, j, none⟩)) plainT_ok rfl (.inn rfl) (.inn rfl) rfl (fun ev W he e1 e2 => by go_simp) ?_
            refine flow1h (r := .int .i64 (q : Int)) plainT_ok rfl (.inn rfl) rfl (fun ev W he hW e1 => by have zz := cell_keep z0 (show Chg [] _ _ from hW); go_simp) ?_
            refine flow2 (r := .pointer (some ⟨b, o + q * 3, none⟩)) plainT_ok rfl (.inn rfl) (.inn rfl) rfl (fun ev W he e1 e2 => by go_simp) ?_
            refine flow1 (r := .pointer (some ⟨b, o + q * 3, none⟩)) plainT_ok rfl (.inn rfl) rfl (fun ev W he e1 => by go_simp) ?_
            refine flow1h (r := .int .i32 91) plainT_ok rfl (.inn rfl) rfl (fun ev W he hW e1 => by have zz := cell_keep y0 (show Chg [] _ _ from hW); go_simp) ?_
            refine flow2 (r := .bool false) plainT_ok rfl (.inn rfl) (.const _) rfl (fun ev W he e1 e2 => by go_simp) ?_
            refine flow_or_false plainT_ok rfl rfl rfl ?_
            refine flow_and plainT_ok rfl rfl rfl ?_
            refine flow_or_false plainT_ok rfl rfl rfl ?_
            refine flow_move plainT_ok rfl (keeps_isV _) (.inr (keeps_isV _)) rfl ?_
            refine flow_move_out plainT_ok rfl rfl rfl ?_
            refine flow2 (r := .bool true) plainT_ok rfl (.inn rfl) (.const _) rfl (fun ev W he e1 e2 => by go_simp) ?_
            refine flow_move plainT_ok rfl (keeps_isV _) (.inr (keeps_isV _)) rfl ?_
            refine flow_move_out plainT_ok rfl rfl rfl ?_
            refine flow2 (r := .bool true) plainT_ok rfl (.inn rfl) (.const _) rfl (fun ev W he e1 e2 => by go_simp) ?_
            refine flow_and plainT_ok rfl rfl rfl ?_
            refine flow_move plainT_ok rfl (keeps_isV _) (.inr (keeps_isV _)) rfl ?_
            refine flow_move_out plainT_ok rfl rfl rfl ?_
            refine flow2 (r := .bool true) plainT_ok rfl (.inn rfl) (.const _) rfl (fun ev W he e1 e2 => by go_simp) ?_
            refine flow_and plainT_ok rfl rfl rfl ?_
            refine flow_move plainT_ok rfl (keeps_isV _) (.inr (keeps_isV _)) rfl ?_
            refine flow_move_out plainT_ok rfl rfl rfl ?_
            refine flow2 (r := .bool false) plainT_ok rfl (.inn rfl) (.const _) rfl (fun ev W he e1 e2 => by go_simp) ?_
            refine flow_and plainT_ok rfl rfl rfl ?_
            refine flow_move plainT_ok rfl (keeps_isV _) (.inr (keeps_isV _)) rfl ?_
            refine flow_skip rfl ?_
            refine flow_skip rfl ?_
            refine flow_skip rfl ?_
            refine flow_skip rfl ?_
            refine flow_skip rfl ?_
            refine flow_and_false plainT_ok rfl rfl rfl ?_
            refine flow_or_false plainT_ok rfl rfl rfl ?_
            intro vs V hV hG
            obtain e129 : vs 129 = .bool false := hG 129 _ rfl (by kernel_rfl)
            have HCV := Lib.hid (HCj.out.new (show Chg [] wr V from hV))
            simp only [List.cons_append, List.nil_append, List.append_eq, putAll, Act.put, List.setIfInBounds_toArray, List.set_cons_zero, List.set_cons_succ, e129]
            clear hG hV e129
            go_wp2_with fail
            go_roundw
            case rel => exact ⟨j + 1, by go_num, by omega, HCV⟩
            case measure => simp [intOf]; omega
          have q93 : (s == 93) = false := by simpa using h93
          have p93 : (s != 93) = true := by simpa using h93
          obtain rfl := hA3 h63 h58 h126 h93
          clear hA1 hA2 hA3
          go_upto_region 12 with fail
          refine wp_flow_in plainT plainT_ok (by kernel_rfl) (by kernel_rfl) ?_
          refine flow_move_out plainT_ok rfl rfl rfl ?_
          refine flow2 (r := .bool false) plainT_ok rfl (.inn rfl) (.const _) rfl (fun ev W he e1 e2 => by go_simp) ?_
          refine flow_move plainT_ok rfl (keeps_isV _) (.inr (keeps_isV _)) rfl ?_
          refine flow_move_out plainT_ok rfl rfl rfl ?_
          refine flow2 (r := .bool false) plainT_ok rfl (.inn rfl) (.const _) rfl (fun ev W he e1 e2 => by go_simp) ?_
          refine flow_or_false plainT_ok rfl rfl rfl ?_
          refine flow_move plainT_ok rfl (keeps_isV _) (.inr (keeps_isV _)) rfl ?_
          refine flow_move_out plainT_ok rfl rfl rfl ?_
          refine flow2 (r := .bool false) plainT_ok rfl (.inn rfl) (.const _) rfl (fun ev W he e1 e2 => by go_simp) ?_
          refine flow_or_false plainT_ok rfl rfl rfl ?_
          refine flow_move plainT_ok rfl (keeps_isV _) (.inr (keeps_isV _)) rfl ?_
          refine flow_skip rfl ?_
          refine flow_skip rfl ?_
          refine flow_skip rfl ?_
          refine flow_skip rfl ?_
          refine flow_skip rfl ?_
          refine flow_skip rfl ?_
          refine flow_skip rfl ?_
          refine flow_skip_un rfl ?_
          refine flow_skip_un rfl ?_
          refine flow_skip_un rfl ?_
          refine flow_skip_un rfl ?_
          refine flow_skip_un rfl ?_
          refine flow_skip_un rfl ?_
          refine flow_skip_un rfl ?_
          refine flow_skip rfl ?_
          refine flow_and_false plainT_ok rfl rfl rfl ?_
          refine flow_move plainT_ok rfl (keeps_isV _) (.inr (keeps_isV _)) rfl ?_
          refine flow_move_out plainT_ok rfl rfl rfl ?_
          refine flow2 (r := .bool false) plainT_ok rfl (.inn rfl) (.const _) rfl (fun ev W he e1 e2 => by go_simp) ?_
          refine flow_move plainT_ok rfl (keeps_isV _) (.inr (keeps_isV _)) rfl ?_
          refine flow_skip rfl ?_
          refine flow_skip rfl ?_
          refine flow_skip rfl ?_
          refine flow_skip rfl ?_
          refine flow_skip rfl ?_
          refine flow_skip rfl ?_
          refine flow_skip_un rfl ?_
          refine flow_skip_un rfl ?_
          refine flow_skip_un rfl ?_
          refine flow_skip_un rfl ?_
          refine flow_skip_un rfl ?_
          refine flow_skip_un rfl ?_
          refine flow_skip rfl ?_
          refine flow_skip rfl ?_
          refine flow_skip_un rfl ?_
          refine flow_skip_un rfl ?_
          refine flow_skip_un rfl ?_
          refine flow_skip_un rfl ?_
          refine flow_skip_un rfl ?_
          refine flow_skip_un rfl ?_
          refine flow_skip_un rfl ?_
          refine flow_skip_un rfl ?_
          refine flow_skip_un rfl ?_
          refine flow_skip rfl ?_
          refine flow_and_false plainT_ok rfl rfl rfl ?_
          refine flow_or_false plainT_ok rfl rfl rfl ?_
          refine flow_move plainT_ok rfl (keeps_isV _) (.inr (keeps_isV _)) rfl ?_
          refine flow_move_out plainT_ok rfl rfl rfl ?_
          refine flow2 (r := .bool true) plainT_ok rfl (.inn rfl) (.const _) rfl (fun ev W he e1 e2 => by go_simp) ?_
          refine flow_move plainT_ok rfl (keeps_isV _) (.inr (keeps_isV _)) rfl ?_
          refine flow_move_out plainT_ok rfl rfl rfl ?_
          refine flow2 (r := .bool true) plainT_ok rfl (.inn rfl) (.const _) rfl (fun ev W he e1 e2 => by go_simp) ?_
          refine flow_and plainT_ok rfl rfl rfl ?_
          refine flow_move plainT_ok rfl (keeps_isV _) (.inr (keeps_isV _)) rfl ?_
          refine flow_move_out plainT_ok rfl rfl rfl ?_
          refine flow2 (r := .bool true) plainT_ok rfl (.inn rfl) (.const _) rfl (fun ev W he e1 e2 => by go_simp) ?_
          refine flow_and plainT_ok rfl rfl rfl ?_
          refine flow_move plainT_ok rfl (keeps_isV _) (.inr (keeps_isV _)) rfl ?_
          refine flow_move_out plainT_ok rfl rfl rfl ?_
          refine flow2 (r := .bool true) plainT_ok rfl (.inn rfl) (.const _) rfl (fun ev W he e1 e2 => by go_simp) ?_
          refine flow_and plainT_ok rfl rfl rfl ?_
          refine flow_move plainT_ok rfl (keeps_isV _) (.inr (keeps_isV _)) rfl ?_
          refine flow_move_out plainT_ok rfl rfl rfl ?_
          refine flow_move_out plainT_ok rfl rfl rfl ?_
          refine flow2 (r := .pointer (some ⟨gt, j, none⟩)) plainT_ok rfl (.inn rfl) (.inn rfl) rfl (fun ev W he e1 e2 => by go_simp) ?_
          refine flow1h (r := .int .i64 (-1)) plainT_ok rfl (.inn rfl) rfl (fun ev W he hW e1 => by have zz := cell_keep z0 (show Chg [] _ _ from hW); go_simp) ?_
          refine flow2 (r := .bool false) plainT_ok rfl (.inn rfl) (.const _) rfl (fun ev W he e1 e2 => by go_simp) ?_
          refine flow_and plainT_ok rfl rfl rfl ?_
          refine flow_or_false plainT_ok rfl rfl rfl ?_
          intro vs V hV hG
          obtain e129 : vs 129 = .bool false := hG 129 _ rfl (by kernel_rfl)
          have HCV := Lib.hid (HCj.out.new (show Chg [] wr V from hV))
          simp only [List.cons_append, List.nil_append, List.append_eq, putAll, Act.put, List.setIfInBounds_toArray, List.set_cons_zero, List.set_cons_succ, e129]
          clear hG hV e129
          go_wp2_with fail
          go_roundw
          case rel => exact ⟨j + 1, by go_num, by omega, HCV⟩
          case measure => simp [intOf]; omega
        · have hjI : ¬ (j : Int) < (tn : Int) := by omega
          have HTr := Lib.hid (HT4.out.keep HCj.out)
          obtain ⟨tk0, htk0⟩ : ∃ tk, ts[0]? = some tk := ⟨ts[0]'(by rw [← HTN.out]; exact hne), by simp⟩
          obtain ⟨b, o, rfl, hbl, _, _, _⟩ := HTr.out.cell htk0
          clear htk0
          have HNW := Lib.hid (fun (W' : World) (hW : Chg [] wr W') => tks_cells (HTr.out.keep hW) hne)
          have h91 := World.ownsRow_lit (base := wr.heap.size) (e := 42) (size := 3) wr #[.int .i32 91, .int .i64 0, .int .i32 0] 1 (Nat.le_refl _) (by decide) rfl
          have HO1 := Lib.hid h91
          have hal1 : Chg [] wr (wr.alloc (.cells #[.int .i32 91, .int .i64 0, .int .i32 0] 42)) := (Chg.refl [] wr).alloc _
          have HAL1 := Lib.hid hal1
          have HWS := Lib.hid (show wr.heap.size ≤ (wr.alloc (.cells #[.int .i32 91, .int .i64 0, .int .i32 0] 42)).heap.size from hal1.size)
          clear h91 hal1
          obtain ⟨g0, hg0⟩ : ∃ g, g = wr.heap.size := ⟨_, rfl⟩
          have HG0 := Lib.hid hg0
          have HTL := Lib.hid (show (tkCs ts).length = tn * 3 from by rw [tkCs_len, ← HTN.out])
          clear hg0
          go_upto_region 16 with (first
                                  | (at_builtin
                                     refine wpList_append_own _ rfl (.tmp 132) (.tmp 133) _ rfl wr.heap.size 42 i0 _ 3 24 Try.underlying31 hi0 hz0 hz1 hz2 rfl (by decide) (.slice (some ⟨wr.heap.size, 0, none⟩) 1 1) 1 [.int .i32 91, .int .i64 0, .int .i32 0] rfl HO1.out ⟨b, o, none⟩ tn tc (tkCs ts) rfl HTL.out (HNW.out _ HAL1.out) (tks_ones ts) (by simp only [maxLen]; omega) (by omega) HWS.out ?_
                                     intro v' w6 ho6 hg6 _
                                     obtain ⟨A6, c6, rfl, _⟩ := rown_slice ho6
                                     have HO6 := Lib.hid ho6
                                     have HC6 := Lib.hid (show Chg [] wr w6 from chg_grown2 HAL1.out hg6 (fun g hg => by have := (HO1.out.lt g hg).1; omega))
                                     clear ho6 hg6)
                                  | (at_builtin
                                     refine wpList_append_own _ rfl (.tmp 134) (.tmp 136) _ rfl wr.heap.size 42 i0 _ 3 24 Try.underlying31 hi0 hz0 hz1 hz2 rfl (by decide) (.slice A6 (1 + tn) c6) (1 + tn) ([.int .i32 91, .int .i64 0, .int .i32 0] ++ tkCs ts) rfl (rown_keep HO6.out ((Chg.refl [] w6).alloc _)) ⟨w6.heap.size, 0, none⟩ 1 1 [.int .i32 93, .int .i64 0, .int .i32 0] rfl rfl (cells_page _ _ _) (by simp [Value.oneCell']) (by simp only [maxLen]; omega) (by omega) (by have := HC6.out.size; simp; omega) ?_
                                     intro v' w7 ho7 hg7 _
                                     obtain ⟨A7, c7, rfl, _⟩ := rown_slice ho7
                                     have HO7 := Lib.hid ho7
                                     have HC7 := Lib.hid (show Chg [] wr w7 from chg_grown2 (HC6.out.alloc _) hg7 (fun g hg => by have := (HO6.out.lt g hg).1; omega))
                                     clear ho7 hg7))
          obtain ⟨A', c', e', hT7⟩ := Tks.of_own (l := [⟨91, 0, 0⟩] ++ ts ++ [⟨93, 0, 0⟩]) (by have := HO7.out; rw [tkCs_app, tkCs_app]; exact this) (by omega)
          simp only [Value.slice.injEq, true_and] at e'
          obtain ⟨e1, e2⟩ := e'
          subst e1; subst e2
          have HT7 := Lib.hid hT7
          have HTr7 := Lib.hid (HTr.out.keep HC7.out)
          have HCk := Lib.hid (HC4.out.new (HCj.out.new HC7.out))
          have HD := Lib.hid (show deepI (some (t, d)) = (d : Int) from rfl)
          have HLP := Lib.hid (fun hd : d < 16 => show ∃ t', nNest (signs ([⟨91, 0, 0⟩] ++ ts ++ [⟨93, 0, 0⟩])) = some (t', d + 1) from by
            have := nest_loop HNN.out hd
            simpa [signs] using this)
          have hd16 := (nNest_some HNN.out).2.1
          clear hT7 HO7 HC7 HO1 HAL1 HWS HNW
          go_wp2_with fail
          refine (deep_const HTr7.out _ HNN.out).mono ?_
          rintro e w8 ⟨rfl, hc8⟩
          rw [HD.out]
          have HT8 := Lib.hid (HT7.out.keep hc8)
          have HTr8 := Lib.hid (HTr7.out.keep hc8)
          have HC8 := Lib.hid (HCk.out.new hc8)
          clear hc8
          by_cases hd : d < 16
          · have hdI : (d : Int) < 16 := by omega
            obtain ⟨t', ht'⟩ := HLP.out hd
            have HN' := Lib.hid ht'
            clear ht'
            have HD' := Lib.hid (show deepI (some (t', d + 1)) = ((d + 1 : Nat) : Int) from rfl)
            go_wp2_with fail
            refine (deep_const HT8.out _ HN'.out).mono ?_
            rintro e w9 ⟨rfl, hc9⟩
            rw [HD'.out]
            have HTr9 := Lib.hid (HTr8.out.keep hc9)
            have HC9 := Lib.hid (HC8.out.new hc9)
            clear hc9
            go_wp2_with fail
            refine (deep_const HTr9.out _ HNN.out).mono ?_
            rintro e w10 ⟨rfl, hc10⟩
            rw [HD.out]
            have HC10 := Lib.hid (HC9.out.new hc10)
            clear hc10
            have qne : (((d + 1 : Nat) : Int) != (d : Int) + 1) = false := by simp
            go_wp2_with fail
            go_roundw
            case rel => exact ⟨k + 1, by go_num, by omega, HC10⟩
            case measure => simp [intOf]; omega
          · have hdI : ¬ (d : Int) < 16 := by omega
            go_wp2_with fail
            go_roundw
            case rel => exact ⟨k + 1, by go_num, by omega, HC8⟩
            case measure => simp [intOf]; omega
    · have hkI : ¬ (k : Int) < (fn : Int) := by omega
      have HCe := Lib.hid (HC1.out.new HCr.out)
      go_wp2_with fail
      refine nknown_any.mono ?_
      rintro e w9 ⟨rfl, hc9⟩
      have HC9 := Lib.hid (HCe.out.new hc9)
      clear hc9
      go_wp2_with fail
      go_ret
      exact ⟨rfl, HC9.out⟩
end
end Go.Proofs.Ytafgpmempgoikaa
