/-
  UU: StFunc, WkPure.
-/
import Derived.Test.YtbkfhndmeljlcaaGreatDoorZUU4
import Derived.Test.YtbkfhndmeljlcaaGreatDoorZUU16
import Derived.Test.YtbkfhndmeljlcaaGreatDoorZUU20
import Derived.Test.YtbkfhndmeljlcaaGreatDoorZUU24
namespace Go.Proofs.YtbkfhndmeljlcaaGreatDoor
open Go.RowKit
/-- No end stands where nothing is open. -/
def DRun : List Int → Nat → Prop
  | [], n => n ≤ 16
  | s :: r, n => n ≤ 16 ∧ (isEnd s → 0 < n) ∧ DRun r (tokLen s n)
theorem rTake_len {ss : List Int} {i : Nat} {s : Int} {m m' : RSt} (h : rTake ss i s m = some m') (hm : m.op.length ≤ 16) : (isEnd s → 0 < m.op.length) ∧ m'.op.length = tokLen s m.op.length ∧ m'.op.length ≤ 16 := by
  unfold rTake at h
  split at h
  · rename_i hs
    split at h
    · injection h with h; subst h
      refine ⟨fun he => by unfold isEnd at he; omega, by simp [tokLen, hs], by simp; omega⟩
    · cases h
  rename_i hs
  split at h
  · rename_i h58
    split at h
    · rename_i p r hop
      split at h
      · injection h with h; subst h
        rw [hop] at hm ⊢
        refine ⟨fun _ => by simp, ?_, by simpa using hm⟩
        subst h58; rfl
      · cases h
    · cases h
  rename_i h58
  split at h
  · rename_i h59
    split at h
    · rename_i p r hop
      split at h
      · cases h
      · injection h with h; subst h
        rw [hop] at hm ⊢
        refine ⟨fun _ => by simp, ?_, by simp at hm ⊢; omega⟩
        subst h59; rfl
    · cases h
  rename_i h59
  split at h
  · rename_i h93
    split at h
    · rename_i p r hop
      split at h
      · injection h with h; subst h
        rw [hop] at hm ⊢
        refine ⟨fun _ => by simp, ?_, by simp at hm ⊢; omega⟩
        subst h93; rfl
      · cases h
    · cases h
  rename_i h93
  injection h with h; subst h
  refine ⟨fun he => by unfold isEnd at he; omega, by unfold tokLen; rw [if_neg hs, if_neg (by omega)], hm⟩
theorem dRun_of {ss : List Int} : ∀ (rest : List Int) (i : Nat) (m m' : RSt), m.op.length ≤ 16 → rRun ss i rest m = some m' → DRun rest m.op.length
  | [], _, _, _, hm, _ => hm
  | s :: r, i, m, m', hm, h => by
    rw [rRun] at h
    cases ht : rTake ss i s ⟨m.tO.set i (-1), m.deep, m.op⟩ with
    | none => rw [ht] at h; cases h
    | some m1 =>
      rw [ht] at h
      obtain ⟨h1, h2, h3⟩ := rTake_len ht hm
      have := dRun_of r (i + 1) m1 m' h3 h
      rw [h2] at this
      exact ⟨hm, h1, this⟩
theorem dRun_nest {ss : List Int} {R : List Int × Nat} (h : rNest ss = some R) : DRun ss 0 := by
  unfold rNest at h
  cases hr : rRun ss 0 ss ⟨List.replicate ss.length 0, 0, []⟩ with
  | none => rw [hr] at h; cases h
  | some r => exact dRun_of ss 0 _ r (by simp) hr
/-- A function's answer, by its number. -/
def rFn (l : List FnV) (k : Int) : Int × List Int :=
  if k < 0 ∨ (l.length : Int) ≤ k then (23, []) else match l[k.toNat]? with | none => (23, []) | some f => rFunc l f.code
def FnPost (R : Int × List Int) (w : World) (e : Ending) (w' : World) : Prop :=
  ∃ v, e = .returned (.tuple #[v, .int .i64 R.1]) ∧ w'.ownsRow w.heap.size 3 1 v R.2.length (nms R.2) ∧ Chg [] w w'
theorem fn_no {w w' : World} {R : Int × List Int} (er : Int) (hR : R = (er, [])) (hc : Chg [] w w') : FnPost R w (.returned (.tuple #[.slice none 0 0, .int .i64 er])) w' := by
  subst hR
  exact ⟨_, rfl, World.ownsRow_nil _ _ _ _, hc⟩
theorem rWalk_next (l : List FnV) (t : TkV) (ts : List TkV) (h : Int) (bs : List BkV) (out : List Int) : rWalk l (t :: ts) h bs out = if (rTok l h bs t.sign t.name).1 = 0 then rWalk l ts (rTok l h bs t.sign t.name).2.1 (rTok l h bs t.sign t.name).2.2 (out ++ [h]) else ((rTok l h bs t.sign t.name).1, []) := by
  rw [rWalk]
theorem rown_besides {w w' : World} {B n k : Nat} {e : TypeId} {v : Value} {xs : List Value} {T : List Nat} (h : w.ownsRow B e k v n xs) (hc : Chg T w w') (hT : ∀ g, v.ownBlock = some g → g ∉ T) : w'.ownsRow B e k v n xs := by
  refine ⟨h.1, h.2.imp id ?_⟩
  rintro ⟨g, cap, cur, rfl, hb, hg, r⟩
  refine ⟨g, cap, cur, rfl, hb, ?_, r⟩
  rw [hc.block g (tf_lt hg) (hT g rfl)]
  exact hg
section
variable {W : World} {gs B : Nat} {h : Int} {vo : Value} {bs : List BkV} {A : Option Addr} {n c : Nat} {l : List FnV} {pages most : Int}
theorem stT_ge (s : St W gs B h vo bs) : ∀ i ∈ stT gs vo, gs ≤ i := fun i hi => by
  unfold stT at hi
  rcases List.mem_cons.1 hi with rfl | hi
  · exact Nat.le_refl _
  · cases hb : vo.ownBlock with
    | none => rw [hb] at hi; simp at hi
    | some g =>
      rw [hb] at hi
      simp at hi
      subst hi
      have := (s.own.lt _ hb).1
      have := s.lo
      omega
theorem token_any (s : St W gs B h vo bs) (hF : Fnr W A n c l) (t : TkV) (hne : isEnd t.sign → 0 < bs.length) (hfew : bs.length < 1000) : Calls Tryz.prog 65 #[.pointer (some ⟨gs, 0, none⟩), unitV pages most A n c, .agg (tkC t).toArray] W (TkPost gs B vo (rTok l h bs t.sign t.name) W) := by
  by_cases he : isEnd t.sign
  · rcases List.eq_nil_or_concat bs with rfl | ⟨ys, x, rfl⟩
    · exact absurd (hne he) (by simp)
    · rw [List.concat_eq_append] at s ⊢
      exact token_ends s hF t he
  · exact token_other s hF t he hfew
set_option maxHeartbeats 8000000 in
set_option maxRecDepth 100000 in
theorem rfunc_big {w : World} (hF : Fnr w A n c l) (hcode : ∀ f ∈ l, f.code.size ≤ 9223372036854775807) (k : Int) : Calls Tryz.prog 38 #[unitV pages most A n c, .int .i64 k] w (FnPost (rFn l k) w) := by
  unfold unitV
  obtain ⟨i0, hi0, hz0, hz1, hz2⟩ := info_parts info_int
  obtain ⟨R, hR⟩ : ∃ R, R = rFn l k := ⟨_, rfl⟩
  rw [← hR]
  unfold rFn at hR
  rw [hF.len] at hR
  have HR := Lib.hid hR
  have H := Lib.hid hF
  have hmax := hF.max
  clear hF hR
  go_enter Tryz.func38, Tryz.ntmps38
  go_upto_region 1 with fail
  have hN := Whole.new w 24 [.int .i64 pages, .int .i64 most, .slice A n c]
  have hal : Chg [] w (w.alloc (.cells #[.int .i64 pages, .int .i64 most, .slice A n c] 24)) := (Chg.refl [] w).alloc _
  have HF1 := Lib.hid (H.out.keep hal)
  have HU1 := Lib.hid hN
  have HC1 := Lib.hid hal
  have HBW := Lib.hid (show w.heap.size ≤ w.heap.size from Nat.le_refl _)
  obtain ⟨gu, hgu⟩ : ∃ g, g = w.heap.size := ⟨_, rfl⟩
  rw [← hgu] at HU1 ⊢
  generalize w.alloc (.cells #[.int .i64 pages, .int .i64 most, .slice A n c] 24) = w1 at HF1 HU1 HC1 ⊢
  clear hN hal hgu
  have u2 := HU1.out.cell 2
  by_cases hk0 : k < 0
  · have qk : decide (k < 0) = true := by simpa using hk0
    have HP := Lib.hid (show FnPost R w (.returned (.tuple #[.slice none 0 0, .int .i64 23])) w1 from fn_no 23 (by rw [HR.out, if_pos (.inl hk0)]) HC1.out)
    clear hk0
    go_wp2_with fail
    go_ret2
    exact HP.out
  have qk : decide (k < 0) = false := by simpa using hk0
  by_cases hkn : (n : Int) ≤ k
  · have qn : decide ((n : Int) ≤ k) = true := by simpa using hkn
    have HP := Lib.hid (show FnPost R w (.returned (.tuple #[.slice none 0 0, .int .i64 23])) w1 from fn_no 23 (by rw [HR.out, if_pos (.inr hkn)]) HC1.out)
    clear hkn hk0
    go_wp2_with fail
    go_ret2
    exact HP.out
  have qn : decide ((n : Int) ≤ k) = false := by simpa using hkn
  obtain ⟨q, rfl⟩ : ∃ q : Nat, k = (q : Int) := ⟨k.toNat, by omega⟩
  have hqn : q < n := by omega
  obtain ⟨f, hfk⟩ : ∃ f, l[q]? = some f := ⟨l[q]'(by rw [HF1.out.len]; exact hqn), by simp⟩
  have HR1 := Lib.hid (show R = rFunc l f.code from by rw [HR.out, if_neg (by omega), show ((q : Int)).toNat = q from rfl, hfk])
  have hcd := hcode f (List.mem_of_getElem? hfk)
  obtain ⟨fb, fo, rfl, hfbl, e0, e1, e2⟩ := HF1.out.cell hfk
  have hqI : (q : Int) < (n : Int) := by omega
  clear hfk hk0 hkn hcode e0 e1 HR
  go_wp2_with fail
  refine (tokens_any f.code (by omega)).mono ?_
  rintro e w2 ⟨hc2, hT⟩
  have HC2 := Lib.hid (HC1.out.new hc2)
  have HF2 := Lib.hid (HF1.out.keep hc2)
  have HU2 := Lib.hid (HU1.out.keep hc2)
  clear u2 e2 hfbl
  rcases hT with ⟨ts, v2, hts, htl, rfl, ho2⟩ | ⟨hts, rfl⟩
  rotate_left
  · have hE : tokE f.code = 3 ∨ tokE f.code = 12 := by unfold tokE; split <;> simp
    have HP := Lib.hid (show FnPost R w (.returned (.tuple #[.slice none 0 0, .int .i64 (tokE f.code)])) w2 from fn_no _ (by rw [HR1.out, rFunc, hts]) HC2.out)
    clear hts hc2
    generalize tokE f.code = te at hE HP ⊢
    have qe : (te != 0) = true := by simp; omega
    clear hE
    go_wp2_with fail
    go_ret2
    exact HP.out
  obtain ⟨TA, tc, rfl, hTk⟩ := Tks.of_own ho2 (by omega)
  have HT2 := Lib.hid hTk
  have HR2 := Lib.hid (show R = match rNest (signs ts) with | none => (13, []) | some _ => rWalk l ts 0 [] [] from by rw [HR1.out, rFunc, hts]; rfl)
  clear hts hc2 ho2 hTk HR1
  obtain ⟨tn, htn⟩ : ∃ tn, tn = ts.length := ⟨_, rfl⟩
  rw [← htn] at HT2 htl ⊢
  have HTN := Lib.hid htn
  clear htn
  go_wp2_with fail
  refine (rnest_any HT2.out).mono ?_
  rintro e w3 ⟨hc3, hT⟩
  have HC3 := Lib.hid (HC2.out.new hc3)
  have HF3 := Lib.hid (HF2.out.keep hc3)
  have HU3 := Lib.hid (HU2.out.keep hc3)
  have HT3 := Lib.hid (HT2.out.keep hc3)
  clear hc3
  rcases hT with ⟨t3, d3, g3, hn3, _, rfl, _⟩ | ⟨hn3, rfl⟩
  rotate_left
  · have HP := Lib.hid (show FnPost R w (.returned (.tuple #[.slice none 0 0, .int .i64 13])) w3 from fn_no 13 (by rw [HR2.out, hn3]) HC3.out)
    clear hn3
    go_wp2_with fail
    go_ret2
    exact HP.out
  have HR3 := Lib.hid (show R = rWalk l ts 0 [] [] from by rw [HR2.out, hn3])
  have HD := Lib.hid (dRun_nest hn3)
  clear hn3
  have hN4 := Whole.new w3 108 [.int .i64 0, .slice none 0 0]
  have hal4 : Chg [] w3 (w3.alloc (.cells #[.int .i64 0, .slice none 0 0] 108)) := (Chg.refl [] w3).alloc _
  have hsz4 : (w3.alloc (.cells #[.int .i64 0, .slice none 0 0] 108)).heap.size = w3.heap.size + 1 := Array.size_push _
  go_upto_region 12 with fail
  have HC4 := Lib.hid (HC3.out.new hal4)
  have HF4 := Lib.hid (HF3.out.keep hal4)
  have HU4 := Lib.hid (HU3.out.keep hal4)
  have HT4 := Lib.hid (HT3.out.keep hal4)
  have HGS := Lib.hid (show w.heap.size ≤ w3.heap.size from HC3.out.size)
  generalize w3.alloc (.cells #[.int .i64 0, .slice none 0 0] 108) = w4 at hN4 hal4 hsz4 HC4 HF4 HU4 HT4 ⊢
  have HC34 := Lib.hid hal4
  obtain ⟨gs, hgs⟩ : ∃ g, g = w3.heap.size := ⟨_, rfl⟩
  rw [← hgs] at hN4 hsz4 HGS ⊢
  have HS4 := Lib.hid (show St w4 gs (gs + 1) 0 (.slice none 0 0) [] from ⟨hN4, World.ownsRow_nil _ _ _ _, by omega, by simp, by omega, fun b hb => by simp at hb, by omega⟩)
  have HG3 := Lib.hid hgs
  clear hN4 hal4 hsz4 hgs HC3 HC2 HF2 HU2 HT2 HC1 HF1 HU1 HF4 HU4 HT4
  have HTL := Lib.hid htl
  go_loopw [12, 51] (fun v i wr => ∃ (j : Nat) (h : Int) (bs : List BkV) (vo : Value) (out : List Int), i = .int .i64 (j : Int) ∧ j ≤ tn ∧ Hid (St wr gs (gs + 1) h vo bs) ∧ Hid (wr.ownsRow (gs + 1) 3 1 v j (nms out)) ∧
    Hid (DRun (signs (ts.drop j)) bs.length) ∧ Hid (R = rWalk l (ts.drop j) h bs out) ∧ Hid (Chg [] w wr) ∧ Hid (Chg [] w3 wr)) (fun _ i _ => tn - (intOf i).toNat)
  case atStart => exact ⟨0, 0, [], _, [], rfl, by omega, HS4, Lib.hid (World.ownsRow_nil _ _ _ _), HD, HR3, HC4, HC34⟩
  case round =>
    obtain ⟨j, h, bs, vo, out, rfl, hj, HS, HO, HDR, HRW, HC, HCW⟩ := hrel
    obtain ⟨AO, co, rfl, _⟩ := own_slice HO.out
    by_cases hjn : j < tn
    · have hjI : (j : Int) < (tn : Int) := by omega
      obtain ⟨t, htj⟩ : ∃ t, ts[j]? = some t := ⟨ts[j]'(by rw [← HTN.out]; exact hjn), by simp⟩
      have HDJ := Lib.hid (show ts.drop j = t :: ts.drop (j + 1) from List.drop_eq_getElem?_toList_append.trans (by rw [htj]; rfl))
      have HTr := Lib.hid (HT3.out.keep HCW.out)
      obtain ⟨b, o, rfl, hbl, t0, t1, t2⟩ := HTr.out.cell htj
      clear htj
      go_upto_region 14 with fail
      have hal5 : Chg [] wr (wr.alloc (.cells #[.int .i32 t.sign, .int .i64 t.n, .int .i32 t.name] 110)) := (Chg.refl [] wr).alloc _
      have HT5 := Lib.hid (Whole.new wr 110 [.int .i32 t.sign, .int .i64 t.n, .int .i32 t.name])
      have HS5 := Lib.hid (HS.out.keep hal5)
      have HO5 := Lib.hid (rown_keep HO.out hal5)
      have HU5 := Lib.hid (HU3.out.keep (HCW.out.new hal5))
      have HC5 := Lib.hid (HC.out.new hal5)
      have HCW5 := Lib.hid (HCW.out.new hal5)
      obtain ⟨gt, hgt⟩ : ∃ g, g = wr.heap.size := ⟨_, rfl⟩
      rw [← hgt] at HT5 ⊢
      generalize wr.alloc (.cells #[.int .i32 t.sign, .int .i64 t.n, .int .i32 t.name] 110) = w5 at hal5 HT5 HS5 HO5 HU5 HC5 HCW5 ⊢
      clear hal5 hgt t0 t1 t2 hbl HTr HC HCW HO HS
      have c0 := HS5.out.rec_.cell 0
      have HAL := Lib.hid (show Chg [] w5 (w5.alloc (.cells #[.int .i64 h] 3)) from (Chg.refl [] w5).alloc _)
      have HO6 := Lib.hid (rown_keep HO5.out HAL.out)
      have HRM := Lib.hid HS5.out.room
      have hjb := HTL.out
      clear htl
      go_wp2_with (at_builtin
                   refine wpList_append_own _ rfl (.tmp 55) (.tmp 60) _ rfl (gs + 1) 3 i0 _ 1 8 Tryz.underlying26 hi0 hz0 hz1 hz2 rfl (by decide) (.slice AO j co) j (nms out) rfl HO6.out ⟨w5.heap.size, 0, none⟩ 1 1 [.int .i64 h] rfl rfl (cells_page _ _ _) (by simp [Value.oneCell']) (by simp only [maxLen]; omega) (by omega) (by have := HRM.out; simp; omega) ?_
                   intro v' w6 ho6 hg6 _
                   obtain ⟨A6, c6, rfl, _⟩ := own_slice ho6
                   have HO7 := Lib.hid ho6
                   have HG7 := Lib.hid hg6
                   have HU6 := Lib.hid (whole_grown (HU5.out.keep HAL.out) HO6.out (by decide) hg6)
                   have HT6 := Lib.hid (whole_grown (HT5.out.keep HAL.out) HO6.out (by decide) hg6)
                   have HC6 := Lib.hid (show Chg [] w w6 from chg_grown2 (HC5.out.new HAL.out) hg6 (fun g hg => by have := (HO6.out.lt g hg).1; have := HGS.out; omega))
                   have HCW6 := Lib.hid (show Chg [] w3 w6 from chg_grown2 (HCW5.out.new HAL.out) hg6 (fun g hg => by have := (HO6.out.lt g hg).1; have := HG3.out; omega))
                   have u0 := HU6.out.cell 0
                   have u1 := HU6.out.cell 1
                   have u2 := HU6.out.cell 2
                   have t0 := HT6.out.cell 0
                   have t1 := HT6.out.cell 1
                   have t2 := HT6.out.cell 2
                   clear ho6 hg6)
      have HS7 := Lib.hid (show St w6 gs (gs + 1) h vo bs from ⟨whole_grown (HS5.out.keep HAL.out).rec_ HO6.out (by decide) HG7.out, rown_grown (HS5.out.keep HAL.out).own HO6.out (by decide) HG7.out, HS5.out.lo, HS5.out.few, HS5.out.hr, HS5.out.wf, Nat.le_trans (HS5.out.keep HAL.out).room HG7.out.size⟩)
      have HDD := Lib.hid (show DRun (t.sign :: signs (ts.drop (j + 1))) bs.length from by have := HDR.out; rw [HDJ.out] at this; exact this)
      obtain ⟨RT, hRT⟩ : ∃ RT, RT = rTok l h bs t.sign t.name := ⟨_, rfl⟩
      have HTK := Lib.hid (token_any (pages := pages) (most := most) HS7.out (HF3.out.keep HCW6.out) t HDD.out.2.1 (by have := HDD.out.1; omega))
      have HRW2 := Lib.hid (show R = if RT.1 = 0 then rWalk l (ts.drop (j + 1)) RT.2.1 RT.2.2 (out ++ [h]) else (RT.1, []) from by rw [HRW.out, HDJ.out, rWalk_next, hRT])
      have HLN := Lib.hid (show RT.1 = 0 → RT.2.2.length = tokLen t.sign bs.length from fun he => by rw [hRT] at he ⊢; exact rTok_len he)
      rw [← hRT] at HTK
      have HGE := Lib.hid (stT_ge HS7.out)
      clear hRT
      refine HTK.out.mono ?_
      rintro e w7 ⟨rfl, hS8, hc7⟩
      have HC7 := Lib.hid (show Chg [] w w7 from HC6.out.then_ hc7 (fun i hi hlt => by have := HGE.out i hi; have := HGS.out; have := HG3.out; omega))
      have HCW7 := Lib.hid (show Chg [] w3 w7 from HCW6.out.then_ hc7 (fun i hi hlt => by have := HGE.out i hi; have := HG3.out; omega))
      have HO8 := Lib.hid (rown_besides HO7.out hc7 (fun g hg hm => by
        unfold stT at hm
        rcases List.mem_cons.1 hm with rfl | hm
        · have := (HO7.out.lt _ hg).1; omega
        · have := own_ne HO7.out HS7.out.own (by decide) hg
          cases hb : vo.ownBlock with
          | none => rw [hb] at hm; simp at hm
          | some g2 => rw [hb] at hm this; simp at hm; subst hm; exact this rfl))
      clear hc7 u0 u1 u2 t0 t1 t2 c0
      by_cases her : RT.1 = 0
      · obtain ⟨vo8, hS9⟩ := hS8 her
        have HS9 := Lib.hid hS9
        have HR9 := Lib.hid (HRW2.out.trans (if_pos her))
        have HD9 := Lib.hid (show DRun (signs (ts.drop (j + 1))) RT.2.2.length from by rw [HLN.out her]; exact HDD.out.2.2)
        rw [her]
        clear hS8 hS9 her
        go_wp2_with fail
        go_roundw
        case rel => exact ⟨j + 1, RT.2.1, RT.2.2, vo8, out ++ [h], by go_num, by omega, HS9, Lib.hid (by have := HO8.out; simpa [nms] using this), HD9, HR9, HC7, HCW7⟩
        case measure => simp [intOf]; omega
      · have qe : (RT.1 != 0) = true := by simpa using her
        have HP := Lib.hid (show FnPost R w (.returned (.tuple #[.slice none 0 0, .int .i64 RT.1])) w7 from fn_no _ (HRW2.out.trans (if_neg her)) HC7.out)
        clear hS8 her
        go_wp2_with fail
        go_ret2
        exact HP.out
    · have hjI : (tn : Int) ≤ (j : Int) := by omega
      have HRZ := Lib.hid (show R = if h ≠ 1 ∧ 0 ≤ h then (14, []) else (0, out) from by rw [HRW.out, List.drop_eq_nil_of_le (by rw [← HTN.out]; omega), rWalk])
      have c0 := HS.out.rec_.cell 0
      have HOW := Lib.hid (own_more_n HO.out (show w.heap.size ≤ gs + 1 from by have := HGS.out; omega))
      have HJO := Lib.hid (show j = out.length from by have := HO.out.1; simpa [nms] using this.symm)
      by_cases h1 : h = 1
      · have q1 : (h != 1) = false := by simpa using h1
        have HP := Lib.hid (show FnPost R w (.returned (.tuple #[.slice AO j co, .int .i64 0])) wr from by
          rw [HRZ.out, if_neg (by omega)]
          exact ⟨_, rfl, by rw [← HJO.out]; exact HOW.out, HC.out⟩)
        clear h1
        go_wp2_with fail
        go_ret2
        exact HP.out
      · have q1 : (h != 1) = true := by simpa using h1
        by_cases h0 : 0 ≤ h
        · have q0 : decide (0 ≤ h) = true := by simpa using h0
          have HP := Lib.hid (show FnPost R w (.returned (.tuple #[.slice none 0 0, .int .i64 14])) wr from fn_no 14 (by rw [HRZ.out, if_pos ⟨h1, h0⟩]) HC.out)
          clear h1 h0
          go_wp2_with fail
          go_ret2
          exact HP.out
        · have q0 : decide (0 ≤ h) = false := by simpa using h0
          have HP := Lib.hid (show FnPost R w (.returned (.tuple #[.slice AO j co, .int .i64 0])) wr from by
            rw [HRZ.out, if_neg (by omega)]
            exact ⟨_, rfl, by rw [← HJO.out]; exact HOW.out, HC.out⟩)
          clear h1 h0
          go_wp2_with fail
          go_ret2
          exact HP.out
theorem rfunc_any {w : World} (hF : Fnr w A n c l) (hcode : ∀ f ∈ l, f.code.size ≤ 1000000) (k : Int) : Calls Tryz.prog 38 #[unitV pages most A n c, .int .i64 k] w (FnPost (rFn l k) w) := rfunc_big hF (fun f hf => Nat.le_trans (hcode f hf) (by omega)) k
end
end Go.Proofs.YtbkfhndmeljlcaaGreatDoor
namespace Go.Proofs.YtbkfhndmeljlcaaGreatDoor
open Go.RowKit
def sNext (s : Int) (st : List Int) : List Int := if s = 63 ∨ s = 91 then st ++ [s] else if s = 58 then st.dropLast ++ [58] else if s = 59 ∨ s = 93 then st.dropLast else st
def TopS (s : Int) (st : List Int) : Prop := (s = 58 → ∃ y, st = y ++ [63]) ∧ (s = 59 → ∃ y t, st = y ++ [t] ∧ t ≠ 91) ∧ (s = 93 → ∃ y, st = y ++ [91]) ∧ (s = 126 → 91 ∈ st) ∧ ((s = 63 ∨ s = 91) → st.length + 1 ≤ 16)
def SOk : List Int → List Int → Prop
  | [], _ => True
  | s :: r, st => TopS s st ∧ SOk r (sNext s st)
def sgn (p : NPart) : Int := if p.loop = true then 91 else if p.waits = p.at_ then 63 else 58
def stk (m : NSt) : List Int := (m.op.map sgn).reverse
theorem stk_cons (p : NPart) (r : List NPart) (t : List Int) (d : Nat) : stk ⟨t, d, p :: r⟩ = stk ⟨t, d, r⟩ ++ [sgn p] := by simp [stk]
theorem leaveP_sgn {i : Nat} : ∀ {l o : List NPart}, leaveP i l = some o → o.map sgn = l.map sgn ∧ (91 ∈ l.map sgn) ∧ ∀ q ∈ o, ∃ p ∈ l, q.at_ = p.at_ ∧ q.waits = p.waits
  | [], o, h => by cases h
  | p :: r, o, h => by
    unfold leaveP at h
    by_cases hl : p.loop = true
    · rw [if_pos hl] at h
      injection h with h
      subst h
      refine ⟨by simp [sgn], by simp [sgn, hl], fun q hq => ?_⟩
      rcases List.mem_cons.1 hq with rfl | hq
      · exact ⟨p, by simp, rfl, rfl⟩
      · exact ⟨q, by simp [hq], rfl, rfl⟩
    · rw [if_neg hl] at h
      cases hr : leaveP i r with
      | none => rw [hr] at h; cases h
      | some o' =>
        rw [hr] at h
        injection h with h
        subst h
        obtain ⟨h1, h2, h3⟩ := leaveP_sgn hr
        refine ⟨by simp [h1], by simp at h2 ⊢; exact .inr h2, fun q hq => ?_⟩
        rcases List.mem_cons.1 hq with rfl | hq
        · exact ⟨_, by simp, rfl, rfl⟩
        · obtain ⟨p', hp, e⟩ := h3 q hq
          exact ⟨p', by simp [hp], e⟩
theorem nTake_top {i : Nat} {s : Int} {m m' : NSt} (h : nTake i s m = some m') (hm : ∀ p ∈ m.op, p.at_ < i) : TopS s (stk m) ∧ stk m' = sNext s (stk m) ∧ ∀ p ∈ m'.op, p.at_ < i + 1 := by
  obtain ⟨t, d, op⟩ := m
  simp only at hm
  have hm1 : ∀ p ∈ op, p.at_ < i + 1 := fun p hp => by have := hm p hp; omega
  unfold nTake at h
  simp only at h
  split at h
  · rename_i hs
    split at h
    · rename_i h16
      injection h with h; subst h
      refine ⟨⟨fun e => by omega, fun e => by omega, fun e => by omega, fun e => by omega, fun _ => by simp [stk]; omega⟩, ?_, fun p hp => ?_⟩
      · rw [stk_cons, sNext, if_pos hs]
        congr 1
        rcases hs with rfl | rfl <;> simp [sgn]
      · rcases List.mem_cons.1 hp with rfl | hp
        · simp
        · exact hm1 p hp
    · cases h
  rename_i hs
  split at h
  · rename_i h58
    subst h58
    split at h
    · rename_i p r
      split at h
      · rename_i hc
        injection h with h; subst h
        have hpa := hm p (by simp)
        have e1 : sgn p = 63 := by unfold sgn; rw [if_neg (by rw [hc.1]; decide), if_pos hc.2]
        refine ⟨⟨fun _ => ⟨_, by rw [stk_cons, e1]⟩, fun e => by omega, fun e => by omega, fun e => by omega, fun e => by omega⟩, ?_, fun q hq => ?_⟩
        · rw [stk_cons, stk_cons, sNext, if_neg (by omega), if_pos rfl, List.dropLast_concat]
          have e2 : sgn ⟨p.loop, p.at_, i, p.left⟩ = 58 := by unfold sgn; simp only; rw [if_neg (by rw [hc.1]; decide), if_neg (by omega)]
          rw [e2]
          rfl
        · rcases List.mem_cons.1 hq with rfl | hq
          · simp only; omega
          · exact hm1 q (by simp [hq])
      · cases h
    · cases h
  rename_i h58
  split at h
  · rename_i h59
    subst h59
    split at h
    · rename_i p r
      split at h
      · rename_i hc
        injection h with h; subst h
        refine ⟨⟨fun e => by omega, fun _ => ⟨_, _, stk_cons _ _ _ _, by unfold sgn; rw [if_neg (by rw [hc]; decide)]; split <;> decide⟩, fun e => by omega, fun e => by omega, fun e => by omega⟩, ?_, fun q hq => hm1 q (by simp [hq])⟩
        rw [stk_cons, sNext, if_neg (by omega), if_neg (by omega), if_pos (.inl rfl), List.dropLast_concat]
        rfl
      · cases h
    · cases h
  rename_i h59
  split at h
  · rename_i h93
    subst h93
    split at h
    · rename_i p r
      split at h
      · rename_i hc
        injection h with h; subst h
        have e1 : sgn p = 91 := by unfold sgn; rw [if_pos hc]
        refine ⟨⟨fun e => by omega, fun e => by omega, fun _ => ⟨_, by rw [stk_cons, e1]⟩, fun e => by omega, fun e => by omega⟩, ?_, fun q hq => hm1 q (by simp [hq])⟩
        rw [stk_cons, sNext, if_neg (by omega), if_neg (by omega), if_pos (.inr rfl), List.dropLast_concat]
        rfl
      · cases h
    · cases h
  rename_i h93
  split at h
  · rename_i h126
    subst h126
    cases hl : leaveP i op with
    | none => rw [hl] at h; cases h
    | some o =>
      rw [hl] at h
      injection h with h; subst h
      obtain ⟨h1, h2, h3⟩ := leaveP_sgn hl
      refine ⟨⟨fun e => by omega, fun e => by omega, fun e => by omega, fun _ => by unfold stk; simpa using h2, fun e => by omega⟩, ?_, fun q hq => ?_⟩
      · rw [sNext, if_neg (by omega), if_neg (by omega), if_neg (by omega)]
        unfold stk
        simp only
        rw [h1]
      · obtain ⟨p, hp, e, _⟩ := h3 q hq
        have := hm p hp
        omega
  · rename_i h126
    injection h with h; subst h
    exact ⟨⟨fun e => absurd e h58, fun e => absurd e h59, fun e => absurd e h93, fun e => absurd e h126, fun e => absurd e hs⟩, by rw [sNext, if_neg hs, if_neg h58, if_neg (by omega)], hm1⟩
theorem sOk_run : ∀ (rest : List Int) (i : Nat) (m m' : NSt), (∀ p ∈ m.op, p.at_ < i) → nRun i rest m = some m' → SOk rest (stk m)
  | [], _, _, _, _, _ => trivial
  | s :: rest, i, m, m', hm, h => by
    unfold nRun at h
    cases ht : nTake i s ⟨m.tO.set i (-1), m.deep, m.op⟩ with
    | none => rw [ht] at h; cases h
    | some m2 =>
      rw [ht] at h
      obtain ⟨h1, h2, h3⟩ := nTake_top ht hm
      refine ⟨h1, ?_⟩
      have := sOk_run rest (i + 1) m2 m' h3 h
      rw [h2] at this
      exact this
theorem sOk_nest {ss : List Int} {R : List Int × Nat} (h : rNest ss = some R) : SOk ss [] := by
  rw [← nest_same] at h
  unfold nNest at h
  cases hr : nRun 0 ss ⟨List.replicate ss.length 0, 0, []⟩ with
  | none => rw [hr] at h; cases h
  | some m => exact sOk_run ss 0 _ m (fun p hp => by simp at hp) hr
theorem split_last {α β : Type} {f : α → β} {l : List α} {y : List β} {b : β} (h : l.map f = y ++ [b]) : ∃ ys x, l = ys ++ [x] ∧ f x = b := by
  rcases List.eq_nil_or_concat l with rfl | ⟨ys, x, rfl⟩
  · simp at h
  · rw [List.concat_eq_append] at h ⊢
    rw [List.map_append] at h
    have := List.append_inj' h (by simp)
    exact ⟨ys, x, rfl, by simpa using this.2⟩
theorem topS_top {s : Int} {bs : List BkV} (h : TopS s (bs.map (·.sign))) : Top s bs := by
  refine ⟨fun e => ?_, fun e => ?_, fun e => ?_, fun e => ?_⟩
  · obtain ⟨y, hy⟩ := h.1 e
    obtain ⟨ys, x, h1, h2⟩ := split_last hy
    exact ⟨ys, x, h1, h2⟩
  · obtain ⟨y, t, hy, ht⟩ := h.2.1 e
    obtain ⟨ys, x, h1, h2⟩ := split_last hy
    exact ⟨ys, x, h1, by rw [h2]; exact ht⟩
  · obtain ⟨y, hy⟩ := h.2.2.1 e
    obtain ⟨ys, x, h1, h2⟩ := split_last hy
    exact ⟨ys, x, h1, h2⟩
  · have := h.2.2.2.1 e
    obtain ⟨x, hx, hs⟩ := List.mem_map.1 this
    exact ⟨x, hx, hs⟩
theorem rLeave_map {β : Type} (f : BkV → β) (hf : ∀ x : BkV, f ⟨x.sign, x.base, x.other, true⟩ = f x) (h : Int) (bs : List BkV) : ∀ k, (rLeave h bs k).2.2.map f = bs.map f
  | 0 => rfl
  | k + 1 => by
    rw [rLeave]
    split
    · rfl
    · rename_i x hx
      split
      · simp only [List.map_set]
        apply List.ext_getElem?
        intro j
        rw [List.getElem?_set]
        split
        · rename_i e
          subst e
          have hl := (List.getElem?_eq_some_iff.1 hx).1
          rw [if_pos (by simpa using hl)]
          simp [hx, hf]
        · rfl
      · exact rLeave_map f hf h bs k
theorem rLeave_signs (h : Int) (bs : List BkV) (k : Nat) : (rLeave h bs k).2.2.map (·.sign) = bs.map (·.sign) := rLeave_map _ (fun _ => rfl) h bs k
theorem rLeave_h (h : Int) (bs : List BkV) : ∀ k, (rLeave h bs k).1 = true → (rLeave h bs k).2.1 = -1
  | 0, e => by cases e
  | k + 1, e => by
    rw [rLeave] at e ⊢
    split
    · rename_i hx
      rw [hx] at e
      cases e
    · rename_i x hx
      rw [hx] at e
      simp only at e
      split
      · rfl
      · rename_i hn
        rw [if_neg hn] at e
        exact rLeave_h h bs k e
theorem eEnd_ok {h : Int} {ys : List BkV} {x : BkV} {s : Int} (he : (eEnd h ys x s).1 = 0) : (rEnds h ys x s).1 = true ∧ (eEnd h ys x s).2 = (rEnds h ys x s).2 := by
  unfold eEnd at he ⊢
  rcases hr : rEnds h ys x s with ⟨b, h', bs'⟩
  rw [hr] at he
  cases b with
  | true => exact ⟨rfl, rfl⟩
  | false => simp at he
theorem rEnds_ys {h : Int} {ys : List BkV} {x : BkV} {s : Int} (hs : s ≠ 58) : (rEnds h ys x s).2.2 = ys := by
  unfold rEnds
  rw [if_neg hs]
  split
  · split <;> rfl
  · split <;> rfl
theorem cTurn_next {h : Int} {bs : List BkV} {s : Int} (he : (cTurn h bs s).1 = 0) : (cTurn h bs s).2.2.map (·.sign) = sNext s (bs.map (·.sign)) := by
  by_cases hs : isEnd s
  · rcases List.eq_nil_or_concat bs with rfl | ⟨ys, x, rfl⟩
    · unfold cTurn at he
      rw [if_pos hs] at he
      simp at he
    · rw [List.concat_eq_append] at he ⊢
      rw [cTurn_end hs] at he ⊢
      obtain ⟨h1, h2⟩ := eEnd_ok he
      rw [h2]
      unfold sNext
      rcases hs with rfl | rfl | rfl
      · unfold rEnds
        rw [if_pos rfl, if_neg (by omega), if_pos rfl]
        simp
      · rw [rEnds_ys (by decide), if_neg (by omega), if_neg (by omega), if_pos (.inl rfl)]
        simp
      · rw [rEnds_ys (by decide), if_neg (by omega), if_neg (by omega), if_pos (.inr rfl)]
        simp
  · unfold cTurn at he ⊢
    rw [if_neg hs] at he ⊢
    unfold isEnd at hs
    unfold sNext
    by_cases h1 : s = 63 ∨ s = 91
    · rw [if_pos h1, if_pos h1]; simp
    · rw [if_neg h1, if_neg h1, if_neg (show ¬ s = 58 by omega), if_neg (show ¬ (s = 59 ∨ s = 93) by omega)]
      rw [if_neg h1] at he
      by_cases h2 : s = 126
      · rw [if_pos h2] at he ⊢
        unfold lLeave at he ⊢
        have hk := rLeave_signs h bs bs.length
        rcases hr : rLeave h bs bs.length with ⟨b, h', bs'⟩
        rw [hr] at hk he
        cases b with
        | true => exact hk
        | false => simp at he
      · rw [if_neg h2]
        by_cases h3 : s = 161
        · rw [if_pos h3]
        · rw [if_neg h3]
def bkey (x : BkV) : Int × Int × Int := (x.sign, x.base, x.other)
theorem Bas.of_key {h h' : Int} {bs bs' : List BkV} (hb : Bas h bs) (hk : bs'.map bkey = bs.map bkey) (ht : 0 ≤ h' → ∀ x ∈ bs, x.base ≤ h') : Bas h' bs' := by
  refine ⟨?_, fun x hx hs => ?_, fun h0 x hx => ?_⟩
  · have h1 : (bs.map bkey).Pairwise fun a b => a.2.1 ≤ b.2.1 := List.pairwise_map.2 hb.sorted
    rw [← hk] at h1
    exact (List.pairwise_map (f := bkey) (R := fun a b => a.2.1 ≤ b.2.1)).1 h1
  · have : bkey x ∈ bs.map bkey := by rw [← hk]; exact List.mem_map_of_mem hx
    obtain ⟨y, hy, e⟩ := List.mem_map.1 this
    simp only [bkey, Prod.mk.injEq] at e
    have := hb.oth y hy (by omega)
    omega
  · have : bkey x ∈ bs.map bkey := by rw [← hk]; exact List.mem_map_of_mem hx
    obtain ⟨y, hy, e⟩ := List.mem_map.1 this
    simp only [bkey, Prod.mk.injEq] at e
    have := ht h0 y hy
    omega
theorem Bas.turn {h : Int} {bs : List BkV} {s : Int} (hb : Bas h bs) (hh : -1 ≤ h) (hpos : (s = 63 ∨ s = 91) → 0 ≤ h) (he : (cTurn h bs s).1 = 0) : Bas (cTurn h bs s).2.1 (cTurn h bs s).2.2 := by
  by_cases hs : isEnd s
  · rcases List.eq_nil_or_concat bs with rfl | ⟨ys, x, rfl⟩
    · unfold cTurn at he
      rw [if_pos hs] at he
      simp at he
    · rw [List.concat_eq_append] at *
      rw [cTurn_end hs] at he ⊢
      obtain ⟨h1, h2⟩ := eEnd_ok he
      rw [h2]
      obtain ⟨hsy, _, hyx⟩ := List.pairwise_append.1 hb.sorted
      have hyx' : ∀ y ∈ ys, y.base ≤ x.base := fun y hy => hyx y hy x (by simp)
      have htx : 0 ≤ h → x.base ≤ h := fun h0 => hb.top h0 x (by simp)
      have hox := hb.oth x (by simp)
      by_cases h58 : s = 58
      · subst h58
        unfold rEnds
        rw [if_pos rfl]
        refine ⟨List.pairwise_append.2 ⟨hsy, by simp, fun y hy z hz => by simp at hz; subst hz; exact hyx' y hy⟩, fun z hz hz58 => ?_, fun _ z hz => ?_⟩
        · rcases List.mem_append.1 hz with hz | hz
          · exact hb.oth z (by simp [hz]) hz58
          · simp at hz; subst hz
            simp only
            rcases Int.lt_or_le h 0 with h3 | h3
            · left; omega
            · exact .inr (htx h3)
        · rcases List.mem_append.1 hz with hz | hz
          · exact hyx' z hz
          · simp at hz; subst hz; simp
      · have hq : (rEnds h ys x s).2.1 < 0 ∨ x.base ≤ (rEnds h ys x s).2.1 := by
          unfold rEnds at h1 ⊢
          rw [if_neg h58] at h1 ⊢
          split
          · rename_i hx58
            rw [if_pos hx58] at h1
            split
            · rename_i hc
              rw [if_pos hc] at h1
              cases h1
            · simp only
              have := hox hx58
              rcases Int.lt_or_le h 0 with h3 | h3
              · omega
              · have := htx h3; omega
          · rename_i hx58
            rw [if_neg hx58] at h1
            split
            · rename_i hc
              rw [if_pos hc] at h1
              cases h1
            · simp only
              split <;> omega
        rw [rEnds_ys h58]
        refine ⟨hsy, fun z hz => hb.oth z (by simp [hz]), fun h0 z hz => ?_⟩
        have := hyx' z hz
        omega
  · unfold cTurn at he ⊢
    rw [if_neg hs] at he ⊢
    by_cases h1 : s = 63 ∨ s = 91
    · rw [if_pos h1]
      have h0 := hpos h1
      refine ⟨List.pairwise_append.2 ⟨hb.sorted, by simp, fun y hy z hz => by simp at hz; subst hz; exact hb.top h0 y hy⟩, fun z hz hz58 => ?_, fun _ z hz => ?_⟩
      · rcases List.mem_append.1 hz with hz | hz
        · exact hb.oth z hz hz58
        · simp at hz; subst hz; simp only at hz58; omega
      · rcases List.mem_append.1 hz with hz | hz
        · exact hb.top h0 z hz
        · simp at hz; subst hz; simp
    · rw [if_neg h1] at he ⊢
      by_cases h2 : s = 126
      · rw [if_pos h2] at he ⊢
        unfold lLeave at he ⊢
        have hk := rLeave_map bkey (fun _ => rfl) h bs bs.length
        have hl := rLeave_h h bs bs.length
        rcases hr : rLeave h bs bs.length with ⟨b, h', bs'⟩
        rw [hr] at hk he hl
        cases b with
        | true =>
          have e : h' = -1 := hl rfl
          exact hb.of_key hk (fun h0 => by simp only at h0; omega)
        | false => simp at he
      · rw [if_neg h2]
        by_cases h3 : s = 161
        · rw [if_pos h3]
          exact ⟨hb.sorted, hb.oth, fun h0 => by simp only at h0; omega⟩
        · rw [if_neg h3]
          exact hb
theorem rTok_ok {l : List FnV} {h : Int} {bs : List BkV} {s name : Int} (hb : Bas h bs) (hb0 : ∀ x ∈ bs, 0 ≤ x.base) (hr : -1 ≤ h ∧ h ≤ 64) (he : (rTok l h bs s name).1 = 0) :
    Bas (rTok l h bs s name).2.1 (rTok l h bs s name).2.2 ∧ (rTok l h bs s name).2.2.map (·.sign) = sNext s (bs.map (·.sign)) := by
  by_cases h0 : h < 0
  · rw [rTok_dead h0] at he ⊢
    by_cases hs : isEnd s
    · rw [if_pos hs] at he ⊢
      exact ⟨hb.turn hr.1 (fun h => by unfold isEnd at hs; omega) he, cTurn_next he⟩
    · rw [if_neg hs] at he; simp at he
  · obtain ⟨T, hT⟩ : ∃ T, T = rTakes l s name := ⟨_, rfl⟩
    obtain ⟨p, q, ok⟩ := T
    cases ok with
    | false => rw [rTok_none (by omega) hT.symm] at he; simp at he
    | true =>
      rw [rTok_alive (by omega) hr.2 (hb.base (by omega)) hT.symm] at he ⊢
      have hin := rTakes_in l s name
      rw [← hT] at hin
      simp only at hin
      by_cases hc : h - baseOf bs < p ∨ 64 < h - p + q
      · rw [if_pos hc] at he; simp at he
      · rw [if_neg hc] at he ⊢
        have hb2 : Bas (h - p + q) bs := by
          refine ⟨hb.sorted, hb.oth, fun _ x hx => ?_⟩
          have h1 : x.base ≤ baseOf bs := by
            rcases List.eq_nil_or_concat bs with rfl | ⟨ys, y, rfl⟩
            · simp at hx
            · rw [List.concat_eq_append] at *
              have e : baseOf (ys ++ [y]) = y.base := by simp [baseOf]
              rw [e]
              rcases List.mem_append.1 hx with hx | hx
              · exact (List.pairwise_append.1 hb.sorted).2.2 x hx y (by simp)
              · simp at hx; subst hx; exact Int.le_refl _
          omega
        have hb5 : 0 ≤ h - p + q := by
          have h1 : 0 ≤ baseOf bs := by
            unfold baseOf
            cases hl : bs.getLast? with
            | none => exact Int.le_refl 0
            | some x => exact hb0 x (List.mem_of_getLast? hl)
          omega
        exact ⟨hb2.turn (by omega) (fun _ => hb5) he, cTurn_next he⟩
end Go.Proofs.YtbkfhndmeljlcaaGreatDoor
