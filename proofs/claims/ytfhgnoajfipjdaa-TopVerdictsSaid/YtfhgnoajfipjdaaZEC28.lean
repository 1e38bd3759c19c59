/-
  EC: WkFunc, Odd, Odds, ChkPure, MdToks, MdWalk.
-/
import Derived.Test.YtfhgnoajfipjdaaZEC3
import Derived.Test.YtfhgnoajfipjdaaZEC5
import Derived.Test.YtfhgnoajfipjdaaZEC7
import Derived.Test.YtfhgnoajfipjdaaZEC9
import Derived.Test.YtfhgnoajfipjdaaZEC18
import Derived.Test.YtfhgnoajfipjdaaZEC21
import Derived.Test.YtfhgnoajfipjdaaZEC22
import Derived.Test.YtfhgnoajfipjdaaZEC23
import Derived.Test.YtfhgnoajfipjdaaZEC25
import Derived.Test.YtfhgnoajfipjdaaZEC26
import Derived.Test.YtfhgnoajfipjdaaZEC27
import Derived.Laws.Entries
import Derived.Deep.CutBlock
import Derived.StillTailTactics
import Derived.Deep.DeepCutAuto
import Derived.Deep.QuietTactic
import Derived.BigQuiet
import Derived.Lib.DecodeN
import Derived.Lib.MapLaws
import Derived.Lib.FieldsU
namespace Go.Proofs.Ytfhgnoajfipjdaa
open Go.RowKit
section
variable {A : Option Addr} {n c : Nat} {l : List FnV} {pages most : Int}
theorem Fr.whole' {B : Nat} {TS : List TypeId} {a b : World} (h : Fr B TS a b) {g t : Nat} {cs : List Value} (hW : Whole a g t cs) (ht : TS.contains t = false) : Whole b g t cs := h.whole hW (by simpa using ht)
set_option maxHeartbeats 16000000 in
set_option maxRecDepth 100000 in
theorem cfunc_any {w : World} (hF : Fnr w A n c l) (hcode : ∀ f ∈ l, f.code.size ≤ 1000000) (k : Int) : Calls Try.prog 61 #[unitV pages most A n c, .int .i64 k] w (FnPost (rFn l k) w) := by
  unfold unitV
  obtain ⟨i0, hi0, hz0, hz1, hz2⟩ := info_parts info_int
  obtain ⟨R, hR⟩ : ∃ R, R = rFn l k := ⟨_, rfl⟩
  rw [← hR]
  unfold rFn at hR
  rw [hF.len] at hR
  have HR := Lib.hid hR
  have H := Lib.hid hF
  have hmax := hF.max
  clear hF hR
  go_enter Try.func61, Try.ntmps61
  go_upto_region 1 with fail
  have hN := Whole.new w 28 [.int .i64 pages, .int .i64 most, .slice A n c]
  have hal : Chg [] w (w.alloc (.cells #[.int .i64 pages, .int .i64 most, .slice A n c] 28)) := (Chg.refl [] w).alloc _
  have HF1 := Lib.hid (H.out.keep hal)
  have HU1 := Lib.hid hN
  have HC1 := Lib.hid hal
  have HBW := Lib.hid (show w.heap.size ≤ w.heap.size from Nat.le_refl _)
  obtain ⟨gu, hgu⟩ : ∃ g, g = w.heap.size := ⟨_, rfl⟩
  rw [← hgu] at HU1 ⊢
  generalize w.alloc (.cells #[.int .i64 pages, .int .i64 most, .slice A n c] 28) = w1 at HF1 HU1 HC1 ⊢
  clear hN hal hgu
  have u2 := HU1.out.cell 2
  by_cases hk0 : k < 0
  · have qk : decide (k < 0) = true := by simpa using hk0
    have HP := Lib.hid (show FnPost R w (.returned (.tuple #[.slice none 0 0, .int .i64 23])) w1 from fn_no 23 (by rw [HR.out, if_pos (.inl hk0)]) HC1.out)
    clear hk0
    go_wp2_with fail
    go_ret2
    exact HP.out
  have qk : decide (k < 0) = false := by simpa using hk0
  by_cases hkn : (n : Int) ≤ k
  · have qn : decide ((n : Int) ≤ k) = true := by simpa using hkn
    have HP := Lib.hid (show FnPost R w (.returned (.tuple #[.slice none 0 0, .int .i64 23])) w1 from fn_no 23 (by rw [HR.out, if_pos (.inr hkn)]) HC1.out)
    clear hkn hk0
    go_wp2_with fail
    go_ret2
    exact HP.out
  have qn : decide ((n : Int) ≤ k) = false := by simpa using hkn
  obtain ⟨q, rfl⟩ : ∃ q : Nat, k = (q : Int) := ⟨k.toNat, by omega⟩
  have hqn : q < n := by omega
  obtain ⟨f, hfk⟩ : ∃ f, l[q]? = some f := ⟨l[q]'(by rw [HF1.out.len]; exact hqn), by simp⟩
  have HR1 := Lib.hid (show R = rFunc l f.code from by rw [HR.out, if_neg (by omega), show ((q : Int)).toNat = q from rfl, hfk])
  have hcd := hcode f (List.mem_of_getElem? hfk)
  obtain ⟨fb, fo, rfl, hfbl, e0, e1, e2⟩ := HF1.out.cell hfk
  have hqI : (q : Int) < (n : Int) := by omega
  clear hfk hk0 hkn hcode e0 e1 HR
  go_wp2_with fail
  refine (gtokens_any f.code (by omega)).mono ?_
  rintro e w2 ⟨hc2, hT⟩
  have HC2 := Lib.hid (HC1.out.new hc2)
  have HF2 := Lib.hid (HF1.out.keep hc2)
  have HU2 := Lib.hid (HU1.out.keep hc2)
  clear u2 e2 hfbl
  rcases hT with ⟨ts, v2, hts, htl, rfl, ho2⟩ | ⟨hts, rfl⟩
  rotate_left
  · have hE : tokE f.code = 3 ∨ tokE f.code = 12 := by unfold tokE; split <;> simp
    have HP := Lib.hid (show FnPost R w (.returned (.tuple #[.slice none 0 0, .int .i64 (tokE f.code)])) w2 from fn_no _ (by rw [HR1.out, rFunc, hts]) HC2.out)
    clear hts hc2
    generalize tokE f.code = te at hE HP ⊢
    have qe : (te != 0) = true := by simp; omega
    clear hE
    go_wp2_with fail
    go_ret2
    exact HP.out
  obtain ⟨TA, tc, rfl, hTk⟩ := Tks.of_own ho2 (by omega)
  have HT2 := Lib.hid hTk
  have HR2 := Lib.hid (show R = match rNest (signs ts) with | none => (13, []) | some _ => rWalk l ts 0 [] [] from by rw [HR1.out, rFunc, hts]; rfl)
  clear hts hc2 ho2 hTk HR1
  obtain ⟨tn, htn⟩ : ∃ tn, tn = ts.length := ⟨_, rfl⟩
  rw [← htn] at HT2 htl ⊢
  have HTN := Lib.hid htn
  clear htn
  go_wp2_with fail
  refine (nof_any HT2.out).mono ?_
  rintro e w3 ⟨hc3, hT⟩
  have HC3 := Lib.hid (HC2.out.new hc3)
  have HF3 := Lib.hid (HF2.out.keep hc3)
  have HU3 := Lib.hid (HU2.out.keep hc3)
  have HT3 := Lib.hid (HT2.out.keep hc3)
  clear hc3
  rw [nest_same] at hT
  rcases hT with ⟨t3, d3, g3, hn3, _, rfl, _⟩ | ⟨hn3, rfl⟩
  rotate_left
  · have HP := Lib.hid (show FnPost R w (.returned (.tuple #[.slice none 0 0, .int .i64 13])) w3 from fn_no 13 (by rw [HR2.out, hn3]) HC3.out)
    clear hn3
    go_wp2_with fail
    go_ret2
    exact HP.out
  have HR3 := Lib.hid (show R = rWalk l ts 0 [] [] from by rw [HR2.out, hn3])
  have HD := Lib.hid (sOk_nest hn3)
  clear hn3
  have hN4 := Whole.new w3 185 [.int .i64 0, .slice none 0 0]
  have hal4 : Chg [] w3 (w3.alloc (.cells #[.int .i64 0, .slice none 0 0] 185)) := (Chg.refl [] w3).alloc _
  have hsz4 : (w3.alloc (.cells #[.int .i64 0, .slice none 0 0] 185)).heap.size = w3.heap.size + 1 := Array.size_push _
  go_upto_region 10 with fail
  have HC4 := Lib.hid (HC3.out.new hal4)
  have HGS := Lib.hid (show w.heap.size ≤ w3.heap.size from HC3.out.size)
  generalize w3.alloc (.cells #[.int .i64 0, .slice none 0 0] 185) = w4 at hN4 hal4 hsz4 HC4 ⊢
  have HC34 := Lib.hid hal4
  obtain ⟨gs, hgs⟩ : ∃ g, g = w3.heap.size := ⟨_, rfl⟩
  rw [← hgs] at hN4 hsz4 HGS ⊢
  have HW4 := Lib.hid (show Wk w4 gs 0 (.slice none 0 0) [] from ⟨hN4, World.ownsRow_nil _ _ _ _, by simp, by omega, fun b hb => by simp at hb⟩)
  have HG3 := Lib.hid hgs
  have HZ4 := Lib.hid hsz4
  clear hN4 hal4 hsz4 hgs HC3 HC2 HF2 HU2 HT2 HC1 HF1 HU1
  have HTL := Lib.hid htl
  have hmk : ∀ W : World, (Instr.makeSlice 22 (.int .i64 0) (.int .i64 (tn : Int))).run Try.prog W = .ok (.slice (some ⟨W.heap.size, 0, none⟩) 0 tn) (W.alloc (.cells (List.replicate tn (.int .i64 0)).toArray 3)) := fun W =>
    run_make0 (P := Try.prog) 22 3 i0 _ rfl Try.underlying22 hi0 hz0 hz1 tn (by rw [hz2]; omega) (by omega) W
  go_upto_region 12 with fail
  have hM := Whole.new w4 3 (List.replicate tn (.int .i64 0))
  have hal5 : Chg [] w4 (w4.alloc (.cells (List.replicate tn (.int .i64 0)).toArray 3)) := (Chg.refl [] w4).alloc _
  have HO4 := Lib.hid (show (w4.alloc (.cells (List.replicate tn (.int .i64 0)).toArray 3)).ownsRow (gs + 1) 3 1 (.slice (some ⟨w4.heap.size, 0, none⟩) 0 tn) 0 (nms []) from by
    have h := own_of_whole (n := 0) hM (show gs + 1 ≤ w4.heap.size from by have := HZ4.out; omega) (by simp) (Nat.zero_le tn) (by unfold maxLen; omega)
    simpa [nms] using h)
  have HW5 := Lib.hid (HW4.out.keep hal5)
  have HC5' := Lib.hid (HC4.out.new hal5)
  have HC35 := Lib.hid (HC34.out.new hal5)
  rw [show (List.replicate tn (Value.int .i64 0)).toArray = Array.replicate tn (Value.int .i64 0) from by simp] at HO4 HW5 HC5' HC35
  generalize w4.heap.size = gm at HO4 ⊢
  generalize w4.alloc (.cells (Array.replicate tn (.int .i64 0)) 3) = w5' at HO4 HW5 HC5' HC35 ⊢
  clear hM hal5 hmk HW4 HC4 HC34
  go_loopw [9, 47] (fun v i wr => ∃ (j : Nat) (h : Int) (bs : List BkV) (vo : Value) (out : List Int), i = .int .i64 (j : Int) ∧ j ≤ tn ∧ Hid (Wk wr gs h vo bs) ∧ Hid (wr.ownsRow (gs + 1) 3 1 v j (nms out)) ∧
    Hid (SOk (signs (ts.drop j)) (bs.map (·.sign))) ∧ Hid (Bas h bs) ∧ Hid (bs.length ≤ 16) ∧ Hid (R = rWalk l (ts.drop j) h bs out) ∧ Hid (Chg [] w wr) ∧ Hid (Chg [] w3 wr)) (fun _ i _ => tn - (intOf i).toNat)
  case atStart => exact ⟨0, 0, [], _, [], rfl, by omega, HW5, HO4, HD, Lib.hid ⟨by simp, fun x hx => by simp at hx, fun _ x hx => by simp at hx⟩, Lib.hid (by simp), HR3, HC5', HC35⟩
  case round =>
    obtain ⟨j, h, bs, vo, out, rfl, hj, HS, HO, HDR, HBA, HB16, HRW, HC, HCW⟩ := hrel
    obtain ⟨AO, co, rfl, _⟩ := own_slice HO.out
    by_cases hjn : j < tn
    · have hjI : (j : Int) < (tn : Int) := by omega
      obtain ⟨t, htj⟩ : ∃ t, ts[j]? = some t := ⟨ts[j]'(by rw [← HTN.out]; exact hjn), by simp⟩
      have HDJ := Lib.hid (show ts.drop j = t :: ts.drop (j + 1) from List.drop_eq_getElem?_toList_append.trans (by rw [htj]; rfl))
      have HTr := Lib.hid (HT3.out.keep HCW.out)
      obtain ⟨b, o, rfl, hbl, t0, t1, t2⟩ := HTr.out.cell htj
      clear htj
      go_upto_region 14 with fail
      have hal5 : Chg [] wr (wr.alloc (.cells #[.int .i32 t.sign, .int .i64 t.n, .int .i32 t.name] 167)) := (Chg.refl [] wr).alloc _
      have HT5 := Lib.hid (Whole.new wr 167 [.int .i32 t.sign, .int .i64 t.n, .int .i32 t.name])
      have HS5 := Lib.hid (HS.out.keep hal5)
      have HO5 := Lib.hid (rown_keep HO.out hal5)
      have HU5 := Lib.hid (HU3.out.keep (HCW.out.new hal5))
      have HC5 := Lib.hid (HC.out.new hal5)
      have HCW5 := Lib.hid (HCW.out.new hal5)
      obtain ⟨gt, hgt⟩ : ∃ g, g = wr.heap.size := ⟨_, rfl⟩
      rw [← hgt] at HT5 ⊢
      generalize wr.alloc (.cells #[.int .i32 t.sign, .int .i64 t.n, .int .i32 t.name] 167) = w5 at hal5 HT5 HS5 HO5 HU5 HC5 HCW5 ⊢
      clear hal5 hgt t0 t1 t2 hbl HTr HC HCW HO HS
      have c0 := HS5.out.rec_.cell 0
      have HAL := Lib.hid (show Chg [] w5 (w5.alloc (.cells #[.int .i64 h] 3)) from (Chg.refl [] w5).alloc _)
      have HO6 := Lib.hid (rown_keep HO5.out HAL.out)
      have HRM := Lib.hid (show gs + 1 ≤ (w5.alloc (.cells #[.int .i64 h] 3)).heap.size from by have := HAL.out.size; have := HS5.out.rec_.lt; omega)
      have hjb := HTL.out
      clear htl
      have HDD := Lib.hid (show TopS t.sign (bs.map (·.sign)) ∧ SOk (signs (ts.drop (j + 1))) (sNext t.sign (bs.map (·.sign))) from by have := HDR.out; rw [HDJ.out] at this; exact this)
      obtain ⟨RT, hRT⟩ : ∃ RT, RT = rTok l h bs t.sign t.name := ⟨_, rfl⟩
      have HRW2 := Lib.hid (show R = if RT.1 = 0 then rWalk l (ts.drop (j + 1)) RT.2.1 RT.2.2 (out ++ [h]) else (RT.1, []) from by rw [HRW.out, HDJ.out, rWalk_next, hRT])
      have HLN := Lib.hid (show RT.1 = 0 → Bas RT.2.1 RT.2.2 ∧ RT.2.2.map (·.sign) = sNext t.sign (bs.map (·.sign)) from fun he => by rw [hRT] at he ⊢; exact rTok_ok HBA.out (fun x hx => (HS5.out.rb x hx).1) HS5.out.hr he)
      have HRT := Lib.hid hRT
      clear hRT
      go_wp2_with (at_builtin
                   refine wpList_append_own _ rfl (.tmp 51) (.tmp 54) _ rfl (gs + 1) 3 i0 _ 1 8 Try.underlying22 hi0 hz0 hz1 hz2 rfl (by decide) (.slice AO j co) j (nms out) rfl HO6.out ⟨w5.heap.size, 0, none⟩ 1 1 [.int .i64 h] rfl rfl (cells_page _ _ _) (by simp [Value.oneCell']) (by simp only [maxLen]; omega) (by omega) HRM.out ?_
                   intro v' w6 ho6 hg6 _
                   obtain ⟨A6, c6, rfl, _⟩ := own_slice ho6
                   have HO7 := Lib.hid ho6
                   have HG7 := Lib.hid hg6
                   have HU6 := Lib.hid (whole_grown (HU5.out.keep HAL.out) HO6.out (by decide) hg6)
                   have HT6 := Lib.hid (whole_grown (HT5.out.keep HAL.out) HO6.out (by decide) hg6)
                   have HC6 := Lib.hid (show Chg [] w w6 from chg_grown2 (HC5.out.new HAL.out) hg6 (fun g hg => by have := (HO6.out.lt g hg).1; have := HGS.out; omega))
                   have HCW6 := Lib.hid (show Chg [] w3 w6 from chg_grown2 (HCW5.out.new HAL.out) hg6 (fun g hg => by have := (HO6.out.lt g hg).1; have := HG3.out; omega))
                   have HS7 := Lib.hid (show Wk w6 gs h vo bs from ⟨whole_grown (HS5.out.keep HAL.out).rec_ HO6.out (by decide) HG7.out, rown_grown (HS5.out.keep HAL.out).own HO6.out (by decide) HG7.out, HS5.out.few, HS5.out.hr, HS5.out.rb⟩)
                   have u0 := HU6.out.cell 0
                   have u1 := HU6.out.cell 1
                   have u2 := HU6.out.cell 2
                   have t0 := HT6.out.cell 0
                   have t1 := HT6.out.cell 1
                   have t2 := HT6.out.cell 2
                   clear ho6 hg6)
      have HTK := Lib.hid (wstep_any (pages := pages) (most := most) HS7.out (HF3.out.keep HCW6.out) t HBA.out (topS_top HDD.out.1) (by have := HB16.out; omega))
      rw [← HRT.out] at HTK
      refine HTK.out.mono ?_
      rintro e w7 ⟨hfr, rfl, hS8⟩
      have HC7 := Lib.hid (show Chg [] w w7 from ((Fr.of_chg HC6.out).trans (hfr.sub HGS.out (fun _ h => h))).chg (Nat.le_refl _))
      have HCW7 := Lib.hid (show Chg [] w3 w7 from ((Fr.of_chg HCW6.out).trans (hfr.sub (show w3.heap.size ≤ gs from by have := HG3.out; omega) (fun _ h => h))).chg (Nat.le_refl _))
      have HO8 := Lib.hid (hfr.own HO7.out (by decide))
      have HU8 := Lib.hid (hfr.whole' HU6.out (by decide))
      clear hfr u0 u1 u2 t0 t1 t2 c0
      by_cases her : RT.1 = 0
      · obtain ⟨vo8, hS9⟩ := hS8 her
        have HS9 := Lib.hid hS9
        have HR9 := Lib.hid (HRW2.out.trans (if_pos her))
        have HD9 := Lib.hid (show SOk (signs (ts.drop (j + 1))) (RT.2.2.map (·.sign)) from by rw [(HLN.out her).2]; exact HDD.out.2)
        have HBA9 := Lib.hid (HLN.out her).1
        have HB9 := Lib.hid (show RT.2.2.length ≤ 16 from by
          have h1 := congrArg List.length (HLN.out her).2
          rw [List.length_map] at h1
          rw [h1]
          have h2 := HDD.out.1
          have h3 := HB16.out
          unfold sNext
          split
          · rename_i hs; have := h2.2.2.2.2 hs; simp at this ⊢; omega
          · split
            · rename_i hs
              obtain ⟨y, hy⟩ := h2.1 hs
              have h4 := congrArg List.length hy
              simp at h4 ⊢
              omega
            · split
              · simp; omega
              · simp; exact h3)
        rw [her]
        clear hS8 hS9 her
        go_wp2_with fail
        go_roundw
        case rel => exact ⟨j + 1, RT.2.1, RT.2.2, vo8, out ++ [h], by go_num, by omega, HS9, Lib.hid (by have := HO8.out; simpa [nms] using this), HD9, HBA9, HB9, HR9, HC7, HCW7⟩
        case measure => simp [intOf]; omega
      · have qe : (RT.1 != 0) = true := by simpa using her
        have HP := Lib.hid (show FnPost R w (.returned (.tuple #[.slice none 0 0, .int .i64 RT.1])) w7 from fn_no _ (HRW2.out.trans (if_neg her)) HC7.out)
        clear hS8 her
        go_wp2_with fail
        go_ret2
        exact HP.out
    · have hjI : (tn : Int) ≤ (j : Int) := by omega
      have HRZ := Lib.hid (show R = if h ≠ 1 ∧ 0 ≤ h then (14, []) else (0, out) from by rw [HRW.out, List.drop_eq_nil_of_le (by rw [← HTN.out]; omega), rWalk])
      have c0 := HS.out.rec_.cell 0
      have hhr := HS.out.hr
      have HOW := Lib.hid (own_more_n HO.out (show w.heap.size ≤ gs + 1 from by have := HGS.out; omega))
      have HJO := Lib.hid (show j = out.length from by have := HO.out.1; simpa [nms] using this.symm)
      by_cases h1 : h = 1
      · have q1 : (h != 1) = false := by simpa using h1
        have q2 : (h != -1) = true := by simp; omega
        have HP := Lib.hid (show FnPost R w (.returned (.tuple #[.slice AO j co, .int .i64 0])) wr from by
          rw [HRZ.out, if_neg (by omega)]
          exact ⟨_, rfl, by rw [← HJO.out]; exact HOW.out, HC.out⟩)
        clear h1
        go_wp2_with fail
        go_ret2
        exact HP.out
      · have q1 : (h != 1) = true := by simpa using h1
        by_cases h0 : 0 ≤ h
        · have q0 : (h != -1) = true := by simp; omega
          have HP := Lib.hid (show FnPost R w (.returned (.tuple #[.slice none 0 0, .int .i64 14])) wr from fn_no 14 (by rw [HRZ.out, if_pos ⟨h1, h0⟩]) HC.out)
          clear h1 h0
          go_wp2_with fail
          go_ret2
          exact HP.out
        · have q0 : (h != -1) = false := by simp; omega
          have HP := Lib.hid (show FnPost R w (.returned (.tuple #[.slice AO j co, .int .i64 0])) wr from by
            rw [HRZ.out, if_neg (by omega)]
            exact ⟨_, rfl, by rw [← HJO.out]; exact HOW.out, HC.out⟩)
          clear h1 h0
          go_wp2_with fail
          go_ret2
          exact HP.out
end
end Go.Proofs.Ytfhgnoajfipjdaa
namespace Go.Proofs.Ytfhgnoajfipjdaa
open Go.RowKit
/-- What of a program is made another one. -/
structure TurnV where
  what : Int
  func : Int
  at_ : Int
  n : Int
  text : ByteArray
def turnC (t : TurnV) : List Value := [.int .i64 t.what, .int .i64 t.func, .int .i64 t.at_, .int .i64 t.n, .string t.text]
structure TurnOk (t : TurnV) : Prop where
  what : -9223372036854775808 ≤ t.what ∧ t.what ≤ 9223372036854775807
  func : -9223372036854775808 ≤ t.func ∧ t.func ≤ 9223372036854775807
  at_ : -9223372036854775808 ≤ t.at_ ∧ t.at_ ≤ 9223372036854775807
  n : -9223372036854775808 ≤ t.n ∧ t.n ≤ 9223372036854775807
  text : t.text.size ≤ 9223372036854775807
/-- What is said of a program with some things turned. -/
structure Oddly (q : Nat) (l : List FnV) : Prop where
  pos : 0 < l.length
  few : l.length ≤ 3 + q
  fn : ∀ f ∈ l, (-9223372036854775808 ≤ f.args ∧ f.args ≤ 9223372036854775807) ∧ f.code.size ≤ 1000 + 12 * q ∧ (-2147483648 ≤ f.name ∧ f.name ≤ 2147483647)
theorem Oddly.more {q q' : Nat} {l : List FnV} (h : Oddly q l) (hq : q ≤ q') : Oddly q' l := ⟨h.pos, by have := h.few; omega, fun f hf => by have := h.fn f hf; omega⟩
theorem Oddly.add {q : Nat} {l : List FnV} (h : Oddly q l) {f : FnV} (h1 : -9223372036854775808 ≤ f.args ∧ f.args ≤ 9223372036854775807) (h2 : f.code.size ≤ 1000 + 12 * (q + 1)) (h3 : -2147483648 ≤ f.name ∧ f.name ≤ 2147483647) : Oddly (q + 1) (l ++ [f]) := by
  refine ⟨by simp, by have := h.few; simp; omega, fun x hx => ?_⟩
  rcases List.mem_append.1 hx with hx | hx
  · exact (h.more (Nat.le_succ q)).fn x hx
  · rw [List.mem_singleton] at hx; subst hx; exact ⟨h1, h2, h3⟩
theorem Oddly.set {q : Nat} {l : List FnV} (h : Oddly q l) {f : FnV} (k : Nat) (h1 : -9223372036854775808 ≤ f.args ∧ f.args ≤ 9223372036854775807) (h2 : f.code.size ≤ 1000 + 12 * (q + 1)) (h3 : -2147483648 ≤ f.name ∧ f.name ≤ 2147483647) : Oddly (q + 1) (l.set k f) := by
  refine ⟨by have := h.pos; simpa using this, by have := h.few; simp; omega, fun x hx => ?_⟩
  rcases List.mem_or_eq_of_mem_set hx with hx | rfl
  · exact (h.more (Nat.le_succ q)).fn x hx
  · exact ⟨h1, h2, h3⟩
end Go.Proofs.Ytfhgnoajfipjdaa
namespace Go.Proofs.Ytfhgnoajfipjdaa
open Go.RowKit
def turnCs : List TurnV → List Value
  | [] => []
  | t :: l => turnC t ++ turnCs l
theorem turnCs_len : ∀ l, (turnCs l).length = l.length * 5
  | [] => rfl
  | t :: l => by rw [turnCs, List.length_append, turnCs_len l]; simp [turnC]; omega
theorem turnCs_get : ∀ (l : List TurnV) (k : Nat) (t : TurnV) (j : Nat), l[k]? = some t → j < 5 → (turnCs l)[k * 5 + j]? = (turnC t)[j]?
  | [], k, t, j, h, hj => by simp at h
  | u :: l, 0, t, j, h, hj => by
    simp at h; subst h
    rw [turnCs, List.getElem?_append_left (by simp [turnC]; omega)]
    congr 1; omega
  | u :: l, k + 1, t, j, h, hj => by
    simp at h
    rw [turnCs, List.getElem?_append_right (by simp [turnC]; omega)]
    rw [← turnCs_get l k t j h hj]
    congr 1; simp [turnC]; omega
/-- The slice value '.slice A n c' is the turns l. -/
structure Trn (W : World) (A : Option Addr) (n : Nat) (l : List TurnV) : Prop where
  len : l.length = n
  src : Src W A (turnCs l)
  spot : 0 < n → ∀ ad, A = some ad → ad.spot = none
  ok : ∀ t ∈ l, TurnOk t
theorem Trn.keep {W W' : World} {A : Option Addr} {n : Nat} {l : List TurnV} (h : Trn W A n l) (hc : Chg [] W W') : Trn W' A n l := ⟨h.len, h.src.keep hc, h.spot, h.ok⟩
theorem Trn.cell {W : World} {A : Option Addr} {n : Nat} {l : List TurnV} (h : Trn W A n l) {k : Nat} {t : TurnV} (hk : l[k]? = some t) : ∃ b o, A = some ⟨b, o, none⟩ ∧ b < W.heap.size ∧ W.cell? ⟨b, o + k * 5, none⟩ = some (.int .i64 t.what) ∧ W.cell? ⟨b, o + k * 5 + 1, none⟩ = some (.int .i64 t.func) ∧ W.cell? ⟨b, o + k * 5 + 2, none⟩ = some (.int .i64 t.at_) ∧ W.cell? ⟨b, o + k * 5 + 3, none⟩ = some (.int .i64 t.n) ∧ W.cell? ⟨b, o + k * 5 + 4, none⟩ = some (.string t.text) := by
  have hkl := (List.getElem?_eq_some_iff.1 hk).1
  obtain ⟨⟨b, o, s⟩, e, hb, hx⟩ := h.src (by rw [turnCs_len]; omega)
  obtain rfl : s = none := h.spot (by have := h.len; omega) _ e
  refine ⟨b, o, e, hb, ?_, ?_, ?_, ?_, ?_⟩
  · have := hx _ _ ((turnCs_get l k t 0 hk (by omega)).trans rfl); rwa [add_plain] at this
  · have := hx _ _ ((turnCs_get l k t 1 hk (by omega)).trans rfl); rwa [add_plain] at this
  · have := hx _ _ ((turnCs_get l k t 2 hk (by omega)).trans rfl); rwa [add_plain] at this
  · have := hx _ _ ((turnCs_get l k t 3 hk (by omega)).trans rfl); rwa [add_plain] at this
  · have := hx _ _ ((turnCs_get l k t 4 hk (by omega)).trans rfl); rwa [add_plain] at this
/-- A row of functions stays, if another block is written. -/
theorem Fnr.besides {W : World} {A : Option Addr} {n c : Nat} {l : List FnV} (h : Fnr W A n c l) {p : Addr} (hp : ∀ ad, A = some ad → ad.block ≠ p.block) (u : Value) : Fnr (W.setCell p u) A n c l := by
  refine ⟨h.len, fun h0 => ?_, h.cap, h.max, h.spot, h.args⟩
  obtain ⟨ad, e, hb, hx⟩ := h.src h0
  refine ⟨ad, e, by rw [size_set]; exact hb, fun j v hj => ?_⟩
  have e2 : (ad.add j).block = ad.block := by unfold Addr.add; split <;> rfl
  rw [← hx j v hj]
  exact World.cell?_of_block (w := W) (Below.heap_setCell W p u _ (by rw [e2]; exact hp ad e))
def Ranged (x : Int) : Prop := -9223372036854775808 ≤ x ∧ x ≤ 9223372036854775807
/-- What goes round in Odd: a program that lies besides two blocks. -/
structure OdR (w W : World) (g gr : Nat) (pg ms : Int) (A : Option Addr) (n c : Nat) (l : List FnV) : Prop where
  u : Whole W g 28 [.int .i64 pg, .int .i64 ms, .slice A n c]
  r : Whole W gr 28 [.int .i64 0, .int .i64 0, .slice none 0 0]
  f : Fnr W A n c l
  a : ∀ ad, A = some ad → ad.block ≠ g ∧ ad.block ≠ gr
  p : Ranged pg
  m : Ranged ms
  c : Chg [] w W
  z : w.heap.size ≤ g ∧ g < gr ∧ gr < W.heap.size
theorem OdR.keep {w W W' : World} {g gr : Nat} {pg ms : Int} {A : Option Addr} {n c : Nat} {l : List FnV} (h : OdR w W g gr pg ms A n c l) (hc : Chg [] W W') : OdR w W' g gr pg ms A n c l :=
  ⟨h.u.keep hc, h.r.keep hc, h.f.keep hc, h.a, h.p, h.m, h.c.new hc, by have := h.z; have := hc.size; omega⟩
theorem OdR.turn {w W W' : World} {g gr : Nat} {pg ms pg' ms' : Int} {A : Option Addr} {n c : Nat} {l l' : List FnV} {v : Value} {q : Nat} (h : OdR w W g gr pg ms A n c l) (hc : Chg [] W W') (hp : Ranged pg') (hm : Ranged ms') (ho : W'.ownsRow W.heap.size 51 3 v l'.length (fnCs l')) (hO : Oddly q l') (hq : q ≤ 4) :
    ∃ A' c', v = .slice A' l'.length c' ∧ OdR w (((W'.setCell ⟨g, 0, none⟩ (.int .i64 pg')).setCell ⟨g, 1, none⟩ (.int .i64 ms')).setCell ⟨g, 2, none⟩ v) g gr pg' ms' A' l'.length c' l' := by
  have hz := h.z
  obtain ⟨A', c', rfl, hF⟩ := Fnr.of_own ho (by have := hO.few; omega) (fun f hf => (hO.fn f hf).1)
  have ha : ∀ ad, A' = some ad → ad.block ≠ g ∧ ad.block ≠ gr := fun ad e => by
    subst e
    obtain ⟨_, _, e', _, _, hb⟩ := rown_slice ho
    injection e' with e1 _ _
    have := (hb ad e1.symm).2.1
    omega
  refine ⟨A', c', rfl, ?_, ((h.r.keep hc).far (by simp only; omega) _ |>.far (by simp only; omega) _).far (by simp only; omega) _, ((hF.besides (fun ad e => (ha ad e).1) _).besides (fun ad e => (ha ad e).1) _).besides (fun ad e => (ha ad e).1) _, ha, hp, hm, ?_, ?_⟩
  · have := (((h.u.keep hc).set_ 0 (.int .i64 pg')).set_ 1 (.int .i64 ms')).set_ 2 (.slice A' l'.length c')
    simpa using this
  · exact (((h.c.new hc).setCell (fun hh => by simp only at hh; omega) _).setCell (fun hh => by simp only at hh; omega) _).setCell (fun hh => by simp only at hh; omega) _
  · rw [size_set, size_set, size_set]; have := hc.size; omega
end Go.Proofs.Ytfhgnoajfipjdaa
namespace Go.Proofs.Ytfhgnoajfipjdaa
open Go.RowKit
theorem callA_add (l m : List FnV) (name : Int) (h : (callA l name).2.2 = true) : callA (l ++ m) name = callA l name := by
  unfold callA at h ⊢
  cases hk : findK name l 0 with
  | none => rw [hk] at h; simp at h
  | some k =>
    rw [findK_add l m 0 k hk]
    simp only
    obtain ⟨f, _, hf, _⟩ := findK_at hk
    rw [Nat.sub_zero] at hf
    rw [List.getElem?_append_left (List.getElem?_eq_some_iff.1 hf).1]
theorem rTakes_add (l m : List FnV) (s name : Int) (h : (rTakes l s name).2.2 = true) : rTakes (l ++ m) s name = rTakes l s name := by
  unfold rTakes at h ⊢
  by_cases h955 : s = 955
  · subst h955
    exact callA_add l m name h
  · repeat' split
    all_goals first | rfl | (rename_i hh; exact absurd hh h955)
theorem rTok_add (l m : List FnV) (h : Int) (bs : List BkV) (s name : Int) (he : (rTok l h bs s name).1 = 0) : rTok (l ++ m) h bs s name = rTok l h bs s name := by
  by_cases hs : isEnd s
  · unfold rTok; rw [if_pos hs, if_pos hs]
  · unfold rTok at he ⊢
    rw [if_neg hs] at he
    rw [if_neg hs, if_neg hs]
    by_cases h0 : h < 0
    · rw [if_pos h0, if_pos h0]
    · rw [if_neg h0] at he
      rw [if_neg h0, if_neg h0]
      cases ht : rTakes l s name with
      | mk p r =>
        obtain ⟨q, ok⟩ := r
        rw [ht] at he
        cases ok with
        | false => simp at he
        | true => rw [rTakes_add l m s name (by rw [ht]), ht]
theorem rWalk_add (l m : List FnV) : ∀ (ts : List TkV) (h : Int) (bs : List BkV) (out : List Int), (rWalk l ts h bs out).1 = 0 → rWalk (l ++ m) ts h bs out = rWalk l ts h bs out
  | [], h, bs, out, _ => by rw [rWalk, rWalk]
  | t :: ts, h, bs, out, he => by
    rw [rWalk_next] at he
    rw [rWalk_next, rWalk_next]
    by_cases h0 : (rTok l h bs t.sign t.name).1 = 0
    · rw [if_pos h0] at he
      rw [rTok_add l m h bs t.sign t.name h0, if_pos h0, if_pos h0]
      exact rWalk_add l m ts _ _ _ he
    · rw [if_neg h0] at he
      exact absurd he h0
theorem rFunc_add (l m : List FnV) (code : ByteArray) (he : (rFunc l code).1 = 0) : rFunc (l ++ m) code = rFunc l code := by
  unfold rFunc at he ⊢
  cases ht : tokR code with
  | none => rfl
  | some ts =>
    rw [ht] at he
    simp only at he ⊢
    cases hn : rNest (signs ts) with
    | none => rfl
    | some R => rw [hn] at he; exact rWalk_add l m ts 0 [] [] he
theorem GoodU.func {l : List FnV} (h : GoodU l) {k : Nat} {f : FnV} (hk : l[k]? = some f) : (rFunc l f.code).1 = 0 ∧ rFn l (k : Int) = rFunc l f.code := by
  obtain ⟨_, _, _, _, h0⟩ := h.fn k f hk
  have hlt := (List.getElem?_eq_some_iff.1 hk).1
  have e := rFunc_add (l.take (k + 1)) (l.drop (k + 1)) f.code h0
  rw [List.take_append_drop] at e
  refine ⟨by rw [e]; exact h0, ?_⟩
  unfold rFn
  rw [if_neg (by omega), show ((k : Int)).toNat = k from rfl, hk]
def Rb (bs : List BkV) : Prop := ∀ x ∈ bs, 0 ≤ x.base ∧ x.base ≤ 64 ∧ -1 ≤ x.other ∧ x.other ≤ 64
theorem rLeave_rb {h : Int} {bs : List BkV} (hb : Rb bs) (k : Nat) : Rb (rLeave h bs k).2.2 := fun x hx => by
  have hk := rLeave_map bkey (fun _ => rfl) h bs k
  have : bkey x ∈ bs.map bkey := by rw [← hk]; exact List.mem_map_of_mem hx
  obtain ⟨y, hy, e⟩ := List.mem_map.1 this
  simp only [bkey, Prod.mk.injEq] at e
  have := hb y hy
  omega
theorem cTurn_rng {h : Int} {bs : List BkV} {s : Int} (hh : -1 ≤ h ∧ h ≤ 64) (hb : Rb bs) (hpos : (s = 63 ∨ s = 91) → 0 ≤ h) (he : (cTurn h bs s).1 = 0) : (-1 ≤ (cTurn h bs s).2.1 ∧ (cTurn h bs s).2.1 ≤ 64) ∧ Rb (cTurn h bs s).2.2 := by
  by_cases hs : isEnd s
  · rcases List.eq_nil_or_concat bs with rfl | ⟨ys, x, rfl⟩
    · unfold cTurn at he
      rw [if_pos hs] at he
      simp at he
    · rw [List.concat_eq_append] at *
      rw [cTurn_end hs] at he ⊢
      obtain ⟨h1, h2⟩ := eEnd_ok he
      rw [h2]
      have hx := hb x (by simp)
      have hy : Rb ys := fun y hy => hb y (by simp [hy])
      by_cases h58 : s = 58
      · subst h58
        unfold rEnds
        rw [if_pos rfl]
        refine ⟨by simp only; omega, fun z hz => ?_⟩
        rcases List.mem_append.1 hz with hz | hz
        · exact hy z hz
        · simp at hz; subst hz; simp only; omega
      · refine ⟨?_, by rw [rEnds_ys h58]; exact hy⟩
        unfold rEnds
        rw [if_neg h58]
        split
        · split
          · simp only; omega
          · simp only; omega
        · split
          · simp only; omega
          · simp only
            split <;> omega
  · unfold cTurn at he ⊢
    rw [if_neg hs] at he ⊢
    by_cases h1 : s = 63 ∨ s = 91
    · rw [if_pos h1]
      have h0 := hpos h1
      refine ⟨hh, fun z hz => ?_⟩
      rcases List.mem_append.1 hz with hz | hz
      · exact hb z hz
      · simp at hz; subst hz; simp only; omega
    · rw [if_neg h1] at he ⊢
      by_cases h2 : s = 126
      · rw [if_pos h2] at he ⊢
        unfold lLeave at he ⊢
        have hk := rLeave_rb (h := h) hb bs.length
        have hl := rLeave_h h bs bs.length
        rcases hr : rLeave h bs bs.length with ⟨b, h', bs'⟩
        rw [hr] at hk he hl
        cases b with
        | true =>
          have e : h' = -1 := hl rfl
          exact ⟨by simp only; omega, hk⟩
        | false => simp at he
      · rw [if_neg h2]
        by_cases h3 : s = 161
        · rw [if_pos h3]; exact ⟨by simp, hb⟩
        · rw [if_neg h3]; exact ⟨hh, hb⟩
/-- A sign behind which one may go elsewhere. -/
def Odd1 (s : Int) : Prop := s = 58 ∨ s = 59 ∨ s = 93 ∨ s = 126 ∨ s = 161
theorem rTok_more {l : List FnV} {h : Int} {bs : List BkV} {s name : Int} (hb : Bas h bs) (hrb : Rb bs) (hr : -1 ≤ h ∧ h ≤ 64) (he : (rTok l h bs s name).1 = 0) :
    ((-1 ≤ (rTok l h bs s name).2.1 ∧ (rTok l h bs s name).2.1 ≤ 64) ∧ Rb (rTok l h bs s name).2.2) ∧ (0 ≤ h → ¬ Odd1 s → ∃ p q, rTakes l s name = (p, q, true) ∧ p ≤ h ∧ (rTok l h bs s name).2.1 = h - p + q) := by
  by_cases h0 : h < 0
  · rw [rTok_dead h0] at he ⊢
    by_cases hs : isEnd s
    · rw [if_pos hs] at he ⊢
      exact ⟨cTurn_rng hr hrb (fun h => by unfold isEnd at hs; omega) he, fun h => by omega⟩
    · rw [if_neg hs] at he; simp at he
  · obtain ⟨T, hT⟩ : ∃ T, T = rTakes l s name := ⟨_, rfl⟩
    obtain ⟨p, q, ok⟩ := T
    cases ok with
    | false => rw [rTok_none (by omega) hT.symm] at he; simp at he
    | true =>
      rw [rTok_alive (by omega) hr.2 (hb.base (by omega)) hT.symm] at he ⊢
      have hin := rTakes_in l s name
      rw [← hT] at hin
      simp only at hin
      have hbase : 0 ≤ baseOf bs := by
        unfold baseOf
        cases hl : bs.getLast? with
        | none => exact Int.le_refl 0
        | some x => exact (hrb x (List.mem_of_getLast? hl)).1
      by_cases hc : h - baseOf bs < p ∨ 64 < h - p + q
      · rw [if_pos hc] at he; simp at he
      · rw [if_neg hc] at he ⊢
        refine ⟨cTurn_rng (by omega) hrb (fun _ => by omega) he, fun _ ho => ⟨p, q, hT.symm, by omega, ?_⟩⟩
        unfold Odd1 at ho
        unfold cTurn
        rw [if_neg (by unfold isEnd; omega)]
        split
        · rfl
        · rw [if_neg (by omega), if_neg (by omega)]
end Go.Proofs.Ytfhgnoajfipjdaa
namespace Go.Proofs.Ytfhgnoajfipjdaa
open Go.RowKit
def sgs (ys : List TkV) : List Int := ys.map (·.sign)
end Go.Proofs.Ytfhgnoajfipjdaa
namespace Go.Proofs.Ytfhgnoajfipjdaa
open Go.RowKit
/-- Tokens from a height on, without the end. -/
def wSt (l : List FnV) : List TkV → Int → List BkV → Int × Int × List BkV
  | [], h, bs => (0, h, bs)
  | t :: ts, h, bs => if (rTok l h bs t.sign t.name).1 = 0 then wSt l ts (rTok l h bs t.sign t.name).2.1 (rTok l h bs t.sign t.name).2.2 else rTok l h bs t.sign t.name
def wEnd (q : Int × Int × List BkV) : Int := if q.1 = 0 then (if q.2.1 ≠ 1 ∧ 0 ≤ q.2.1 then 14 else 0) else q.1
theorem rWalk_st (l : List FnV) : ∀ (ts : List TkV) (h : Int) (bs : List BkV) (out : List Int), (rWalk l ts h bs out).1 = wEnd (wSt l ts h bs)
  | [], h, bs, out => by
    rw [rWalk, wSt]
    unfold wEnd
    rw [if_pos rfl]
    split <;> rfl
  | t :: ts, h, bs, out => by
    rw [rWalk_next, wSt]
    by_cases h0 : (rTok l h bs t.sign t.name).1 = 0
    · rw [if_pos h0, if_pos h0]; exact rWalk_st l ts _ _ _
    · rw [if_neg h0, if_neg h0]
      unfold wEnd
      rw [if_neg h0]
structure WInv (h : Int) (bs : List BkV) : Prop where
  b : Bas h bs
  r : Rb bs
  m : -1 ≤ h ∧ h ≤ 64
theorem WInv.nil : WInv 0 [] := ⟨⟨by simp, fun x hx => by simp at hx, fun _ x hx => by simp at hx⟩, fun x hx => by simp at hx, by omega⟩
theorem WInv.tok {l : List FnV} {h : Int} {bs : List BkV} {s name : Int} (w : WInv h bs) (he : (rTok l h bs s name).1 = 0) : WInv (rTok l h bs s name).2.1 (rTok l h bs s name).2.2 ∧ (rTok l h bs s name).2.2.map (·.sign) = sNext s (bs.map (·.sign)) := by
  obtain ⟨h1, h2⟩ := rTok_ok w.b (fun x hx => (w.r x hx).1) w.m he
  obtain ⟨⟨h3, h4⟩, _⟩ := rTok_more w.b w.r w.m he
  exact ⟨⟨h1, h4, h3⟩, h2⟩
def sEnds (ss : List Int) (st : List Int) : List Int := ss.foldl (fun st s => sNext s st) st
theorem WInv.run {l : List FnV} : ∀ (ts : List TkV) {h : Int} {bs : List BkV}, WInv h bs → (wSt l ts h bs).1 = 0 → WInv (wSt l ts h bs).2.1 (wSt l ts h bs).2.2 ∧ (wSt l ts h bs).2.2.map (·.sign) = sEnds (sgs ts) (bs.map (·.sign))
  | [], h, bs, w, _ => ⟨w, rfl⟩
  | t :: ts, h, bs, w, he => by
    rw [wSt] at he ⊢
    by_cases h0 : (rTok l h bs t.sign t.name).1 = 0
    · rw [if_pos h0] at he ⊢
      obtain ⟨h1, h2⟩ := w.tok h0
      obtain ⟨h3, h4⟩ := WInv.run ts h1 he
      refine ⟨h3, ?_⟩
      rw [h4, h2]
      rfl
    · rw [if_neg h0] at he; exact absurd he h0
end Go.Proofs.Ytfhgnoajfipjdaa
