/-
  Layer 17: sector, known.
-/
import Derived.Test.YtlhkmbcjgdjegaaHomeSame
import Derived.Deep.RegionHeld3
namespace Go.Proofs.Ytlhkmbcjgdjegaa
open Go.RowKit
def secL (x : UInt8) : List UInt8 := (zeros 64).set 0 x
theorem secL_len (x : UInt8) : (secL x).length = 64 := by simp [secL, zeros_len]
theorem make64 (W : World) : (Instr.makeSlice 22 (.int .i64 64) (.int .i64 64)).run Try.prog W = .ok (.slice (some ⟨W.heap.size, 0, none⟩) 64 64) (W.alloc (.cells (bts (zeros 64)).toArray 5)) := make_u8 64 (by omega) W
section
variable {P : Program} {T : Turns} {w0 : World} {a0 : Act} {ops : List Oper} {Q : Exit → Act → World → Prop} {F : Said} {k : Nat} {rest : List Oper}
  {d : Option Tmp} {ty : TypeId} {pos : String} {af : Array Edge} {g : Option (Nat × Bool)}
/-- An operation over constants alone. -/
theorem flow0 {o : Oper} {r : Value} (hT : T.Ok) (hg : guardIs ops F true o) (hrun : ∀ ev W, EvOk ev → (execOp ev o).run P W = .ok (.value r) W)
    (h : Flow P T w0 a0 ops Q ((o.dst, isV r) :: F) (k + 1) rest) : Flow P T w0 a0 ops Q F k (o :: rest) :=
  flow_op (isV r) (keeps_isV r) (.inr (keeps_isV r)) hg (fun ev W he _ _ => by
    rw [hrun ev W he]
    exact ⟨hT.by_refl k W, rfl⟩) h
/-- len of a row of rows. -/
theorem flow_len_rows {t : Tmp} {B : Nat} {ls : List (List UInt8)} {ats : Array TypeId} (n : Nat) (hn : ls.length = n) (hT : T.Ok) (hs : look F t = some (rowsF B ls))
    (hrun : ∀ ev W A c, EvOk ev → ev (.tmp t) = .slice A n c → (execOp ev ⟨d, .call { callee := .builtin .len, args := #[.tmp t], argTypes := ats }, ty, pos, af, g⟩).run P W = .ok (.value (.int .i64 (n : Int))) W)
    (hg : guardIs ops F true ⟨d, .call { callee := .builtin .len, args := #[.tmp t], argTypes := ats }, ty, pos, af, g⟩) (h : Flow P T w0 a0 ops Q ((d, isV (.int .i64 (n : Int))) :: F) (k + 1) rest) :
    Flow P T w0 a0 ops Q F k (⟨d, .call { callee := .builtin .len, args := #[.tmp t], argTypes := ats }, ty, pos, af, g⟩ :: rest) := by
  refine flow_op _ (keeps_isV _) (.inr (keeps_isV _)) hg (fun ev W he hW hf => ?_) h
  have hf1 : factOf a0 F (.tmp t) (ev (.tmp t)) W := hf.1
  simp only [factOf, hs] at hf1
  obtain ⟨vs, hf2, _⟩ := hf1
  obtain ⟨A, c, e1, _⟩ := own_slice hf2
  rw [hn] at e1
  rw [hrun ev W A c he e1]
  exact ⟨hT.by_refl k W, rfl⟩
end
section
variable {w : World}
set_option maxHeartbeats 1000000 in
theorem hsector_any (x : UInt8) : Calls Try.prog 16 #[.int .u8 (x.toNat : Int)] w fun e w' => e = .returned (.slice (some ⟨w.heap.size, 0, none⟩) 64 64) ∧ Whole w' w.heap.size 5 (bts (secL x)) ∧ Chg [] w w' := by
  have hmk := make64
  have hx := x.toNat_lt
  go_enter Try.func16, Try.ntmps16
  have hz : (bts (zeros 64))[0]? = some (.int .u8 0) := by rw [bts_zeros]; rfl
  go_wp2_with fail
  go_ret
  refine ⟨rfl, ?_, (Chg.refl _ _).alloc _⟩
  have e : (bts (zeros 64)).set 0 (.int .u8 (x.toNat : Int)) = bts (secL x) := bts_set (zeros 64) 0 x
  rw [← e]
  exact Whole.new w 5 _
theorem hsector9 : Calls Try.prog 16 #[.int .u8 9] w fun e w' => e = .returned (.slice (some ⟨w.heap.size, 0, none⟩) 64 64) ∧ Whole w' w.heap.size 5 (bts (secL 9)) ∧ Chg [] w w' := hsector_any 9
theorem bs64 {w : World} {g : Nat} {l : List UInt8} (h : Whole w g 5 (bts l)) (hl : l.length = 64) : Bs w (some ⟨g, 0, none⟩) 64 64 l := by
  have := Bs.of_all h (by omega)
  rwa [hl] at this
def hz8 : St := ⟨zeros 512, zeros 512, falses 8⟩
def hz8' : St := hz8.write 5 (secL 9)
theorem hz8_len : hz8.V.length = 8 := by simp [hz8, falses_len]
theorem hz8'_len : hz8'.V.length = 8 := by simp [hz8', St.write, hz8, falses_len]
theorem hz8_has : hasR 2 3 4 1 hz8.V.length = true := by rw [hz8_len]; decide +kernel
theorem hz8_home : (homeI 2 3 1).toNat = 5 := by decide +kernel
theorem hz8'_sect : sectL hz8'.S hz8'.V.length 5 = secL 9 := by rw [hz8'_len]; decide +kernel
theorem hz8'_sect2 : (hz8'.S.drop (5 * 64)).take 64 = secL 9 := by decide +kernel
theorem hz8'_all : (allL hz8' 2 3 4).length = 3 := by unfold allL; rw [hz8'_len, if_pos (by decide +kernel), pagesL_len]; rfl
theorem hz8'_none : (allL hz8' 0 0 0).length = 0 := by unfold allL; rw [hz8'_len, if_neg (by decide +kernel)]; rfl
/-- Behind the Put. -/
def KnownPut (w2 : World) (p bL bS bW : Nat) (v : Value) (wx : World) : Prop := v = .bool true ∧ DskS wx p bL bS bW hz8' ∧ Chg [bS, bW] w2 wx
set_option maxHeartbeats 1000000 in
set_option maxRecDepth 100000 in
theorem hknown_any : Calls Try.prog 17 #[] w (LawPost w) := by
  go_enter Try.func17, Try.ntmps17
  go_wp2_with fail
  refine (new_yes 8 (by omega) (by omega)).mono ?_
  rintro e w1 ⟨p, bL, bS, bW, rfl, hD, b1, b2, b3, b4, hc1⟩
  have hD0 : DskS w1 p bL bS bW hz8 := hD
  have HB := Lib.hid (show p < w1.heap.size ∧ bS < w1.heap.size ∧ bW < w1.heap.size from ⟨hD.rec_.lt, hD.seen.lt, hD.wait.lt⟩)
  have HB0 := Lib.hid (show w.heap.size ≤ bS ∧ w.heap.size ≤ bW from ⟨b3, b4⟩)
  have HD1 := Lib.hid hD0
  have HC1 := Lib.hid hc1
  clear hD hD0 b1 b2 b3 b4 hc1
  go_upto_region 5 with fail
  have hR := Whole.new w1 26 [.int .i64 2, .int .i64 3, .int .u32 4]
  have hc2 : Chg [] w1 (w1.alloc (.cells #[.int .i64 2, .int .i64 3, .int .u32 4] 26)) := (Chg.refl [] w1).alloc _
  obtain ⟨g, hg⟩ : ∃ g, g = w1.heap.size := ⟨_, rfl⟩
  rw [← hg] at hR ⊢
  generalize w1.alloc (.cells #[.int .i64 2, .int .i64 3, .int .u32 4] 26) = w2 at hc2 hR ⊢
  have HG := Lib.hid (show g ≠ bS ∧ g ≠ bW by have := HB.out; omega)
  have HR2 := Lib.hid hR
  have HD2 := Lib.hid (Dsk.keep HD1.out hc2)
  have HC2 := Lib.hid (HC1.out.new hc2)
  clear hg hc2 HB
  have hgl := hR.lt
  obtain ⟨c0, c1, c2, _, _, _⟩ := root_cells hR
  clear hR
  go_cut [3] (fun s3 wx => KnownPut w2 p bL bS bW s3 wx)
  case first =>
    go_region_with (first
      | (go_at_call 16
         refine hsector9.mono ?_
         rintro e w' ⟨rfl, hW', hc'⟩
         have d0 := cell_keep c0 (wdrew hc')
         have d1 := cell_keep c1 (wdrew hc')
         have d2 := cell_keep c2 (wdrew hc'))
      | (go_at_call 20
         refine (hput_any (Dsk.keep HD2.out (wdrew (by assumption))) 2 3 4 1 (bs64 (by assumption) (secL_len 9))).mono ?_
         rintro e w' (⟨_, _, rfl, hD', hcP⟩ | ⟨hno, _⟩)
         rotate_left
         · exact absurd ⟨hz8_has, secL_len 9⟩ hno))
    all_goals go_wp2_with fail
    all_goals go_meet
    all_goals exact ⟨rfl, (by rw [hz8_home] at hD'; exact hD'), ((wdrew hc').sub (by simp)).trans hcP⟩
  case rest =>
    obtain ⟨rfl, hD3, hc3⟩ := hcut
    obtain ⟨w3, rfl⟩ : ∃ w3 : World, w3 = wc := ⟨_, rfl⟩
    have HD3 := Lib.hid hD3
    have HR3 := Lib.hid (HR2.out.chg hc3 (not2' HG.out.1 HG.out.2))
    have HC3 := Lib.hid (HC2.out.then_ hc3 fun i hi hlt => by
      rcases (by simpa using hi : i = bS ∨ i = bW) with e | e
      · have := HB0.out.1; omega
      · have := HB0.out.2; omega)
    clear hD3 hc3 c0 c1 c2 hgl
    obtain ⟨c0, c1, c2, _, _, _⟩ := root_cells HR3.out
    go_wp2_with fail
    refine (hpage_any HD3.out 2 3 4 1).mono ?_
    rintro e w4 (⟨_, v4, rfl, ho4, hc4⟩ | ⟨hno, _⟩)
    rotate_left
    · rw [show hasR 2 3 4 1 hz8'.V.length = true by rw [hz8'_len, ← hz8_len]; exact hz8_has] at hno; cases hno
    rw [hz8_home, hz8'_sect] at ho4
    obtain ⟨g4, r4, rfl, -, hW4, hcap⟩ := own_whole ho4 (by omega)
    have HW4 := Lib.hid hW4
    unfold maxLen at hcap
    obtain ⟨c4, hc4e⟩ : ∃ c, c = 64 + r4.length := ⟨_, rfl⟩
    rw [← hc4e] at hcap ⊢
    have hc64 : 64 ≤ c4 := by omega
    have hc41 : ¬ c4 = 1 := by omega
    clear hc4e
    have HD4 := Lib.hid (Dsk.keep HD3.out hc4)
    have HR4 := Lib.hid (HR3.out.keep hc4)
    have HC4 := Lib.hid (HC3.out.new hc4)
    clear hW4 ho4 hc4 c0 c1 c2
    obtain ⟨c0, c1, c2, _, _, _⟩ := root_cells HR4.out
    go_wp2_with fail
    refine (hpage_any HD4.out 2 3 4 (-1)).mono ?_
    rintro e w5 (⟨hyes, _⟩ | ⟨_, rfl, hc5⟩)
    · rw [hasR_out (.inl (by omega))] at hyes; cases hyes
    have HD5 := Lib.hid (Dsk.keep HD4.out hc5)
    have HR5 := Lib.hid (HR4.out.keep hc5)
    have HC5 := Lib.hid (HC4.out.new hc5)
    have HW5 := Lib.hid (HW4.out.keep hc5)
    clear hc5 c0 c1 c2
    go_wp2_with fail
    refine (read_yes HD5.out 5 (by rw [hz8'_len]; omega)).mono ?_
    rintro e wz ⟨rfl, hW6, hc6⟩
    rw [hz8'_sect2] at hW6
    have HDz := Lib.hid (Dsk.keep HD5.out hc6)
    have HRz := Lib.hid (HR5.out.keep hc6)
    have HCz := Lib.hid (HC5.out.new hc6)
    have HWz := Lib.hid (HW5.out.keep hc6)
    have HP2 := Lib.hid (bs64 hW6 (secL_len 9))
    have HP := Lib.hid (Bs.of_whole (n := 64) (cap := c4) HWz.out (secL_len 9) (by rw [List.take_left' (by rw [bts_len, secL_len])]) hc64 hcap)
    have HPc : Hid (Bs wz (some ⟨g4, 1, none⟩) 63 (c4 - 1) _) := Lib.hid (by have := HP.out.cut (lo := 1) (hi := 64) (by omega) (by omega); rwa [if_neg hc41, Option.map_some, add_plain] at this)
    have HQ := Lib.hid (show wz.cell? ⟨g4, 0, none⟩ = some (.int .u8 9) by rw [HWz.out.cell 0]; rfl)
    clear hW6 hc6
    have hld := fun (W : World) (hW : Chg [] wz.drew W) => root_cells (HRz.out.drew.keep hW)
    go_wp2_with fail
    refine wp_flow (by kernel_rfl) plainT plainT_ok (by kernel_rfl) ?_
    refine flow_move_out plainT_ok rfl rfl rfl ?_
    refine flow_move plainT_ok rfl (keeps_isV _) (.inr (keeps_isV _)) rfl ?_
    refine flow_move_out plainT_ok rfl rfl rfl ?_
    refine flow_and plainT_ok rfl rfl rfl ?_
    refine flow_move plainT_ok rfl (keeps_isV _) (.inr (keeps_isV _)) rfl ?_
    refine flow_move_out plainT_ok rfl rfl rfl ?_
    refine flow_lend plainT_ok (.inn rfl) (fun ev W he e1 => by go_simp) rfl ?_
    refine flow_eql plainT_ok (.inn rfl) (.const _) (fun ev W he e1 e2 => by go_simp) rfl ?_
    refine flow_and plainT_ok rfl rfl rfl ?_
    refine flow_move plainT_ok rfl (keeps_isV _) (.inr (keeps_isV _)) rfl ?_
    refine flow_move_out plainT_ok rfl rfl rfl ?_
    refine flow2 (r := .pointer (some ⟨g4, 0, none⟩)) plainT_ok rfl (.inn rfl) (.const _) rfl (fun ev W he e1 e2 => by go_simp) ?_
    refine flow1h (r := .int .u8 9) plainT_ok rfl (.inn rfl) rfl (fun ev W he hW e1 => by have q0 := cell_keep HQ.out (wdrew hW); go_simp) ?_
    refine flow_eql plainT_ok (.inn rfl) (.const _) (fun ev W he e1 e2 => by go_simp) rfl ?_
    refine flow_and plainT_ok rfl rfl rfl ?_
    refine flow_move plainT_ok rfl (keeps_isV _) (.inr (keeps_isV _)) rfl ?_
    refine flow_move_out plainT_ok rfl rfl rfl ?_
    refine flow1 (r := .bool true) plainT_ok rfl (.inn rfl) rfl (fun ev W he e1 => by go_simp) ?_
    refine flow_and plainT_ok rfl rfl rfl ?_
    refine flow_move plainT_ok rfl (keeps_isV _) (.inr (keeps_isV _)) rfl ?_
    refine flow_move_out plainT_ok rfl rfl rfl ?_
    refine flow_strd plainT_ok (.inn rfl) (fun W hW => HP.out.keep (wdrew hW)) Try.underlying22 Try.underlying5 Try.underlying9 rfl ?_
    refine flow_move_out plainT_ok rfl rfl rfl ?_
    refine flow_strd plainT_ok (.inn rfl) (fun W hW => HP2.out.keep (wdrew hW)) Try.underlying22 Try.underlying5 Try.underlying9 rfl ?_
    refine flow_eql plainT_ok (.inn rfl) (.inn rfl) (fun ev W he e1 e2 => by go_simp) rfl ?_
    refine flow_and plainT_ok rfl rfl rfl ?_
    refine flow_move plainT_ok rfl (keeps_isV _) (.inr (keeps_isV _)) rfl ?_
    refine flow_move_out plainT_ok rfl rfl rfl ?_
    refine flow1h (r := rootV 2 3 4) plainT_ok rfl (.out rfl rfl) rfl (fun ev W he hW e1 => by obtain ⟨c0, c1, c2, _, _, _⟩ := hld W hW; go_simp; rfl) ?_
    refine flow_move_out plainT_ok rfl rfl rfl ?_
    refine flow_slice_lo (r := .slice (some ⟨g4, 1, none⟩) 63 (c4 - 1)) plainT_ok (.inn rfl) (.const _) (fun ev W he e1 e2 => by go_simp) rfl ?_
    refine flow_callv (.bool false) (by kernel_rfl) rfl (.cons (.inn rfl) (.cons (.inn rfl) (.cons (.const _) (.cons (.inn rfl) .nil)))) (fun W hW => (hput_any (Dsk.keep HDz.out (wdrew hW)) 2 3 4 1 (HPc.out.keep (wdrew hW))).mono ?_) ?_
    · rintro e w' (⟨_, hb, _⟩ | ⟨_, rfl, hc⟩)
      · exact absurd hb (by rw [HPc.out.len]; omega)
      · exact ⟨rfl, hc⟩
    refine flow1 (r := .bool true) plainT_ok rfl (.inn rfl) rfl (fun ev W he e1 => by go_simp) ?_
    refine flow_and plainT_ok rfl rfl rfl ?_
    refine flow_move plainT_ok rfl (keeps_isV _) (.inr (keeps_isV _)) rfl ?_
    refine flow_move_out plainT_ok rfl rfl rfl ?_
    refine flow1h (r := rootV 2 3 4) plainT_ok rfl (.out rfl rfl) rfl (fun ev W he hW e1 => by obtain ⟨c0, c1, c2, _, _, _⟩ := hld W hW; go_simp; rfl) ?_
    refine flow_calld (rowsF wz.drew.heap.size (allL hz8' 2 3 4)) (keeps_rows _ _) (.inr (keeps_rows _ _)) (by kernel_rfl) rfl (.cons (.inn rfl) (.cons (.inn rfl) .nil)) (fun W hW => (hall_any (Dsk.keep HDz.out (wdrew hW)) 2 3 4).mono ?_) ?_
    · rintro e w' ⟨v, us, rfl, ho, hr, hc⟩; exact ⟨v, rfl, hc, us, own_more ho hW.size, hr.more hW.size⟩
    refine flow_len_rows 3 hz8'_all plainT_ok rfl (fun ev W A c he e1 => by go_simp) rfl ?_
    refine flow_eql plainT_ok (.inn rfl) (.const _) (fun ev W he e1 e2 => by go_simp) rfl ?_
    refine flow_and plainT_ok rfl rfl rfl ?_
    refine flow_move plainT_ok rfl (keeps_isV _) (.inr (keeps_isV _)) rfl ?_
    refine flow_move_out plainT_ok rfl rfl rfl ?_
    refine flow0 (r := rootV 0 0 0) plainT_ok rfl (fun ev W he => by go_simp; rfl) ?_
    refine flow_calld (rowsF wz.drew.heap.size (allL hz8' 0 0 0)) (keeps_rows _ _) (.inr (keeps_rows _ _)) (by kernel_rfl) rfl (.cons (.inn rfl) (.cons (.inn rfl) .nil)) (fun W hW => (hall_any (Dsk.keep HDz.out (wdrew hW)) 0 0 0).mono ?_) ?_
    · rintro e w' ⟨v, us, rfl, ho, hr, hc⟩; exact ⟨v, rfl, hc, us, own_more ho hW.size, hr.more hW.size⟩
    refine flow_len_rows 0 hz8'_none plainT_ok rfl (fun ev W A c he e1 => by go_simp) rfl ?_
    refine flow_eql plainT_ok (.inn rfl) (.const _) (fun ev W he e1 e2 => by go_simp) rfl ?_
    refine flow_and plainT_ok rfl rfl rfl ?_
    refine flow_assign plainT_ok rfl (keeps_isV _) (.inr (keeps_isV _)) rfl ?_
    intro vs W hW hF
    have e0 : vs 0 = .bool true := hF 0 _ rfl rfl
    simp only [putAll, Act.put, List.setIfInBounds_toArray, List.set_cons_zero, List.set_cons_succ, e0]
    have HCW := Lib.hid (HCz.out.new (wdrew hW))
    clear hW hF hld
    go_wp2_with fail
    go_ret
    exact ⟨rfl, HCW.out⟩
end
end Go.Proofs.Ytlhkmbcjgdjegaa
