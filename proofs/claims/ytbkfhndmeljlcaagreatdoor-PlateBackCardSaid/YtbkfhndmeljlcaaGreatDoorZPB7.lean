/-
  PB: Value.
-/
import Derived.Test.YtbkfhndmeljlcaaGreatDoorZPB6
import Derived.Deep.DeepCutAuto
namespace Go.Proofs.YtbkfhndmeljlcaaGreatDoor
open Go.RowKit
def vb : Nat → Nat
  | 0 => 60
  | d + 1 => 3 * vb d + 20
theorem vb_le (d : Nat) (h : d ≤ 4) : vb d ≤ 10000 ∧ 60 ≤ vb d := by
  have : d = 0 ∨ d = 1 ∨ d = 2 ∨ d = 3 ∨ d = 4 := by omega
  rcases this with rfl | rfl | rfl | rfl | rfl <;> decide
/-- Some text of at most m bytes, and the tape further on. -/
def TapPost (m p : Nat) (A : Option Addr) (n c : Nat) (l : List Int) (w : World) (e : Ending) (w' : World) : Prop :=
  ∃ s : ByteArray, e = .returned (.string s) ∧ s.size ≤ m ∧ (∃ j, Tp w' p A n c l j) ∧ Chg [p] w w'
theorem TapPost.more {m m' p : Nat} {A : Option Addr} {n c : Nat} {l : List Int} {w : World} {e : Ending} {w' : World} (h : TapPost m p A n c l w e w') (hm : m ≤ m') : TapPost m' p A n c l w e w' := by
  obtain ⟨s, h1, h2, h3⟩ := h
  exact ⟨s, h1, Nat.le_trans h2 hm, h3⟩
/-- The texts of an operator. -/
def opV : List Value := [.string ⟨#[43]⟩, .string ⟨#[45]⟩, .string ⟨#[42]⟩, .string ⟨#[38]⟩, .string ⟨#[124]⟩, .string ⟨#[94]⟩, .string ⟨#[60]⟩, .string ⟨#[61]⟩, .string ⟨#[47]⟩, .string ⟨#[37]⟩, .string ⟨#[194, 171]⟩, .string ⟨#[194, 187]⟩]
def onV : List Value := [.string ⟨#[33]⟩, .string ⟨#[46, 43]⟩, .string ⟨#[194, 169]⟩, .string ⟨#[64]⟩, .string ⟨#[207, 128, 113]⟩, .string ⟨#[46, 44]⟩, .string ⟨#[194, 164]⟩]
def numV : List Value := [.int .i64 0, .int .i64 1, .int .i64 2, .int .i64 3, .int .i64 8, .int .i64 60, .int .i64 64, .int .i64 255, .int .i64 1000, .int .i64 7]
theorem opV_all : ∀ x ∈ opV, IsTxt 3 x := by intro x h; simp only [opV, List.mem_cons, List.not_mem_nil, or_false] at h; rcases h with rfl | rfl | rfl | rfl | rfl | rfl | rfl | rfl | rfl | rfl | rfl | rfl <;> exact ⟨_, rfl, by decide⟩
theorem onV_all : ∀ x ∈ onV, IsTxt 3 x := by intro x h; simp only [onV, List.mem_cons, List.not_mem_nil, or_false] at h; rcases h with rfl | rfl | rfl | rfl | rfl | rfl | rfl <;> exact ⟨_, rfl, by decide⟩
theorem numV_all : ∀ x ∈ numV, IsNum 10000 x := by
  intro x h; simp only [numV, List.mem_cons, List.not_mem_nil, or_false] at h
  rcases h with rfl | rfl | rfl | rfl | rfl | rfl | rfl | rfl | rfl | rfl
  · exact ⟨0, rfl, by decide⟩
  · exact ⟨1, rfl, by decide⟩
  · exact ⟨2, rfl, by decide⟩
  · exact ⟨3, rfl, by decide⟩
  · exact ⟨8, rfl, by decide⟩
  · exact ⟨60, rfl, by decide⟩
  · exact ⟨64, rfl, by decide⟩
  · exact ⟨255, rfl, by decide⟩
  · exact ⟨1000, rfl, by decide⟩
  · exact ⟨7, rfl, by decide⟩
/-- '+' of two texts, by the size alone. -/
theorem addS (a b : ByteArray) (m k : Nat) (ha : a.size ≤ m) (hb : b.size ≤ k) (h : m + k ≤ 1000000) : ∃ y : ByteArray, y.size ≤ m + k ∧ ∀ W, (Op.stringOp .add a b).run Tryz.prog W = .ok (.string y) W :=
  ⟨a ++ b, by rw [ByteArray.size_append']; omega, fun W => run_string_add_sum W a b (by omega)⟩
theorem row_get {l : List Value} {φ : Value → Prop} (h : ∀ x ∈ l, φ x) (i : Nat) (hi : i < l.length) : ∃ u, l[i]? = some u ∧ φ u := ⟨l[i], by simp [hi], h _ (List.getElem_mem hi)⟩
section
variable {p n c : Nat} {A : Option Addr} {l : List Int} {FA : Option Addr} {fn fc : Nat} {fl : List FnV}
/-- What value answers at depth deep. -/
def ValOk (p : Nat) (A : Option Addr) (n c : Nat) (l : List Int) (FA : Option Addr) (fn fc : Nat) (fl : List FnV) (d : Nat) : Prop :=
  ∀ (deep : Int) (W : World) (j : Nat), deep ≤ d → -10 ≤ deep → Tp W p A n c l j → Fns W p FA fn fc fl → Calls Tryz.prog 37 #[.pointer (some ⟨p, 0, none⟩), .int .i64 deep, .slice FA fn fc] W (TapPost (vb d) p A n c l W)
set_option maxHeartbeats 4000000 in
set_option maxRecDepth 100000 in
theorem value_step (d : Nat) (hd : d ≤ 4) (IH : ∀ d', d' < d → ValOk p A n c l FA fn fc fl d') : ValOk p A n c l FA fn fc fl d := by
  intro deep w j hdd hd0 hT hF
  obtain ⟨hb1, hb2⟩ := vb_le d hd
  have HB2 := Lib.hid hb2
  have HB1 := Lib.hid hb1
  clear hb1 hb2
  have HF := Lib.hid hF
  have hmax := hF.max
  clear hF
  go_enter Tryz.func37, Tryz.ntmps37
  go_wp2_with fail
  refine (next_any hT 14 (by omega) (by omega)).mono ?_
  rintro e w1 ⟨r, a1, hr, rfl, hT1, hc1⟩
  have HC1 := Lib.hid hc1
  have HF1 := Lib.hid (HF.out.keep hc1)
  have HT1 := Lib.hid hT1
  have hp1 := hT1.lt
  clear hc1 hT1 hT
  by_cases h0 : deep ≤ 0
  · have h17 : decide (deep ≤ 0) = true := by simpa using h0
    clear IH
    · go_upto_region 3 with fail
      have hG := Whole.new w1 3 numV
      have hal : Chg [] w1 (w1.alloc (.cells numV.toArray 3)) := (Chg.refl [] w1).alloc _
      have HT2 := Lib.hid (HT1.out.keep hal)
      have HC2 := Lib.hid (HC1.out.trans (hal.sub (T' := [p]) (by simp)))
      have hgp : w1.heap.size ≠ p := by omega
      clear hal
      go_wp2_with fail
      refine (next_any HT2.out 10 (by omega) (by omega)).mono ?_
      rintro e w3 ⟨r3, a3, hr3, rfl, hT3, hc3⟩
      have hG3 := hG.chg hc3 (by simpa using hgp)
      obtain ⟨u, hu, x, rfl, hx⟩ := row_get numV_all r3 (by exact hr3)
      have c3 := (hG3.cell r3).trans hu
      have HT3 := Lib.hid hT3
      have HC3 := Lib.hid (HC2.out.trans hc3)
      clear hG hG3 hc3 hT3 hu
      go_wp2_with fail
      refine (digits_any 3 x (by omega) (by omega) w3).mono ?_
      rintro e w4 ⟨s, rfl, hs, hc4⟩
      have HT4 := Lib.hid (HT3.out.keep hc4)
      have HC4 := Lib.hid (HC3.out.trans (hc4.sub (T' := [p]) (by simp)))
      clear hc4 c3
      obtain ⟨y, hy, hadd⟩ := addS ⟨#[32]⟩ s 1 16 (by decide) hs (by omega)
      have hadd4 := hadd w4
      clear hadd
      go_wp2_with fail
      go_ret
      exact ⟨y, rfl, by have := HB2.out; omega, ⟨_, HT4.out⟩, HC4.out⟩
  · have h17 : decide (deep ≤ 0) = false := by simpa using h0
    by_cases h3 : r < 3
    · have h19 : decide ((r : Int) < 3) = true := by simp; omega
      clear IH
      go_upto_region 3 with fail
      have hG := Whole.new w1 3 numV
      have hal : Chg [] w1 (w1.alloc (.cells numV.toArray 3)) := (Chg.refl [] w1).alloc _
      have HT2 := Lib.hid (HT1.out.keep hal)
      have HC2 := Lib.hid (HC1.out.trans (hal.sub (T' := [p]) (by simp)))
      have hgp : w1.heap.size ≠ p := by omega
      clear hal
      go_wp2_with fail
      refine (next_any HT2.out 10 (by omega) (by omega)).mono ?_
      rintro e w3 ⟨r3, a3, hr3, rfl, hT3, hc3⟩
      have hG3 := hG.chg hc3 (by simpa using hgp)
      obtain ⟨u, hu, x, rfl, hx⟩ := row_get numV_all r3 (by exact hr3)
      have c3 := (hG3.cell r3).trans hu
      have HT3 := Lib.hid hT3
      have HC3 := Lib.hid (HC2.out.trans hc3)
      clear hG hG3 hc3 hT3 hu
      go_wp2_with fail
      refine (digits_any 3 x (by omega) (by omega) w3).mono ?_
      rintro e w4 ⟨s, rfl, hs, hc4⟩
      have HT4 := Lib.hid (HT3.out.keep hc4)
      have HC4 := Lib.hid (HC3.out.trans (hc4.sub (T' := [p]) (by simp)))
      clear hc4 c3
      obtain ⟨y, hy, hadd⟩ := addS ⟨#[32]⟩ s 1 16 (by decide) hs (by omega)
      have hadd4 := hadd w4
      clear hadd
      go_wp2_with fail
      go_ret
      exact ⟨y, rfl, by have := HB2.out; omega, ⟨_, HT4.out⟩, HC4.out⟩
    · have h19 : decide ((r : Int) < 3) = false := by simp; omega
      obtain ⟨d, rfl⟩ : ∃ x, d = x + 1 := ⟨d - 1, by omega⟩
      have HV := Lib.hid (IH d (by omega))
      have HB3 := Lib.hid (show vb (d + 1) = 3 * vb d + 20 from rfl)
      have HW := Lib.hid (fun d' (h : d' < d + 1) => IH d' h)
      clear IH
      by_cases h6 : r < 6
      · have q30 : decide ((r : Int) < 6) = true := by simp; omega
        go_wp2_with fail
        refine (next_any HT1.out 4 (by omega) (by omega)).mono ?_
        rintro e w2 ⟨x, j2, hx, rfl, hT2, hc2⟩
        have HT2 := Lib.hid hT2
        have HF2 := Lib.hid (HF1.out.keep hc2)
        have HC2 := Lib.hid (HC1.out.trans hc2)
        have hp2 := hT2.lt
        clear hT2 hc2
        go_wp2_with fail
        go_ret
        exact ⟨_, rfl, by have := HB2.out; have := encode_le4 (97 + (x : Int)); omega, ⟨_, HT2.out⟩, HC2.out⟩
      · have q30 : decide ((r : Int) < 6) = false := by simp; omega
        by_cases h9 : r < 9
        · have q38 : decide ((r : Int) < 9) = true := by simp; omega
          go_upto_region 7 with fail
          have hG := Whole.new w1 9 opV
          have hal : Chg [] w1 (w1.alloc (.cells opV.toArray 9)) := (Chg.refl [] w1).alloc _
          have HTa := Lib.hid (HT1.out.keep hal)
          have HCa := Lib.hid (HC1.out.trans (hal.sub (T' := [p]) (by simp)))
          have HFa := Lib.hid (HF1.out.keep (hal.sub (T' := [p]) (by simp)))
          have hgp : w1.heap.size ≠ p := by omega
          clear hal
          go_wp2_with fail
          refine (next_any HTa.out 12 (by omega) (by omega)).mono ?_
          rintro e w2 ⟨r3, j2, hr3, rfl, hT2, hc2⟩
          have hG3 := hG.chg hc2 (by simpa using hgp)
          obtain ⟨u, hu, s, rfl, hs⟩ := row_get opV_all r3 (by exact hr3)
          have c3 := (hG3.cell r3).trans hu
          have HT2 := Lib.hid hT2
          have HC2 := Lib.hid (HCa.out.trans hc2)
          have HF2 := Lib.hid (HFa.out.keep hc2)
          have hp2 := hT2.lt
          clear hG hG3 hc2 hT2 hu HTa HCa HFa
          go_wp2_with fail
          clear c3
          refine (HV.out (deep - 1) w2 _ (by omega) (by omega) HT2.out HF2.out).mono ?_
          rintro e w3 ⟨s1, rfl, hs1, ⟨j3, hT3⟩, hc3⟩
          have HT3 := Lib.hid hT3
          have HF3 := Lib.hid (HF2.out.keep hc3)
          have HC3 := Lib.hid (HC2.out.trans hc3)
          have hp3 := hT3.lt
          clear hT3 hc3
          go_wp2_with fail
          refine (HV.out (deep - 1) w3 _ (by omega) (by omega) HT3.out HF3.out).mono ?_
          rintro e w4 ⟨s2, rfl, hs2, ⟨j4, hT4⟩, hc4⟩
          have HT4 := Lib.hid hT4
          have HF4 := Lib.hid (HF3.out.keep hc4)
          have HC4 := Lib.hid (HC3.out.trans hc4)
          have hp4 := hT4.lt
          clear hT4 hc4
          obtain ⟨y1, hy1, haddy1⟩ := addS s1 s2 (vb d) (vb d) hs1 hs2 (by have := HB1.out; have := HB3.out; omega)
          have haddy1 := haddy1 w4
          obtain ⟨y2, hy2, haddy2⟩ := addS y1 s (vb d + vb d) 3 hy1 hs (by have := HB1.out; have := HB3.out; omega)
          have haddy2 := haddy2 w4
          go_wp2_with fail
          go_ret
          exact ⟨y2, rfl, by have := HB2.out; have := HB3.out; omega, ⟨_, HT4.out⟩, HC4.out⟩
        · have q38 : decide ((r : Int) < 9) = false := by simp; omega
          by_cases h9e : r = 9
          · have q59 : ((r : Int) == 9) = true := by simp; omega
            go_wp2_with fail
            refine (HV.out (deep - 1) w1 _ (by omega) (by omega) HT1.out HF1.out).mono ?_
            rintro e w2 ⟨s1, rfl, hs1, ⟨j2, hT2⟩, hc2⟩
            have HT2 := Lib.hid hT2
            have HF2 := Lib.hid (HF1.out.keep hc2)
            have HC2 := Lib.hid (HC1.out.trans hc2)
            have hp2 := hT2.lt
            clear hT2 hc2
            have hG := Whole.new w2 9 onV
            have hal : Chg [] w2 (w2.alloc (.cells onV.toArray 9)) := (Chg.refl [] w2).alloc _
            have HTa := Lib.hid (HT2.out.keep hal)
            have HCa := Lib.hid (HC2.out.trans (hal.sub (T' := [p]) (by simp)))
            have HFa := Lib.hid (HF2.out.keep (hal.sub (T' := [p]) (by simp)))
            have hgp : w2.heap.size ≠ p := by omega
            clear hal
            go_wp2_with fail
            refine (next_any HTa.out 7 (by omega) (by omega)).mono ?_
            rintro e w3 ⟨r3, j3, hr3, rfl, hT3, hc3⟩
            have hG3 := hG.chg hc3 (by simpa using hgp)
            obtain ⟨u, hu, s, rfl, hs⟩ := row_get onV_all r3 (by exact hr3)
            have c3 := (hG3.cell r3).trans hu
            have HT3 := Lib.hid hT3
            have HC3 := Lib.hid (HCa.out.trans hc3)
            have HF3 := Lib.hid (HFa.out.keep hc3)
            have hp3 := hT3.lt
            clear hG hG3 hc3 hT3 hu HTa HCa HFa
            obtain ⟨y1, hy1, haddy1⟩ := addS s1 s (vb d) 3 hs1 hs (by have := HB1.out; have := HB3.out; omega)
            have haddy1 := haddy1 w3
            go_wp2_with fail
            go_ret
            exact ⟨y1, rfl, by have := HB2.out; have := HB3.out; omega, ⟨_, HT3.out⟩, HC3.out⟩
          · have q59 : ((r : Int) == 9) = false := by simp; omega
            by_cases h10 : r = 10
            · have q73 : ((r : Int) == 10) = true := by simp; omega
              go_wp2_with fail
              refine (HV.out (deep - 1) w1 _ (by omega) (by omega) HT1.out HF1.out).mono ?_
              rintro e w2 ⟨s1, rfl, hs1, ⟨j2, hT2⟩, hc2⟩
              have HT2 := Lib.hid hT2
              have HF2 := Lib.hid (HF1.out.keep hc2)
              have HC2 := Lib.hid (HC1.out.trans hc2)
              have hp2 := hT2.lt
              clear hT2 hc2
              obtain ⟨y1, hy1, haddy1⟩ := addS s1 ⟨#[63]⟩ (vb d) 1 hs1 (by decide) (by have := HB1.out; have := HB3.out; omega)
              have haddy1 := haddy1 w2
              go_wp2_with fail
              refine (HV.out (deep - 1) w2 _ (by omega) (by omega) HT2.out HF2.out).mono ?_
              rintro e w3 ⟨s2, rfl, hs2, ⟨j3, hT3⟩, hc3⟩
              have HT3 := Lib.hid hT3
              have HF3 := Lib.hid (HF2.out.keep hc3)
              have HC3 := Lib.hid (HC2.out.trans hc3)
              have hp3 := hT3.lt
              clear hT3 hc3
              obtain ⟨y2, hy2, haddy2⟩ := addS y1 s2 (vb d + 1) (vb d) hy1 hs2 (by have := HB1.out; have := HB3.out; omega)
              have haddy2 := haddy2 w3
              obtain ⟨y3, hy3, haddy3⟩ := addS y2 ⟨#[58]⟩ (vb d + 1 + vb d) 1 hy2 (by decide) (by have := HB1.out; have := HB3.out; omega)
              have haddy3 := haddy3 w3
              go_wp2_with fail
              refine (HV.out (deep - 1) w3 _ (by omega) (by omega) HT3.out HF3.out).mono ?_
              rintro e w4 ⟨s3, rfl, hs3, ⟨j4, hT4⟩, hc4⟩
              have HT4 := Lib.hid hT4
              have HF4 := Lib.hid (HF3.out.keep hc4)
              have HC4 := Lib.hid (HC3.out.trans hc4)
              have hp4 := hT4.lt
              clear hT4 hc4
              obtain ⟨y4, hy4, haddy4⟩ := addS y3 s3 (vb d + 1 + vb d + 1) (vb d) hy3 hs3 (by have := HB1.out; have := HB3.out; omega)
              have haddy4 := haddy4 w4
              obtain ⟨y5, hy5, haddy5⟩ := addS y4 ⟨#[59]⟩ (vb d + 1 + vb d + 1 + vb d) 1 hy4 (by decide) (by have := HB1.out; have := HB3.out; omega)
              have haddy5 := haddy5 w4
              go_wp2_with fail
              go_ret
              exact ⟨y5, rfl, by have := HB2.out; have := HB3.out; omega, ⟨_, HT4.out⟩, HC4.out⟩
            · have q73 : ((r : Int) == 10) = false := by simp; omega
              by_cases h11 : r = 11
              · have q96 : ((r : Int) == 11) = true := by simp; omega
                go_wp2_with fail
                go_ret
                exact ⟨_, rfl, by have := HB2.out; show 1 ≤ _; omega, ⟨_, HT1.out⟩, HC1.out⟩
              · have q96 : ((r : Int) == 11) = false := by simp; omega
                by_cases h12 : r = 12
                · have q99 : ((r : Int) == 12) = true := by simp; omega
                  by_cases hfn : 0 < fn
                  · have q103 : decide ((0 : Int) < (fn : Int)) = true := by simp; omega
                    have q103b : decide (0 < fn) = true := by simp; omega
                    have hmaxI : (fn : Int) ≤ 1000 := by omega
                    go_upto_region 16 with fail
                    go_wp2_with fail
                    refine (next_any HT1.out fn hfn (by omega)).mono ?_
                    rintro e w2 ⟨r3, j2, hr3, rfl, hT2, hc2⟩
                    have HT2 := Lib.hid hT2
                    have HF2 := Lib.hid (HF1.out.keep hc2)
                    have HC2 := Lib.hid (HC1.out.trans hc2)
                    have hp2 := hT2.lt
                    clear hT2 hc2
                    obtain ⟨t, htk⟩ : ∃ t, fl[r3]? = some t := ⟨fl[r3]'(by rw [HF2.out.len]; exact hr3), by simp⟩
                    obtain ⟨fb, fo, rfl, hfb, hfbl, c0, c1, c2⟩ := HF2.out.cell htk
                    obtain ⟨ha0, ha2⟩ := HF2.out.args t (List.mem_of_getElem? htk)
                    have hr3I : (r3 : Int) < (fn : Int) := by omega
                    clear htk
                    go_upto_region 17 with fail
                    obtain ⟨q, hq⟩ : ∃ q : Nat, t.args = (q : Int) := ⟨t.args.toNat, by omega⟩
                    have hq2 : q ≤ 2 := by omega
                    rw [hq] at c1 ⊢
                    obtain ⟨cx, hcx⟩ : ∃ cx : List Value, cx = [.int .i32 t.name, .int .i64 (q : Int), .string t.code] := ⟨_, rfl⟩
                    have hG := Whole.new w2 58 [.int .i32 t.name, .int .i64 (q : Int), .string t.code]
                    have hal : Chg [] w2 (w2.alloc (.cells #[.int .i32 t.name, .int .i64 (q : Int), .string t.code] 58)) := (Chg.refl [] w2).alloc _
                    have HG3 := Lib.hid hG
                    have HT3 := Lib.hid (HT2.out.keep hal)
                    have HC3 := Lib.hid (HC2.out.trans (hal.sub (T' := [p]) (by simp)))
                    have HF3 := Lib.hid (HF2.out.keep (hal.sub (T' := [p]) (by simp)))
                    have hgp : w2.heap.size ≠ p := by omega
                    obtain ⟨g, hg⟩ : ∃ g, g = w2.heap.size := ⟨_, rfl⟩
                    rw [← hg] at HG3 hgp ⊢
                    have HG3' := Lib.hid (show Whole (w2.alloc (.cells #[.int .i32 t.name, .int .i64 (q : Int), .string t.code] 58)) g 58 [.int .i32 t.name, .int .i64 (q : Int), .string t.code] from HG3.out)
                    generalize w2.alloc (.cells #[.int .i32 t.name, .int .i64 (q : Int), .string t.code] 58) = w3 at HT3 HC3 HF3 HG3' ⊢
                    clear hcx hal hG hg HG3 c0 c1 c2 hq ha0 ha2
                    go_wp2_with fail
                    go_loopw [10, 11] (fun v i wr => ∃ k : Nat, i = .int .i64 (k : Int) ∧ k ≤ q ∧ (∃ s : ByteArray, v = .string s ∧ s.size ≤ k * vb d) ∧ Hid (∃ j, Tp wr p A n c l j) ∧ Hid (Chg [p] w3 wr)) (fun _ i _ => q - (intOf i).toNat)
                    case atStart => exact ⟨0, rfl, by omega, ⟨⟨#[]⟩, rfl, Nat.zero_le _⟩, Lib.hid ⟨_, HT3.out⟩, Lib.hid (Chg.refl _ _)⟩
                    case round =>
                      obtain ⟨k, rfl, hk, ⟨s, rfl, hs⟩, HTr, HCr⟩ := hrel
                      have hGr := HG3'.out.chg HCr.out (by simpa using hgp)
                      have e0 : wr.cell? ⟨g, 0, none⟩ = some (.int .i32 t.name) := (hGr.cell 0).trans rfl
                      have e1 : wr.cell? ⟨g, 1, none⟩ = some (.int .i64 (q : Int)) := (hGr.cell 1).trans rfl
                      have HFr := Lib.hid (HF3.out.keep HCr.out)
                      clear hGr
                      by_cases hkq : k < q
                      · have hkI : (k : Int) < (q : Int) := by omega
                        have HKV := Lib.hid (show k * vb d + vb d = (k + 1) * vb d from (Nat.succ_mul k (vb d)).symm)
                        have HK2 := Lib.hid (show k * vb d ≤ 2 * vb d from Nat.mul_le_mul_right _ (by omega))
                        go_wp2_with fail
                        obtain ⟨jr, hjr⟩ := HTr.out
                        refine (HV.out (deep - 2) wr _ (by omega) (by omega) hjr HFr.out).mono ?_
                        rintro e w5 ⟨s1, rfl, hs1, ⟨j5, hT5⟩, hc5⟩
                        have HT5 := Lib.hid hT5
                        have HC5 := Lib.hid (HCr.out.trans hc5)
                        clear hT5 hc5 hjr
                        obtain ⟨y, hy, hadd⟩ := addS s s1 (k * vb d) (vb d) hs hs1 (by have := HB1.out; have := HB3.out; have := HK2.out; omega)
                        have hadd5 := hadd w5
                        clear hadd
                        go_wp2_with fail
                        go_roundw
                        case rel => exact ⟨k + 1, by go_num, by omega, ⟨y, rfl, by have := HKV.out; omega⟩, Lib.hid ⟨_, HT5.out⟩, HC5⟩
                        case measure => simp [intOf]; omega
                      · have hkI : (q : Int) ≤ (k : Int) := by omega
                        have HK2 := Lib.hid (show k * vb d ≤ 2 * vb d from Nat.mul_le_mul_right _ (by omega))
                        obtain ⟨y1, hy1, hadd1⟩ := addS s ⟨#[206, 187]⟩ (k * vb d) 2 hs (by decide) (by have := HB1.out; have := HB3.out; have := HK2.out; omega)
                        have he1 := encode_le4 t.name
                        obtain ⟨y2, hy2, hadd2⟩ := addS y1 (Utf8.encode t.name) (k * vb d + 2) 4 hy1 he1 (by have := HB1.out; have := HB3.out; have := HK2.out; omega)
                        have hadd1r := hadd1 wr
                        have hadd2r := hadd2 wr
                        clear hadd1 hadd2
                        have HCz := Lib.hid (HC3.out.trans HCr.out)
                        go_wp2_with fail
                        go_ret
                        exact ⟨y2, rfl, by have := HB2.out; have := HB3.out; have := HK2.out; omega, HTr.out, HCz.out⟩
                  · have q103 : decide ((0 : Int) < (fn : Int)) = false := by simp; omega
                    have q103b : decide (0 < fn) = false := by simp; omega
                    go_upto_region 23 with fail
                    go_wp2_with fail
                    refine (HV.out (deep - 1) w1 _ (by omega) (by omega) HT1.out HF1.out).mono ?_
                    rintro e w2 ⟨s1, rfl, hs1, ⟨j2, hT2⟩, hc2⟩
                    have HT2 := Lib.hid hT2
                    have HF2 := Lib.hid (HF1.out.keep hc2)
                    have HC2 := Lib.hid (HC1.out.trans hc2)
                    have hp2 := hT2.lt
                    clear hT2 hc2
                    go_wp2_with fail
                    refine (next_any HT2.out 4 (by omega) (by omega)).mono ?_
                    rintro e w3 ⟨x1, j3, hx1, rfl, hT3, hc3⟩
                    have HT3 := Lib.hid hT3
                    have HF3 := Lib.hid (HF2.out.keep hc3)
                    have HC3 := Lib.hid (HC2.out.trans hc3)
                    have hp3 := hT3.lt
                    clear hT3 hc3
                    have he1 := encode_le4 (65 + (x1 : Int))
                    obtain ⟨y1, hy1, haddy1⟩ := addS s1 (Utf8.encode (65 + (x1 : Int))) (vb d) 4 hs1 he1 (by have := HB1.out; have := HB3.out; omega)
                    have haddy1 := haddy1 w3
                    go_wp2_with fail
                    refine (next_any HT3.out 4 (by omega) (by omega)).mono ?_
                    rintro e w4 ⟨x2, j4, hx2, rfl, hT4, hc4⟩
                    have HT4 := Lib.hid hT4
                    have HF4 := Lib.hid (HF3.out.keep hc4)
                    have HC4 := Lib.hid (HC3.out.trans hc4)
                    have hp4 := hT4.lt
                    clear hT4 hc4
                    have he2 := encode_le4 (97 + (x2 : Int))
                    obtain ⟨y2, hy2, haddy2⟩ := addS y1 (Utf8.encode (97 + (x2 : Int))) (vb d + 4) 4 hy1 he2 (by have := HB1.out; have := HB3.out; omega)
                    have haddy2 := haddy2 w4
                    go_wp2_with fail
                    go_ret
                    exact ⟨y2, rfl, by have := HB2.out; have := HB3.out; omega, ⟨_, HT4.out⟩, HC4.out⟩
                · have q99 : ((r : Int) == 12) = false := by simp; omega
                  go_upto_region 23 with fail
                  go_wp2_with fail
                  refine (HV.out (deep - 1) w1 _ (by omega) (by omega) HT1.out HF1.out).mono ?_
                  rintro e w2 ⟨s1, rfl, hs1, ⟨j2, hT2⟩, hc2⟩
                  have HT2 := Lib.hid hT2
                  have HF2 := Lib.hid (HF1.out.keep hc2)
                  have HC2 := Lib.hid (HC1.out.trans hc2)
                  have hp2 := hT2.lt
                  clear hT2 hc2
                  go_wp2_with fail
                  refine (next_any HT2.out 4 (by omega) (by omega)).mono ?_
                  rintro e w3 ⟨x1, j3, hx1, rfl, hT3, hc3⟩
                  have HT3 := Lib.hid hT3
                  have HF3 := Lib.hid (HF2.out.keep hc3)
                  have HC3 := Lib.hid (HC2.out.trans hc3)
                  have hp3 := hT3.lt
                  clear hT3 hc3
                  have he1 := encode_le4 (65 + (x1 : Int))
                  obtain ⟨y1, hy1, haddy1⟩ := addS s1 (Utf8.encode (65 + (x1 : Int))) (vb d) 4 hs1 he1 (by have := HB1.out; have := HB3.out; omega)
                  have haddy1 := haddy1 w3
                  go_wp2_with fail
                  refine (next_any HT3.out 4 (by omega) (by omega)).mono ?_
                  rintro e w4 ⟨x2, j4, hx2, rfl, hT4, hc4⟩
                  have HT4 := Lib.hid hT4
                  have HF4 := Lib.hid (HF3.out.keep hc4)
                  have HC4 := Lib.hid (HC3.out.trans hc4)
                  have hp4 := hT4.lt
                  clear hT4 hc4
                  have he2 := encode_le4 (97 + (x2 : Int))
                  obtain ⟨y2, hy2, haddy2⟩ := addS y1 (Utf8.encode (97 + (x2 : Int))) (vb d + 4) 4 hy1 he2 (by have := HB1.out; have := HB3.out; omega)
                  have haddy2 := haddy2 w4
                  go_wp2_with fail
                  go_ret
                  exact ⟨y2, rfl, by have := HB2.out; have := HB3.out; omega, ⟨_, HT4.out⟩, HC4.out⟩
theorem value_any : ∀ d : Nat, d ≤ 4 → ValOk p A n c l FA fn fc fl d := by
  intro d
  induction d using Nat.strongRecOn with
  | _ d ih => exact fun hd => value_step d hd fun d' h => ih d' h (by omega)
end
end Go.Proofs.YtbkfhndmeljlcaaGreatDoor
