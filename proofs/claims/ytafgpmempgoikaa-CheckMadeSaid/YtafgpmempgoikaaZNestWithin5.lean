/-
  NestWithin, part 5: Deed, Unit, UnitF, NestFacts, NestRel, NestOf, Dsk, Sect, Waits, Same, NestSame, NestKnown, FlowIn.
-/
import Derived.Test.YtafgpmempgoikaaZNestWithin1
import Derived.Test.YtafgpmempgoikaaZNestWithin2
import Derived.Test.YtafgpmempgoikaaZNestWithin3
import Derived.Test.YtafgpmempgoikaaZNestWithin4
import Derived.Laws.Entries
import Derived.Deep.QuietTactic
import Derived.BigQuiet
import Derived.BigRegion
import Derived.Deep.RegionWith
import Derived.Deep.DeepCutAuto
namespace Go.Proofs.Ytafgpmempgoikaa
open Go.RowKit
def db : Nat → Nat
  | 0 => 700
  | d + 1 => 2 * db d + 1000
theorem db_le (d : Nat) (h : d ≤ 3) : db d ≤ 20000 ∧ 700 ≤ db d := by
  have : d = 0 ∨ d = 1 ∨ d = 2 ∨ d = 3 := by omega
  rcases this with rfl | rfl | rfl | rfl <;> decide
def thV : List Value := [.string ⟨#[36]⟩, .string ⟨#[194, 174]⟩]
def haV : List Value := [.string ⟨#[]⟩, .string ⟨#[194, 161]⟩]
theorem thV_all : ∀ x ∈ thV, IsTxt 3 x := by intro x h; simp only [thV, List.mem_cons, List.not_mem_nil, or_false] at h; rcases h with rfl | rfl <;> exact ⟨_, rfl, by decide⟩
theorem haV_all : ∀ x ∈ haV, IsTxt 3 x := by intro x h; simp only [haV, List.mem_cons, List.not_mem_nil, or_false] at h; rcases h with rfl | rfl <;> exact ⟨_, rfl, by decide⟩
theorem enV_all (y : ByteArray) (m : Nat) (hy : y.size ≤ m) (hm : 4 ≤ m) : ∀ x ∈ [Value.string ⟨#[59]⟩, .string y, .string ⟨#[58, 194, 161, 59]⟩], IsTxt m x := by
  intro x h
  simp only [List.mem_cons, List.not_mem_nil, or_false] at h
  rcases h with rfl | rfl | rfl
  · exact ⟨_, rfl, by show 1 ≤ m; omega⟩
  · exact ⟨_, rfl, hy⟩
  · exact ⟨_, rfl, by show 4 ≤ m; omega⟩
theorem xyz (r : Nat) (h : r < 3) : ∃ b : UInt8, Utf8.encode (120 + (r : Int)) = ⟨#[b]⟩ ∧ 120 ≤ b.toNat ∧ b.toNat ≤ 122 := by
  have : r = 0 ∨ r = 1 ∨ r = 2 := by omega
  rcases this with rfl | rfl | rfl
  · exact ⟨120, by decide +kernel, by decide, by decide⟩
  · exact ⟨121, by decide +kernel, by decide, by decide⟩
  · exact ⟨122, by decide +kernel, by decide, by decide⟩
section
variable {p n c : Nat} {A : Option Addr} {l : List Int} {FA : Option Addr} {fn fc : Nat} {fl : List FnV}
def DeedOk (p : Nat) (A : Option Addr) (n c : Nat) (l : List Int) (FA : Option Addr) (fn fc : Nat) (fl : List FnV) (d : Nat) : Prop :=
  ∀ (deep : Int) (W : World) (j : Nat), deep ≤ d → -10 ≤ deep → Tp W p A n c l j → Fns W p FA fn fc fl → Calls Try.prog 28 #[.pointer (some ⟨p, 0, none⟩), .int .i64 deep, .slice FA fn fc] W (TapPost (db d) p A n c l W)
set_option maxHeartbeats 4000000 in
set_option maxRecDepth 100000 in
theorem deed_step (d : Nat) (hd : d ≤ 3) (IH : ∀ d', d' < d → DeedOk p A n c l FA fn fc fl d') : DeedOk p A n c l FA fn fc fl d := by
  intro deep w j hdd hd0 hT hF
  obtain ⟨hb1, hb2⟩ := db_le d hd
  have HB2 := Lib.hid hb2
  have HB1 := Lib.hid hb1
  have HB3 := Lib.hid (show (620 : Nat) = 620 from rfl)
  clear hb1 hb2
  have HF := Lib.hid hF
  have hmax := hF.max
  clear hF
  have HV := Lib.hid (fun (W : World) (j : Nat) (hT : Tp W p A n c l j) (hF : Fns W p FA fn fc fl) => (value_any (p := p) (A := A) (n := n) (c := c) (l := l) (FA := FA) (fn := fn) (fc := fc) (fl := fl) 2 (by omega)) 2 W j (by omega) (by omega) hT hF)
  have HU := Lib.hid (fun (W : World) (j : Nat) (hT : Tp W p A n c l j) (hF : Fns W p FA fn fc fl) => (value_any (p := p) (A := A) (n := n) (c := c) (l := l) (FA := FA) (fn := fn) (fc := fc) (fl := fl) 1 (by omega)) 1 W j (by omega) (by omega) hT hF)
  go_enter Try.func28, Try.ntmps28
  go_wp2_with fail
  refine (next_any hT 9 (by omega) (by omega)).mono ?_
  rintro e w1 ⟨r, a1, hr, rfl, hT1, hc1⟩
  have HC1 := Lib.hid hc1
  have HF1 := Lib.hid (HF.out.keep hc1)
  have HT1 := Lib.hid hT1
  have hp1 := hT1.lt
  clear hc1 hT1 hT
  by_cases h3 : r < 3
  · have q14 : decide ((r : Int) < 3) = true := by simp; omega
    go_wp2_with fail
    refine (HV.out w1 _ HT1.out HF1.out).mono ?_
    rintro e w2 ⟨s1, rfl, hs1, ⟨j2, hT2⟩, hc2⟩
    replace hs1 : s1.size ≤ 620 := hs1
    have HT2 := Lib.hid hT2
    have HF2 := Lib.hid (HF1.out.keep hc2)
    have HC2 := Lib.hid (HC1.out.trans hc2)
    have hp2 := hT2.lt
    clear hT2 hc2
    go_wp2_with fail
    refine (next_any HT2.out 4 (by omega) (by omega)).mono ?_
    rintro e w3 ⟨x1, j3, hx1, rfl, hT3, hc3⟩
    have HT3 := Lib.hid hT3
    have HF3 := Lib.hid (HF2.out.keep hc3)
    have HC3 := Lib.hid (HC2.out.trans hc3)
    have hp3 := hT3.lt
    clear hT3 hc3
    have he1 := encode_le4 (65 + (x1 : Int))
    obtain ⟨y1, hy1, haddy1⟩ := addS s1 (Utf8.encode (65 + (x1 : Int))) 620 4 hs1 he1 (by have := HB1.out; have := HB3.out; omega)
    have haddy1 := haddy1 w3
    go_wp2_with fail
    go_ret
    exact ⟨y1, rfl, by have := HB2.out; have := HB3.out; omega, ⟨_, HT3.out⟩, HC3.out⟩
  · have q14 : decide ((r : Int) < 3) = false := by simp; omega
    by_cases h5 : r < 5
    · have q26 : decide ((r : Int) < 5) = true := by simp; omega
      go_wp2_with fail
      refine (next_any HT1.out 190 (by omega) (by omega)).mono ?_
      rintro e w2 ⟨x1, j2, hx1, rfl, hT2, hc2⟩
      have HT2 := Lib.hid hT2
      have HF2 := Lib.hid (HF1.out.keep hc2)
      have HC2 := Lib.hid (HC1.out.trans hc2)
      have hp2 := hT2.lt
      clear hT2 hc2
      go_wp2_with fail
      refine (digits_any 2 x1 (by omega) (by omega) w2).mono ?_
      rintro e w3 ⟨s1, rfl, hs1, hc3⟩
      replace hs1 : s1.size ≤ 12 := hs1
      have hT3 := HT2.out.keep hc3
      replace hc3 := hc3.sub (T' := [p]) (by simp)
      have HT3 := Lib.hid hT3
      have HF3 := Lib.hid (HF2.out.keep hc3)
      have HC3 := Lib.hid (HC2.out.trans hc3)
      have hp3 := hT3.lt
      clear hT3 hc3
      obtain ⟨y1, hy1, haddy1⟩ := addS ⟨#[32]⟩ s1 1 12 (by decide) hs1 (by have := HB1.out; have := HB3.out; omega)
      have haddy1 := haddy1 w3
      go_wp2_with fail
      refine (HV.out w3 _ HT3.out HF3.out).mono ?_
      rintro e w4 ⟨s2, rfl, hs2, ⟨j4, hT4⟩, hc4⟩
      replace hs2 : s2.size ≤ 620 := hs2
      have HT4 := Lib.hid hT4
      have HF4 := Lib.hid (HF3.out.keep hc4)
      have HC4 := Lib.hid (HC3.out.trans hc4)
      have hp4 := hT4.lt
      clear hT4 hc4
      obtain ⟨y2, hy2, haddy2⟩ := addS y1 s2 13 620 hy1 hs2 (by have := HB1.out; have := HB3.out; omega)
      have haddy2 := haddy2 w4
      have hG := Whole.new w4 9 thV
      have hal : Chg [] w4 (w4.alloc (.cells thV.toArray 9)) := (Chg.refl [] w4).alloc _
      have HTa := Lib.hid (HT4.out.keep hal)
      have HCa := Lib.hid (HC4.out.trans (hal.sub (T' := [p]) (by simp)))
      have HFa := Lib.hid (HF4.out.keep (hal.sub (T' := [p]) (by simp)))
      have hgp : w4.heap.size ≠ p := by omega
      clear hal
      go_wp2_with fail
      refine (next_any HTa.out 2 (by omega) (by omega)).mono ?_
      rintro e w5 ⟨r3, j5, hr3, rfl, hT5, hc5⟩
      have hG3 := hG.chg hc5 (by simpa using hgp)
      obtain ⟨u, hu, s, rfl, hs⟩ := row_get thV_all r3 (by exact hr3)
      have c3 := (hG3.cell r3).trans hu
      have HT5 := Lib.hid hT5
      have HC5 := Lib.hid (HCa.out.trans hc5)
      have HF5 := Lib.hid (HFa.out.keep hc5)
      have hp5 := hT5.lt
      clear hG hG3 hc5 hT5 hu HTa HCa HFa
      obtain ⟨y3, hy3, haddy3⟩ := addS y2 s 633 3 hy2 hs (by have := HB1.out; have := HB3.out; omega)
      have haddy3 := haddy3 w5
      go_wp2_with fail
      go_ret
      exact ⟨y3, rfl, by have := HB2.out; have := HB3.out; omega, ⟨_, HT5.out⟩, HC5.out⟩
    · have q26 : decide ((r : Int) < 5) = false := by simp; omega
      by_cases h7 : r = 7 ∨ r = 8 ∨ deep ≤ 0
      · by_cases hr7 : r = 7
        · have q43 : ((r : Int) == 5) = false := by simp; omega
          have q74 : ((r : Int) == 6) = false := by simp; omega
          have q115 : ((r : Int) == 7) = true := by simp; omega
          go_upto_region 13 with fail
          go_wp2_with fail
          refine (HV.out w1 _ HT1.out HF1.out).mono ?_
          rintro e w2 ⟨s1, rfl, hs1, ⟨j2, hT2⟩, hc2⟩
          replace hs1 : s1.size ≤ 620 := hs1
          have HT2 := Lib.hid hT2
          have HF2 := Lib.hid (HF1.out.keep hc2)
          have HC2 := Lib.hid (HC1.out.trans hc2)
          have hp2 := hT2.lt
          clear hT2 hc2
          obtain ⟨y1, hy1, haddy1⟩ := addS s1 ⟨#[44]⟩ 620 1 hs1 (by decide) (by have := HB1.out; have := HB3.out; omega)
          have haddy1 := haddy1 w2
          have hG := Whole.new w2 9 haV
          have hal : Chg [] w2 (w2.alloc (.cells haV.toArray 9)) := (Chg.refl [] w2).alloc _
          have HTa := Lib.hid (HT2.out.keep hal)
          have HCa := Lib.hid (HC2.out.trans (hal.sub (T' := [p]) (by simp)))
          have hgp : w2.heap.size ≠ p := by omega
          clear hal
          go_wp2_with fail
          refine (next_any HTa.out 9 (by omega) (by omega)).mono ?_
          rintro e w3 ⟨r3, j3, hr3, rfl, hT3, hc3⟩
          have hG3 := hG.chg hc3 (by simpa using hgp)
          obtain ⟨r4, hr4⟩ : ∃ r4, r4 = r3 / 8 := ⟨_, rfl⟩
          have hr42 : r4 < 2 := by omega
          have hq8 : (r3 : Int).tdiv 8 = (r4 : Int) := by rw [hr4]; rfl
          obtain ⟨u, hu, s, rfl, hs⟩ := row_get haV_all r4 (by exact hr42)
          have c3 := (hG3.cell r4).trans hu
          have HT3 := Lib.hid hT3
          have HC3 := Lib.hid (HCa.out.trans hc3)
          clear hG hG3 hc3 hT3 hu HTa HCa hr4
          have hr4I : (r4 : Int) < 2 := by omega
          obtain ⟨y2, hy2, haddy2⟩ := addS y1 s 621 3 hy1 hs (by have := HB1.out; have := HB3.out; omega)
          have haddy2 := haddy2 w3
          go_wp2_with fail
          go_ret
          exact ⟨y2, rfl, by have := HB2.out; have := HB3.out; omega, ⟨_, HT3.out⟩, HC3.out⟩
        · have q115 : ((r : Int) == 7) = false := by simp; omega
          have qdp : ¬ r = 8 → decide ((0 : Int) < deep) = false := fun h => by simp; omega
          by_cases h55 : r = 5
          · have q43 : ((r : Int) == 5) = true := by simp; omega
            have q74 : ((r : Int) == 6) = false := by simp; omega
            have qdq := qdp (by omega)
            clear qdp h7
            go_upto_region 14 with fail
            go_wp2_with fail
            refine (HU.out w1 _ HT1.out HF1.out).mono ?_
            rintro e w2 ⟨s1, rfl, hs1, ⟨j2, hT2⟩, hc2⟩
            replace hs1 : s1.size ≤ 200 := hs1
            have HT2 := Lib.hid hT2
            have HF2 := Lib.hid (HF1.out.keep hc2)
            have HC2 := Lib.hid (HC1.out.trans hc2)
            have hp2 := hT2.lt
            clear hT2 hc2
            obtain ⟨y1, hy1, haddy1⟩ := addS s1 ⟨#[90]⟩ 200 1 hs1 (by decide) (by have := HB1.out; have := HB3.out; omega)
            have haddy1 := haddy1 w2
            go_wp2_with fail
            go_ret
            exact ⟨y1, rfl, by have := HB2.out; have := HB3.out; omega, ⟨_, HT2.out⟩, HC2.out⟩
          · have q43 : ((r : Int) == 5) = false := by simp; omega
            by_cases h66 : r = 6
            · have q74 : ((r : Int) == 6) = true := by simp; omega
              have qdq := qdp (by omega)
              clear qdp h7
              go_upto_region 14 with fail
              go_wp2_with fail
              refine (HU.out w1 _ HT1.out HF1.out).mono ?_
              rintro e w2 ⟨s1, rfl, hs1, ⟨j2, hT2⟩, hc2⟩
              replace hs1 : s1.size ≤ 200 := hs1
              have HT2 := Lib.hid hT2
              have HF2 := Lib.hid (HF1.out.keep hc2)
              have HC2 := Lib.hid (HC1.out.trans hc2)
              have hp2 := hT2.lt
              clear hT2 hc2
              obtain ⟨y1, hy1, haddy1⟩ := addS s1 ⟨#[90]⟩ 200 1 hs1 (by decide) (by have := HB1.out; have := HB3.out; omega)
              have haddy1 := haddy1 w2
              go_wp2_with fail
              go_ret
              exact ⟨y1, rfl, by have := HB2.out; have := HB3.out; omega, ⟨_, HT2.out⟩, HC2.out⟩
            · have q74 : ((r : Int) == 6) = false := by simp; omega
              clear qdp h7
              go_upto_region 14 with fail
              go_wp2_with fail
              refine (HU.out w1 _ HT1.out HF1.out).mono ?_
              rintro e w2 ⟨s1, rfl, hs1, ⟨j2, hT2⟩, hc2⟩
              replace hs1 : s1.size ≤ 200 := hs1
              have HT2 := Lib.hid hT2
              have HF2 := Lib.hid (HF1.out.keep hc2)
              have HC2 := Lib.hid (HC1.out.trans hc2)
              have hp2 := hT2.lt
              clear hT2 hc2
              obtain ⟨y1, hy1, haddy1⟩ := addS s1 ⟨#[90]⟩ 200 1 hs1 (by decide) (by have := HB1.out; have := HB3.out; omega)
              have haddy1 := haddy1 w2
              go_wp2_with fail
              go_ret
              exact ⟨y1, rfl, by have := HB2.out; have := HB3.out; omega, ⟨_, HT2.out⟩, HC2.out⟩
      · obtain ⟨d, rfl⟩ : ∃ x, d = x + 1 := ⟨d - 1, by omega⟩
        have HD := Lib.hid (IH d (by omega))
        have HB4 := Lib.hid (show db (d + 1) = 2 * db d + 1000 from rfl)
        have HB3 := HB4
        clear IH
        have hdp : decide ((0 : Int) < deep) = true := by simp; omega
        by_cases h55 : r = 5
        · have q43 : ((r : Int) == 5) = true := by simp; omega
          go_wp2_with fail
          refine (HU.out w1 _ HT1.out HF1.out).mono ?_
          rintro e w2 ⟨s1, rfl, hs1, ⟨j2, hT2⟩, hc2⟩
          replace hs1 : s1.size ≤ 200 := hs1
          have HT2 := Lib.hid hT2
          have HF2 := Lib.hid (HF1.out.keep hc2)
          have HC2 := Lib.hid (HC1.out.trans hc2)
          have hp2 := hT2.lt
          clear hT2 hc2
          obtain ⟨y1, hy1, haddy1⟩ := addS s1 ⟨#[63]⟩ 200 1 hs1 (by decide) (by have := HB1.out; have := HB3.out; omega)
          have haddy1 := haddy1 w2
          go_wp2_with fail
          refine (HD.out (deep - 1) w2 _ (by omega) (by omega) HT2.out HF2.out).mono ?_
          rintro e w3 ⟨s2, rfl, hs2, ⟨j3, hT3⟩, hc3⟩
          have HT3 := Lib.hid hT3
          have HF3 := Lib.hid (HF2.out.keep hc3)
          have HC3 := Lib.hid (HC2.out.trans hc3)
          have hp3 := hT3.lt
          clear hT3 hc3
          go_wp2_with fail
          refine (live_any s2 w3 (by have := HB1.out; have := HB3.out; omega)).mono ?_
          rintro e wl ⟨t2, rfl, ht2, hwl⟩
          subst hwl
          replace ht2 : t2.size ≤ db d := Nat.le_trans ht2 hs2
          obtain ⟨y2, hy2, haddy2⟩ := addS y1 t2 201 (db d) hy1 ht2 (by have := HB1.out; have := HB3.out; omega)
          have haddy2 := haddy2 w3
          go_wp2_with fail
          refine (HD.out (deep - 1) w3 _ (by omega) (by omega) HT3.out HF3.out).mono ?_
          rintro e w4 ⟨s3, rfl, hs3, ⟨j4, hT4⟩, hc4⟩
          have HT4 := Lib.hid hT4
          have HF4 := Lib.hid (HF3.out.keep hc4)
          have HC4 := Lib.hid (HC3.out.trans hc4)
          have hp4 := hT4.lt
          clear hT4 hc4
          obtain ⟨y3, hy3, haddy3⟩ := addS ⟨#[58]⟩ s3 1 (db d) (by decide) hs3 (by have := HB1.out; have := HB3.out; omega)
          have haddy3 := haddy3 w4
          obtain ⟨y4, hy4, haddy4⟩ := addS y3 ⟨#[59]⟩ (1 + db d) 1 hy3 (by decide) (by have := HB1.out; have := HB3.out; omega)
          have haddy4 := haddy4 w4
          have hen := enV_all y4 (1 + db d + 1 + 2) (by omega) (by omega)
          have hG := Whole.new w4 9 [.string ⟨#[59]⟩, .string y4, .string ⟨#[58, 194, 161, 59]⟩]
          have hal : Chg [] w4 (w4.alloc (.cells [.string ⟨#[59]⟩, .string y4, .string ⟨#[58, 194, 161, 59]⟩].toArray 9)) := (Chg.refl [] w4).alloc _
          have HTa := Lib.hid (HT4.out.keep hal)
          have HCa := Lib.hid (HC4.out.trans (hal.sub (T' := [p]) (by simp)))
          have HFa := Lib.hid (HF4.out.keep (hal.sub (T' := [p]) (by simp)))
          have hgp : w4.heap.size ≠ p := by omega
          clear hal
          go_wp2_with fail
          refine (next_any HTa.out 3 (by omega) (by omega)).mono ?_
          rintro e w5 ⟨r3, j5, hr3, rfl, hT5, hc5⟩
          have hG3 := hG.chg hc5 (by simpa using hgp)
          obtain ⟨u, hu, s, rfl, hs⟩ := row_get hen r3 (by exact hr3)
          have c3 := (hG3.cell r3).trans hu
          have HT5 := Lib.hid hT5
          have HC5 := Lib.hid (HCa.out.trans hc5)
          have HF5 := Lib.hid (HFa.out.keep hc5)
          have hp5 := hT5.lt
          clear hG hG3 hc5 hT5 hu HTa HCa HFa
          obtain ⟨y5, hy5, haddy5⟩ := addS y2 s (201 + db d) (1 + db d + 1 + 2) hy2 hs (by have := HB1.out; have := HB3.out; omega)
          have haddy5 := haddy5 w5
          go_wp2_with fail
          go_ret
          exact ⟨y5, rfl, by have := HB4.out; omega, ⟨_, HT5.out⟩, HC5.out⟩
        · have q43 : ((r : Int) == 5) = false := by simp; omega
          have q74 : ((r : Int) == 6) = true := by simp; omega
          go_upto_region 9 with fail
          go_wp2_with fail
          refine (next_any HT1.out 3 (by omega) (by omega)).mono ?_
          rintro e w2 ⟨x1, j2, hx1, rfl, hT2, hc2⟩
          have HT2 := Lib.hid hT2
          have HF2 := Lib.hid (HF1.out.keep hc2)
          have HC2 := Lib.hid (HC1.out.trans hc2)
          have hp2 := hT2.lt
          clear hT2 hc2
          obtain ⟨b, hb, hb1, hb2⟩ := xyz x1 hx1
          go_upto_region 10 with fail
          go_upto_region 11 with fail
          generalize hup : Utf8.encode (_ % 256) = up
          have hu4 : up.size ≤ 4 := by rw [← hup]; exact encode_le4 _
          clear hup hb
          go_wp2_with fail
          refine (next_any HT2.out 5 (by omega) (by omega)).mono ?_
          rintro e w3 ⟨x2, j3, hx2, rfl, hT3, hc3⟩
          have HT3 := Lib.hid hT3
          have HF3 := Lib.hid (HF2.out.keep hc3)
          have HC3 := Lib.hid (HC2.out.trans hc3)
          have hp3 := hT3.lt
          clear hT3 hc3
          go_wp2_with fail
          refine (digits_any 2 (1 + x2) (by omega) (by omega) w3).mono ?_
          rintro e w4 ⟨s1, rfl, hs1, hc4⟩
          replace hs1 : s1.size ≤ 12 := hs1
          have hT4 := HT3.out.keep hc4
          replace hc4 := hc4.sub (T' := [p]) (by simp)
          have HT4 := Lib.hid hT4
          have HF4 := Lib.hid (HF3.out.keep hc4)
          have HC4 := Lib.hid (HC3.out.trans hc4)
          have hp4 := hT4.lt
          clear hT4 hc4
          obtain ⟨y1, hy1, haddy1⟩ := addS ⟨#[32]⟩ s1 1 12 (by decide) hs1 (by have := HB1.out; have := HB3.out; omega)
          have haddy1 := haddy1 w4
          obtain ⟨y2, hy2, haddy2⟩ := addS y1 up 13 4 hy1 hu4 (by have := HB1.out; have := HB3.out; omega)
          have haddy2 := haddy2 w4
          obtain ⟨y3, hy3, haddy3⟩ := addS y2 ⟨#[91]⟩ 17 1 hy2 (by decide) (by have := HB1.out; have := HB3.out; omega)
          have haddy3 := haddy3 w4
          obtain ⟨y4, hy4, haddy4⟩ := addS y3 ⟨#[b]⟩ 18 1 hy3 (Nat.le_refl 1) (by have := HB1.out; have := HB3.out; omega)
          have haddy4 := haddy4 w4
          obtain ⟨y5, hy5, haddy5⟩ := addS y4 ⟨#[33, 63, 126, 59]⟩ 19 4 hy4 (by decide) (by have := HB1.out; have := HB3.out; omega)
          have haddy5 := haddy5 w4
          go_wp2_with fail
          refine (HD.out (deep - 1) w4 _ (by omega) (by omega) HT4.out HF4.out).mono ?_
          rintro e w5 ⟨s2, rfl, hs2, ⟨j5, hT5⟩, hc5⟩
          have HT5 := Lib.hid hT5
          have HF5 := Lib.hid (HF4.out.keep hc5)
          have HC5 := Lib.hid (HC4.out.trans hc5)
          have hp5 := hT5.lt
          clear hT5 hc5
          go_wp2_with fail
          refine (live_any s2 w5 (by have := HB1.out; have := HB3.out; omega)).mono ?_
          rintro e wl ⟨t2, rfl, ht2, hwl⟩
          subst hwl
          replace ht2 : t2.size ≤ db d := Nat.le_trans ht2 hs2
          obtain ⟨y6, hy6, haddy6⟩ := addS y5 t2 23 (db d) hy5 ht2 (by have := HB1.out; have := HB3.out; omega)
          have haddy6 := haddy6 w5
          obtain ⟨y7, hy7, haddy7⟩ := addS y6 ⟨#[b]⟩ (23 + db d) 1 hy6 (Nat.le_refl 1) (by have := HB1.out; have := HB3.out; omega)
          have haddy7 := haddy7 w5
          obtain ⟨y8, hy8, haddy8⟩ := addS y7 ⟨#[32, 49, 45]⟩ (24 + db d) 3 (by omega) (by decide) (by have := HB1.out; have := HB3.out; omega)
          have haddy8 := haddy8 w5
          obtain ⟨y9, hy9, haddy9⟩ := addS y8 up (27 + db d) 4 (by omega) hu4 (by have := HB1.out; have := HB3.out; omega)
          have haddy9 := haddy9 w5
          obtain ⟨ya, hya, haddya⟩ := addS y9 ⟨#[93]⟩ (31 + db d) 1 (by omega) (by decide) (by have := HB1.out; have := HB3.out; omega)
          have haddya := haddya w5
          go_wp2_with fail
          go_ret
          exact ⟨ya, rfl, by have := HB4.out; omega, ⟨_, HT5.out⟩, HC5.out⟩
theorem deed_any : ∀ d : Nat, d ≤ 3 → DeedOk p A n c l FA fn fc fl d := by
  intro d
  induction d using Nat.strongRecOn with
  | _ d ih => exact fun hd => deed_step d hd fun d' h => ih d' h (by omega)
end
end Go.Proofs.Ytafgpmempgoikaa
namespace Go.Proofs.Ytafgpmempgoikaa
open Go.RowKit
def nmL : List Int := [102, 103, 945, 104, 19990]
def NamesPost (w : World) (e : Ending) (w' : World) : Prop := e = .returned (.slice (some ⟨w.heap.size, 0, none⟩) 5 5) ∧ w' = w.alloc (.cells #[.int .i32 102, .int .i32 103, .int .i32 945, .int .i32 104, .int .i32 19990] 21)
theorem names_any (w : World) : Calls Try.prog 27 #[] w (NamesPost w) := by
  have HP := Lib.hid (show NamesPost w (.returned (.slice (some ⟨w.heap.size, 0, none⟩) 5 5)) (w.alloc (.cells #[.int .i32 102, .int .i32 103, .int .i32 945, .int .i32 104, .int .i32 19990] 21)) from ⟨rfl, rfl⟩)
  go_enter Try.func27, Try.ntmps27
  go_wp2_with fail
  go_ret
  exact HP.out
/-- What is right of a program of a tape. -/
structure GoodU (l : List FnV) : Prop where
  lo : l.length ≤ 3
  fn : ∀ i f, l[i]? = some f → nmL[i]? = some f.name ∧ 0 ≤ f.args ∧ f.args ≤ 2 ∧ f.code.size ≤ 1000 ∧ (rFunc (l.take (i + 1)) f.code).1 = 0
def one1 : ByteArray := ⟨#[97, 32, 49, 43]⟩
theorem one1_tok : tokR one1 = some [⟨97, 0, 0⟩, ⟨48, 1, 0⟩, ⟨43, 0, 0⟩] := by rfl
theorem one1_ok (l : List FnV) : (rFunc l one1).1 = 0 := by
  unfold rFunc
  rw [one1_tok]
  simp only
  rw [show rNest (signs [⟨97, 0, 0⟩, ⟨48, 1, 0⟩, ⟨43, 0, 0⟩]) = some ([-1, -1, -1], 0) from by decide +kernel]
  simp only
  rw [rWalk_next, show rTok l 0 [] (TkV.mk 97 0 0).sign (TkV.mk 97 0 0).name = (0, 1, []) from rfl]
  rw [if_pos rfl, rWalk_next, show rTok l 1 [] (TkV.mk 48 1 0).sign (TkV.mk 48 1 0).name = (0, 2, []) from rfl]
  rw [if_pos rfl, rWalk_next, show rTok l 2 [] (TkV.mk 43 0 0).sign (TkV.mk 43 0 0).name = (0, 1, []) from rfl]
  rfl
theorem GoodU.nil : GoodU [] := ⟨by simp, fun i f h => by simp at h⟩
theorem GoodU.more {l : List FnV} {f : FnV} (h : GoodU l) (hk : l.length < 3) (h1 : nmL[l.length]? = some f.name) (h2 : 0 ≤ f.args ∧ f.args ≤ 2) (h3 : f.code.size ≤ 1000) (h4 : (rFunc (l ++ [f]) f.code).1 = 0) : GoodU (l ++ [f]) := by
  refine ⟨by simp; omega, fun i g hg => ?_⟩
  by_cases hi : i < l.length
  · rw [List.getElem?_append_left hi] at hg
    rw [List.take_append_of_le_length (by omega)]
    exact h.fn i g hg
  · have hil : i < (l ++ [f]).length := (List.getElem?_eq_some_iff.1 hg).1
    simp at hil
    have : i = l.length := by omega
    subst this
    simp at hg
    subst hg
    rw [List.take_of_length_le (by simp)]
    exact ⟨h1, h2.1, h2.2, h3, h4⟩
def UnitPost (w : World) (e : Ending) (w' : World) : Prop :=
  ∃ (pg ms : Int) (v : Value) (l : List FnV), e = .returned (.agg #[.int .i64 pg, .int .i64 ms, v]) ∧ 0 ≤ pg ∧ pg ≤ 2 ∧ pg + 1 ≤ ms ∧ ms ≤ pg + 3 ∧ w'.ownsRow w.heap.size 30 3 v l.length (fnCs l) ∧ GoodU l ∧ 0 < l.length ∧ Chg [] w w'
section
variable {w : World} {A : Option Addr} {n c : Nat} {l : List Int}
theorem Fns.of_own {W : World} {B p n : Nat} {e : TypeId} {v : Value} {l : List FnV} (h : W.ownsRow B e 3 v n (fnCs l)) (hm : n ≤ 1000) (hB : p < B) (ha : ∀ f ∈ l, 0 ≤ f.args ∧ f.args ≤ 2) : ∃ A c, v = .slice A n c ∧ Fns W p A n c l := by
  have hl : l.length = n := by have := h.1; rw [fnCs_len] at this; omega
  rcases h.2 with ⟨rfl, rfl⟩ | ⟨g, cap, cur, rfl, hb, hg, hn, hc, hs, ht⟩
  · exact ⟨none, 0, rfl, hl, fun h => absurd h (by rw [fnCs_len]; omega), Nat.le_refl _, by omega, fun h => absurd h (by omega), ha⟩
  · refine ⟨_, cap, rfl, hl, fun _ => ⟨_, rfl, tf_lt hg, fun j u hj => h.cells rfl j u hj⟩, hn, hm, fun _ ad e => by injection e with e; subst e; exact ⟨rfl, by simp; omega⟩, ha⟩
theorem Fnr.of_own {W : World} {B n : Nat} {e : TypeId} {v : Value} {l : List FnV} (h : W.ownsRow B e 3 v n (fnCs l)) (hm : n ≤ 1000) (ha : ∀ f ∈ l, -9223372036854775808 ≤ f.args ∧ f.args ≤ 9223372036854775807) : ∃ A c, v = .slice A n c ∧ Fnr W A n c l := by
  have hl : l.length = n := by have := h.1; rw [fnCs_len] at this; omega
  rcases h.2 with ⟨rfl, rfl⟩ | ⟨g, cap, cur, rfl, hb, hg, hn, hc, hs, ht⟩
  · exact ⟨none, 0, rfl, hl, fun h => absurd h (by rw [fnCs_len]; omega), Nat.le_refl _, by omega, fun h => absurd h (by omega), ha⟩
  · exact ⟨_, cap, rfl, hl, fun _ => ⟨_, rfl, tf_lt hg, fun j u hj => h.cells rfl j u hj⟩, hn, hm, fun _ ad e => by injection e with e; subst e; rfl, ha⟩
theorem GoodU.args {l : List FnV} (h : GoodU l) : ∀ f ∈ l, 0 ≤ f.args ∧ f.args ≤ 2 := fun f hf => by
  obtain ⟨i, hi, rfl⟩ := List.getElem_of_mem hf
  have := h.fn i _ (List.getElem?_eq_getElem hi)
  exact ⟨this.2.1, this.2.2.1⟩
theorem GoodU.size {l : List FnV} (h : GoodU l) : ∀ f ∈ l, f.code.size ≤ 1000 := fun f hf => by
  obtain ⟨i, hi, rfl⟩ := List.getElem_of_mem hf
  exact (h.fn i _ (List.getElem?_eq_getElem hi)).2.2.2.1
theorem x_new {w6 w9 : World} {p j9 : Nat} (hT : Tp w9 p A n c l j9) (hq : Chg [p] w6 w9) (nm : Int) (a : Nat) : Hid (Whole (w9.alloc (.cells #[.int .i32 nm, .int .i64 (a : Int), .string ⟨#[]⟩] 30)) w9.heap.size 30 [.int .i32 nm, .int .i64 (a : Int), .string ⟨#[]⟩]) ∧
    Hid (∃ j, Tp (w9.alloc (.cells #[.int .i32 nm, .int .i64 (a : Int), .string ⟨#[]⟩] 30)) p A n c l j) ∧ Hid (Chg [p] w6 (w9.alloc (.cells #[.int .i32 nm, .int .i64 (a : Int), .string ⟨#[]⟩] 30))) ∧ Hid (w6.heap.size ≤ w9.heap.size) :=
  ⟨Lib.hid (Whole.new w9 _ _), Lib.hid ⟨_, hT.keep ((Chg.refl [] w9).alloc _)⟩, Lib.hid (hq.alloc _), Lib.hid hq.size⟩
theorem x_set {w6 w9 : World} {p j9 g : Nat} (hX : Whole w9 g 30 [.int .i32 0, .int .i64 0, .string ⟨#[]⟩]) (hT : Tp w9 p A n c l j9) (hq : Chg [p] w6 w9) (hg : w6.heap.size ≤ g) (hp : p < g) (nm : Int) (a : Nat) :
    Hid (Whole (((w9.setCell ⟨g, 0, none⟩ (.int .i32 nm)).setCell ⟨g, 1, none⟩ (.int .i64 (a : Int))).setCell ⟨g, 2, none⟩ (.string ⟨#[]⟩)) g 30 [.int .i32 nm, .int .i64 (a : Int), .string ⟨#[]⟩]) ∧
    Hid (∃ j, Tp (((w9.setCell ⟨g, 0, none⟩ (.int .i32 nm)).setCell ⟨g, 1, none⟩ (.int .i64 (a : Int))).setCell ⟨g, 2, none⟩ (.string ⟨#[]⟩)) p A n c l j) ∧
    Hid (Chg [p] w6 (((w9.setCell ⟨g, 0, none⟩ (.int .i32 nm)).setCell ⟨g, 1, none⟩ (.int .i64 (a : Int))).setCell ⟨g, 2, none⟩ (.string ⟨#[]⟩))) ∧ Hid (w6.heap.size ≤ g) := by
  have h1 := ((hX.set_ 0 (.int .i32 nm)).set_ 1 (.int .i64 (a : Int))).set_ 2 (.string ⟨#[]⟩)
  have hA : ∀ ad, A = some ad → 0 < n → ad.block ≠ g := fun ad e h0 => by have := (hT.spot h0 ad e).2; omega
  have hne : g ≠ p := by omega
  have h2 := ((hT.other (j := 0) hne hA (.int .i32 nm)).other (j := 1) hne hA (.int .i64 (a : Int))).other (j := 2) hne hA (.string ⟨#[]⟩)
  refine ⟨Lib.hid (by simpa using h1), Lib.hid ⟨_, h2⟩, Lib.hid (((hq.setCell ?_ _).setCell ?_ _).setCell ?_ _), Lib.hid hg⟩
  all_goals (intro hh; simp only at hh; omega)
set_option maxHeartbeats 8000000 in
set_option maxRecDepth 100000 in
theorem unit_any (hs : Src w A (nms l)) (hlen : l.length = n) (hspot : 0 < n → ∀ ad, A = some ad → ad.spot = none) (hn : n ≤ 9223372036854775807) (hrng : ∀ x ∈ l, -9223372036854775808 ≤ x ∧ x ≤ 9223372036854775807) :
    Calls Try.prog 11 #[.slice A n c] w (UnitPost w) := by
  obtain ⟨i0, hi0, hz0, hz1, hz2⟩ := info_parts info_func
  have HAR := Lib.hid (And.intro hs (And.intro hlen (And.intro hspot (And.intro hn hrng))))
  clear hs hlen hspot hrng hn
  go_enter Try.func11, Try.ntmps11
  go_upto_region 2 with fail
  obtain ⟨g2, hg2⟩ : ∃ g, g = w.heap.size := ⟨_, rfl⟩
  have HG2 := Lib.hid hg2
  have h1 := (Chg.refl [] w).alloc (.cells #[.int .i64 0, .int .i64 0, .slice none 0 0] 26)
  have hz1 : (w.alloc (.cells #[.int .i64 0, .int .i64 0, .slice none 0 0] 26)).heap.size = g2 + 1 := by rw [hg2]; exact Array.size_push _
  have hW1 := Whole.new w 26 [.int .i64 0, .int .i64 0, .slice none 0 0]
  rw [← hg2] at hW1 ⊢
  generalize hw1 : w.alloc (.cells #[.int .i64 0, .int .i64 0, .slice none 0 0] 26) = w1 at *
  have h2 := (Chg.refl [] w1).alloc (.cells #[.slice A n c, .int .i64 0] 60)
  have hz2' : (w1.alloc (.cells #[.slice A n c, .int .i64 0] 60)).heap.size = g2 + 1 + 1 := by rw [← hz1]; exact Array.size_push _
  have hT2 : Tp (w1.alloc (.cells #[.slice A n c, .int .i64 0] 60)) (g2 + 1) A n c l 0 := by
    refine ⟨by rw [← hz1]; exact Whole.new w1 60 [.slice A n c, .int .i64 0], HAR.out.2.1, HAR.out.1.keep (h1.trans h2), fun hp ad e => ⟨HAR.out.2.2.1 hp ad e, ?_⟩, HAR.out.2.2.2.2, Nat.zero_le _, HAR.out.2.2.2.1⟩
    obtain ⟨ad', e', hb, _⟩ := HAR.out.1 (by simp [nms]; have := HAR.out.2.1; omega)
    rw [e] at e'
    injection e' with e'
    subst e'
    omega
  have HC2 := Lib.hid (h1.trans h2)
  have HR2 := Lib.hid (hW1.keep h2)
  generalize w1.alloc (.cells #[.slice A n c, .int .i64 0] 60) = w2 at *
  have HT2 := Lib.hid hT2
  have HZ2 := Lib.hid hz2'
  clear hw1 h1 h2 hz1 hW1 hz2' hT2 HAR hg2
  obtain ⟨p, hp⟩ : ∃ p, p = g2 + 1 := ⟨_, rfl⟩
  rw [← hp] at HT2 HZ2 ⊢
  have HPP := Lib.hid hp
  clear hp
  go_wp2_with fail
  refine (next_any HT2.out 3 (by omega) (by omega)).mono ?_
  rintro e w3 ⟨pg, a3, hpg, rfl, hT3, hc3⟩
  have HR3 := Lib.hid (HR2.out.chg hc3 (by have := HPP.out; simp; omega))
  have HC3 := Lib.hid (show Chg [] w w3 from HC2.out.then_ hc3 (fun i hi hlt => by have := HPP.out; have := HG2.out; simp at hi; omega))
  have HT3 := Lib.hid hT3
  have HZ3 := Lib.hid (show p + 1 ≤ w3.heap.size from by have := hc3.size; have := HZ2.out; omega)
  clear hT3 hc3 HR2 HC2 HT2 HZ2
  go_upto_region 3 with fail
  have hU4 := Whole.new w3 26 [.int .i64 (pg : Int), .int .i64 0, .slice none 0 0]
  have h4 := (Chg.refl [] w3).alloc (.cells #[.int .i64 (pg : Int), .int .i64 0, .slice none 0 0] 26)
  have hz4 : (w3.alloc (.cells #[.int .i64 (pg : Int), .int .i64 0, .slice none 0 0] 26)).heap.size = w3.heap.size + 1 := Array.size_push _
  obtain ⟨gu, hgu⟩ : ∃ g, g = w3.heap.size := ⟨_, rfl⟩
  rw [← hgu] at hU4 hz4 ⊢
  have HGU := Lib.hid (show p + 1 ≤ gu from by have := HZ3.out; omega)
  have HGW := Lib.hid (show w.heap.size ≤ gu from by have := HC3.out.size; omega)
  generalize w3.alloc (.cells #[.int .i64 (pg : Int), .int .i64 0, .slice none 0 0] 26) = w4 at *
  have HU4 := Lib.hid hU4
  have HC4 := Lib.hid (HC3.out.new h4)
  have HR4 := Lib.hid (HR3.out.keep h4)
  have HT4 := Lib.hid (HT3.out.keep h4)
  have HZ4 := Lib.hid hz4
  clear hU4 h4 hz4 hgu HC3 HR3 HT3 HZ3
  go_cut [] (fun wx => ∃ q : Nat, q < 3 ∧ Hid (Whole wx gu 26 [.int .i64 (pg : Int), .int .i64 ((pg : Int) + 1 + (q : Int)), .slice none 0 0]) ∧ Hid (∃ j, Tp wx p A n c l j) ∧ Hid (Chg [p, gu] w4 wx))
  case first =>
    have hD : Chg [] w4 w4.drew := (Chg.refl [] w4).drew
    have c0 := HU4.out.cell 0
    have c1 := HU4.out.cell 1
    have hpI : (pg : Int) < 3 := by omega
    have hpI0 : (0 : Int) ≤ (pg : Int) := by omega
    have hw1 : IntKind.i64.wrap ((pg : Int) + 1) = (pg : Int) + 1 := IntWalk.i64_in _ (by omega)
    go_region_with (go_at_call 26
                    refine (next_any (HT4.out.keep hD) 3 (by omega) (by omega)).mono ?_
                    rintro e w5 ⟨r, a5, hr, rfl, hT5, hc5⟩
                    have hU5 := (HU4.out.keep hD).chg hc5 (by have := HGU.out; simp; omega)
                    have d0 := hU5.cell 0
                    have d1 := hU5.cell 1
                    have f1 := hU5.frozen 1
                    have hw2 : IntKind.i64.wrap ((pg : Int) + 1 + (r : Int)) = (pg : Int) + 1 + (r : Int) := IntWalk.i64_in _ (by omega))
    all_goals
      have hW6 := hU5.set_ 1 (.int .i64 ((pg : Int) + 1 + (r : Int)))
      have hT6 := hT5.other (g := gu) (j := 1) (by have := HGU.out; omega) (fun ad e h0 => by have := (hT5.spot h0 ad e).2; have := HGU.out; omega) (.int .i64 ((pg : Int) + 1 + (r : Int)))
      have hC6 : Chg [p, gu] w4 (w5.setCell ⟨gu, 1, none⟩ (.int .i64 ((pg : Int) + 1 + (r : Int)))) := ((hD.sub (T' := [p, gu]) (by simp)).trans (hc5.sub (by simp))).setCell (fun _ => by simp) _
      go_wp2_with fail
      go_meet
      exact ⟨r, hr, Lib.hid (by simpa using hW6), Lib.hid ⟨_, hT6⟩, Lib.hid hC6⟩
  case rest =>
    obtain ⟨q, hq, HU5, HT5, HCu⟩ := hcut
    obtain ⟨w5, rfl⟩ : ∃ w5 : World, w5 = wc := ⟨_, rfl⟩
    have HC5 := Lib.hid (show Chg [] w w5 from HC4.out.then_ HCu.out (fun i hi hlt => by have := HPP.out; have := HG2.out; have := HGW.out; simp at hi; omega))
    have HR5 := Lib.hid (HR4.out.chg HCu.out (by have := HPP.out; have := HGU.out; simp; omega))
    have HZ5 := Lib.hid (show gu + 1 ≤ w5.heap.size from by have := HCu.out.size; have := HZ4.out; omega)
    clear HU4 HC4 HR4 HT4 HZ4 HCu
    go_wp2_with fail
    go_loopw [5] (fun i wr => ∃ (k : Nat) (fl : List FnV) (vf : Value), i = .int .i64 (k : Int) ∧ k ≤ 3 ∧ Hid (Whole wr gu 26 [.int .i64 (pg : Int), .int .i64 ((pg : Int) + 1 + (q : Int)), vf]) ∧ Hid (∃ j, Tp wr p A n c l j) ∧
      Hid (wr.ownsRow (gu + 1) 30 3 vf k (fnCs fl)) ∧ Hid (GoodU fl) ∧ Hid (Whole wr g2 26 [.int .i64 0, .int .i64 0, .slice none 0 0]) ∧ Hid (Chg [] w wr) ∧ Hid (gu + 1 ≤ wr.heap.size)) (fun i _ => 3 - (intOf i).toNat)
    case atStart => exact ⟨0, [], _, rfl, by omega, HU5, HT5, Lib.hid (World.ownsRow_nil _ _ _ _), Lib.hid GoodU.nil, HR5, HC5, HZ5⟩
    case round =>
      obtain ⟨k, fl, vf, rfl, hk, HU, HTj, HO, HG, HR, HC, HZ⟩ := hrel
      obtain ⟨jt, hTj⟩ := HTj.out
      have HT := Lib.hid hTj
      clear hTj HTj
      go_wp2_with fail
      refine (next_any HT.out 3 (by omega) (by omega)).mono ?_
      rintro e w6 ⟨r6, j6, hr6, rfl, hT6, hc6⟩
      have HT6 := Lib.hid hT6
      have HU6 := Lib.hid (HU.out.chg hc6 (by have := HGU.out; simp; omega))
      have HO6 := Lib.hid (rown_chg HO.out hc6 (by have := HGU.out; simp; omega))
      have HR6 := Lib.hid (HR.out.chg hc6 (by have := HPP.out; simp; omega))
      have HC6 := Lib.hid (show Chg [] w w6 from HC.out.then_ hc6 (fun i hi hlt => by have := HPP.out; have := HG2.out; simp at hi; omega))
      have HZ6 := Lib.hid (Nat.le_trans HZ.out hc6.size)
      clear hT6 hc6 HT HU HO HR HC HZ
      by_cases hkr : k < 1 + r6
      · have hkI : (k : Int) < 1 + (r6 : Int) := by omega
        have hk3 : k < 3 := by omega
        obtain ⟨nm, hnm⟩ : ∃ nm, nmL[k]? = some nm := ⟨_, List.getElem?_eq_getElem (by simp [nmL]; omega)⟩
        have HNM := Lib.hid hnm
        have hk5 : (k : Int) < 5 := by omega
        have hD : Chg [] w6 w6.drew := (Chg.refl [] w6).drew
        have hrow : ∀ W : World, (W.alloc (.cells #[.int .i32 102, .int .i32 103, .int .i32 945, .int .i32 104, .int .i32 19990] 21)).cell? ⟨W.heap.size, k, none⟩ = some (.int .i32 nm) := fun W => ((Whole.new W 21 [.int .i32 102, .int .i32 103, .int .i32 945, .int .i32 104, .int .i32 19990]).cell k).trans (by
          have h3 : k = 0 ∨ k = 1 ∨ k = 2 := by omega
          rcases h3 with rfl | rfl | rfl <;> (simp [nmL] at hnm; subst hnm; rfl))
        have HROW := Lib.hid (show [Value.int .i32 102, .int .i32 103, .int .i32 945, .int .i32 104, .int .i32 19990][k]? = some (.int .i32 nm) from by
          have h3 : k = 0 ∨ k = 1 ∨ k = 2 := by omega
          rcases h3 with rfl | rfl | rfl <;> (simp [nmL] at hnm; subst hnm; rfl))
        clear hnm
        go_wp2_with fail
        go_cut [6] (fun s6 wx => ∃ g a : Nat, s6 = .pointer (some ⟨g, 0, none⟩) ∧ a < 3 ∧ Hid (Whole wx g 30 [.int .i32 nm, .int .i64 (a : Int), .string ⟨#[]⟩]) ∧ Hid (∃ j, Tp wx p A n c l j) ∧ Hid (Chg [p] w6 wx) ∧ Hid (w6.heap.size ≤ g))
        case first =>
          go_region_with (first
            | (go_at_call 26
               have _t := hX8
               refine (next_any ((HT6.out.keep hD).keep hN8c) 3 (by omega) (by omega)).mono ?_
               rintro e w9 ⟨r9, j9, hr9, rfl, hT9, hc9⟩
               have hq9 : Chg [p] w6 w9 := ((hD.trans hN8c).sub (T' := [p]) (by simp)).trans hc9
               have hN9 := hN8.chg hc9 (by have := HN8z.out; simp; omega)
               have d9 := (hN9.cell k).trans (HROW.out)
               have hX9 := hX8.chg hc9 (by have := HN8z.out; simp; omega)
               have x0 := hX9.cell 0
               have x1 := hX9.cell 1
               have x2 := hX9.cell 2
               have y0 := hX9.frozen 0
               have y1 := hX9.frozen 1
               have y2 := hX9.frozen 2)
            | (go_at_call 26
               have hal : Chg [] w8 (w8.alloc (.cells #[.int .i32 0, .int .i64 0, .string { data := #[] }] 30)) := (Chg.refl [] w8).alloc _
               refine (next_any (((HT6.out.keep hD).keep hN8c).keep hal) 3 (by omega) (by omega)).mono ?_
               rintro e w9 ⟨r9, j9, hr9, rfl, hT9, hc9⟩
               have hq9 : Chg [p] w6 w9 := (((hD.trans hN8c).trans hal).sub (T' := [p]) (by simp)).trans hc9
               have hN9 := (hN8.keep hal).chg hc9 (by have := HN8z.out; simp; omega)
               have d9 := (hN9.cell k).trans (HROW.out)
               have hX9 := (Whole.new w8 30 [.int .i32 0, .int .i64 0, .string ⟨#[]⟩]).chg hc9 (by have := HN8z.out; have := hN8c.size; simp; simp at this; omega)
               have x0 := hX9.cell 0
               have x1 := hX9.cell 1
               have x2 := hX9.cell 2
               have y0 := hX9.frozen 0
               have y1 := hX9.frozen 1
               have y2 := hX9.frozen 2)
            | (go_at_call 26
               refine (next_any ((HT6.out.keep hD).keep hN8c) 3 (by omega) (by omega)).mono ?_
               rintro e w9 ⟨r9, j9, hr9, rfl, hT9, hc9⟩
               have hq9 : Chg [p] w6 w9 := ((hD.trans hN8c).sub (T' := [p]) (by simp)).trans hc9
               have hN9 := hN8.chg hc9 (by have := HN8z.out; simp; omega)
               have d9 := (hN9.cell k).trans (HROW.out)
               have d9a := cell_keep d9 ((Chg.refl [] w9).alloc (.cells #[.int .i32 0, .int .i64 0, .string { data := #[] }] 30)))
            | (go_at_call 27
               refine (names_any (w6.drew.alloc (.cells #[.int .i32 0, .int .i64 0, .string { data := #[] }] 30))).mono ?_
               rintro e w8 ⟨rfl, hw8⟩
               have hN8c : Chg [] w6.drew w8 := by rw [hw8]; exact ((Chg.refl [] w6.drew).alloc _).alloc _
               have hsz : (w6.drew.alloc (.cells #[.int .i32 0, .int .i64 0, .string { data := #[] }] 30)).heap.size = w6.heap.size + 1 := Array.size_push _
               have hN8 : Whole w8 (w6.heap.size + 1) 21 [.int .i32 102, .int .i32 103, .int .i32 945, .int .i32 104, .int .i32 19990] := by rw [hw8, ← hsz]; exact Whole.new (w6.drew.alloc (.cells #[.int .i32 0, .int .i64 0, .string { data := #[] }] 30)) 21 _
               have hX8 : Whole w8 w6.heap.size 30 [.int .i32 0, .int .i64 0, .string ⟨#[]⟩] := by rw [hw8]; exact (Whole.new w6.drew 30 [.int .i32 0, .int .i64 0, .string ⟨#[]⟩]).keep ((Chg.refl [] _).alloc _)
               have HN8z := Lib.hid (show p < w6.heap.size from HT6.out.lt)
               have d8 : w8.cell? ⟨w6.heap.size + 1, k, none⟩ = some (.int .i32 nm) := (hN8.cell k).trans HROW.out
               clear hw8 hsz)
            | (go_at_call 27
               refine (names_any w6.drew).mono ?_
               rintro e w8 ⟨rfl, hw8⟩
               have hN8c : Chg [] w6.drew w8 := by rw [hw8]; exact (Chg.refl [] w6.drew).alloc _
               have hN8 : Whole w8 w6.heap.size 21 [.int .i32 102, .int .i32 103, .int .i32 945, .int .i32 104, .int .i32 19990] := by rw [hw8]; exact Whole.new w6.drew 21 _
               have HN8z := Lib.hid (show p < w6.heap.size from HT6.out.lt)
               have d8 : w8.cell? ⟨w6.heap.size, k, none⟩ = some (.int .i32 nm) := by rw [hw8]; exact hrow w6.drew
               have d8a := cell_keep d8 ((Chg.refl [] w8).alloc (.cells #[.int .i32 0, .int .i64 0, .string { data := #[] }] 30))
               clear hw8))
          all_goals
            go_wp2_with fail
            go_meet
            first
              | exact ⟨w9.heap.size, r9, rfl, hr9, x_new hT9 hq9 _ _⟩
              | exact ⟨w8.heap.size, r9, rfl, hr9, x_set hX9 hT9 hq9 hN8c.size (by have := HN8z.out; have := hN8c.size; simp at this; omega) _ _⟩
              | exact ⟨w6.heap.size, r9, rfl, hr9, x_set hX9 hT9 hq9 (Nat.le_refl _) HN8z.out _ _⟩
        case rest =>
          obtain ⟨g6, a6, rfl, ha6, HX, HTx, HCx, HGx⟩ := hcut
          obtain ⟨w7, rfl⟩ : ∃ w7 : World, w7 = wc := ⟨_, rfl⟩
          obtain ⟨j7, hT7⟩ := HTx.out
          have HT7 := Lib.hid hT7
          have HU7 := Lib.hid (HU6.out.chg HCx.out (by have := HGU.out; simp; omega))
          have HO7 := Lib.hid (rown_chg HO6.out HCx.out (by have := HGU.out; simp; omega))
          have HR7 := Lib.hid (HR6.out.chg HCx.out (by have := HPP.out; simp; omega))
          have HC7 := Lib.hid (show Chg [] w w7 from HC6.out.then_ HCx.out (fun i hi hlt => by have := HPP.out; have := HG2.out; simp at hi; omega))
          have HZ7 := Lib.hid (Nat.le_trans HZ6.out HCx.out.size)
          have HGX := Lib.hid (show gu + 1 ≤ g6 from Nat.le_trans HZ6.out HGx.out)
          have HOL := Lib.hid (fun b (hb : vf.ownBlock = some b) => show b < g6 from Nat.lt_of_lt_of_le (HO6.out.lt b hb).2 HGx.out)
          clear hT7 HTx HU6 HO6 HR6 HC6 HCx HT6
          obtain ⟨AF, cf, rfl, hFs⟩ := Fns.of_own (p := p) HO7.out (by omega) (by have := HGU.out; omega) HG.out.args
          have HF7 := Lib.hid hFs
          clear hFs
          go_wp2_with fail
          refine (next_any HT7.out 4 (by omega) (by omega)).mono ?_
          rintro e w8 ⟨r8, j8, hr8, rfl, hT8, hc8⟩
          have HT8 := Lib.hid hT8
          have HC78 := Lib.hid hc8
          clear hT8 hc8
          go_wp2_with fail
          go_loopw [7, 8] (fun v i wr => ∃ (m : Nat) (s : ByteArray), i = .int .i64 (m : Int) ∧ m ≤ 3 ∧ v = .string s ∧ s.size < 250 ∧ Hid (∃ j, Tp wr p A n c l j) ∧ Hid (Chg [p] w7 wr)) (fun _ i _ => (intOf i).toNat)
          case atStart => exact ⟨r8, _, rfl, by omega, rfl, by decide, Lib.hid ⟨_, HT8.out⟩, HC78⟩
          case round =>
            obtain ⟨m, s, rfl, hm, rfl, hs, HTm, HCm⟩ := hrel
            have HUm := Lib.hid (HU7.out.chg HCm.out (by have := HGU.out; simp; omega))
            by_cases hm0 : 0 < m
            · have hm0I : (0 : Int) < (m : Int) := by omega
              have u2 := HUm.out.cell 2
              go_wp2_with fail
              obtain ⟨jm, hTm⟩ := HTm.out
              refine ((deed_any 2 (by omega)) 2 wr jm (by omega) (by omega) hTm (HF7.out.keep HCm.out)).mono ?_
              rintro e w9 ⟨d, rfl, hd, hT9, hc9⟩
              replace hd : d.size ≤ 5800 := hd
              have HT9 := Lib.hid hT9
              have HC9 := Lib.hid (HCm.out.trans hc9)
              clear hT9 hc9 hTm u2 HUm
              by_cases hsd : s.size + d.size < 250
              · have hsdI : (s.size : Int) + (d.size : Int) < 250 := by omega
                obtain ⟨y1, hy1, haddy1⟩ := addS s d s.size d.size (Nat.le_refl _) (Nat.le_refl _) (by omega)
                have haddy1 := haddy1 w9
                go_wp2_with fail
                refine (halts_any d w9 (by omega)).mono ?_
                rintro e w10 ⟨b, rfl, hw10⟩
                subst hw10
                cases b
                · go_wp2_with fail
                  go_roundw
                  case rel => exact ⟨m - 1, y1, by go_num, by omega, rfl, by omega, HT9, HC9⟩
                  case measure => simp [intOf]; omega
                · go_wp2_with fail
                  go_roundw
                  case rel => exact ⟨m - 1, s, by go_num, by omega, rfl, by omega, HT9, HC9⟩
                  case measure => simp [intOf]; omega
              · have hsdI : 250 ≤ (s.size : Int) + (d.size : Int) := by omega
                go_wp2_with fail
                go_roundw
                case rel => exact ⟨m - 1, s, by go_num, by omega, rfl, by omega, HT9, HC9⟩
                case measure => simp [intOf]; omega
            · have hm0I : ¬ (0 : Int) < (m : Int) := by omega
              have u2 := HUm.out.cell 2
              go_wp2_with fail
              obtain ⟨jm, hTm⟩ := HTm.out
              refine ((value_any 3 (by omega)) 3 wr jm (by omega) (by omega) hTm (HF7.out.keep HCm.out)).mono ?_
              rintro e w9 ⟨v9, rfl, hv9, hT9, hc9⟩
              replace hv9 : v9.size ≤ 1880 := hv9
              have HT9 := Lib.hid hT9
              have HC9 := Lib.hid (HCm.out.trans hc9)
              clear hT9 hc9 hTm u2 HUm
              go_upto_if 73 with fail
              have hszs : s.size + v9.size ≤ 4000 := by omega
              go_cut [10] (fun v wx => (∃ t : ByteArray, v = .string t ∧ s.size + t.size ≤ 1000) ∧ wx = w9)
              case first =>
                by_cases hbig : 400 < s.size + v9.size
                · have hbI : (400 : Int) < (s.size : Int) + (v9.size : Int) := by omega
                  go_wp2_with fail
                  go_meet
                  exact ⟨⟨_, rfl, by show s.size + 2 ≤ 1000; omega⟩, rfl⟩
                · have hbI : (s.size : Int) + (v9.size : Int) ≤ 400 := by omega
                  go_wp2_with fail
                  go_meet
                  exact ⟨⟨_, rfl, by omega⟩, rfl⟩
              case rest =>
                obtain ⟨⟨t, rfl, hst⟩, hcw⟩ := hcut
                rw [hcw]
                clear hcw
                obtain ⟨y, hy, haddy⟩ := addS s t s.size t.size (Nat.le_refl _) (Nat.le_refl _) (by omega)
                have haddy := haddy w9
                have HX9 := Lib.hid (HX.out.chg HC9.out (by have := HGX.out; have := HGU.out; simp; omega))
                have x2 := HX9.out.cell 2
                have f2 := HX9.out.frozen 2
                go_upto_region 19 with fail
                have HX10 := Lib.hid (show Whole (w9.setCell ⟨g6, 2, none⟩ (.string y)) g6 30 [.int .i32 nm, .int .i64 (a6 : Int), .string y] from by have := HX9.out.set_ 2 (.string y); simpa using this)
                have HU10 := Lib.hid ((HU7.out.chg HC9.out (by have := HGU.out; simp; omega)).far (p := ⟨g6, 2, none⟩) (by simp only; have := HGX.out; omega) (.string y))
                have HR10 := Lib.hid ((HR7.out.chg HC9.out (by have := HPP.out; simp; omega)).far (p := ⟨g6, 2, none⟩) (by simp only; have := HGX.out; have := HGU.out; have := HPP.out; omega) (.string y))
                have HO10 := Lib.hid (rown_far (p := ⟨g6, 2, none⟩) (u := .string y) (rown_chg HO7.out HC9.out (by have := HGU.out; simp; omega)) (fun hb => by have := HOL.out _ hb; simp only at this; omega))
                have HT10 := Lib.hid (HT9.out.imp fun j hj => hj.other (g := g6) (j := 2) (by have := HGX.out; have := HGU.out; omega) (fun ad e h0 => by have := (hj.spot h0 ad e).2; have := HGX.out; have := HGU.out; omega) (.string y))
                have HC10 := Lib.hid (show Chg [] w (w9.setCell ⟨g6, 2, none⟩ (.string y)) from (HC7.out.then_ HC9.out (fun i hi hlt => by have := HPP.out; have := HG2.out; simp at hi; omega)).setCell (fun hh => by simp only at hh; have := HGX.out; have := HGW.out; omega) _)
                have HZ10 := Lib.hid (show gu + 1 ≤ (w9.setCell ⟨g6, 2, none⟩ (.string y)).heap.size from by rw [size_set]; exact Nat.le_trans HZ7.out HC9.out.size)
                generalize w9.setCell ⟨g6, 2, none⟩ (.string y) = w10 at HX10 HU10 HR10 HO10 HT10 HC10 HZ10 ⊢
                clear haddy x2 f2 HX9
                have x0 := HX10.out.cell 0
                have x1 := HX10.out.cell 1
                have x2 := HX10.out.cell 2
                have u2 := HU10.out.cell 2
                have HAL := Lib.hid (show Chg [] w10 (w10.alloc (.cells #[.int .i32 nm, .int .i64 (a6 : Int), .string y] 30)) from (Chg.refl [] w10).alloc _)
                have HOA := Lib.hid (rown_keep HO10.out HAL.out)
                have hkb : k < 3 := hk3
                go_upto_region 20 with (at_builtin
                                        refine wpList_append_own _ rfl (.tmp 79) (.tmp 81) _ rfl (gu + 1) 30 i0 _ 3 32 Try.underlying24 hi0 hz0 hz1 hz2 rfl (by decide) (.slice AF k cf) k (fnCs fl) rfl HOA.out ⟨w10.heap.size, 0, none⟩ 1 1 [.int .i32 nm, .int .i64 (a6 : Int), .string y] rfl rfl (cells_page _ _ _) (by simp [Value.oneCell']) (by simp only [maxLen]; omega) (by omega) (by have := HZ10.out; simp; omega) ?_
                                        intro v' w11 ho11 hg11 _
                                        obtain ⟨A11, c11, rfl, _⟩ := rown_slice ho11
                                        have HO11 := Lib.hid ho11
                                        have HG11 := Lib.hid hg11
                                        have HU11 := Lib.hid (whole_grown (HU10.out.keep HAL.out) HOA.out (by decide) hg11)
                                        have f2 := HU11.out.frozen 2
                                        have e2 := HU11.out.cell 2
                                        clear ho11 hg11)
                have HU12 := Lib.hid (show Whole (w11.setCell ⟨gu, 2, none⟩ (.slice A11 (k + 1) c11)) gu 26 [.int .i64 (pg : Int), .int .i64 ((pg : Int) + 1 + (q : Int)), .slice A11 (k + 1) c11] from by have := HU11.out.set_ 2 (.slice A11 (k + 1) c11); simpa using this)
                have HO12 := Lib.hid (show (w11.setCell ⟨gu, 2, none⟩ (.slice A11 (k + 1) c11)).ownsRow (gu + 1) 30 3 (.slice A11 (k + 1) c11) (k + 1) (fnCs (fl ++ [⟨nm, (a6 : Int), y⟩])) from by
                  rw [fnCs_app, fnCs_one]
                  exact rown_far (p := ⟨gu, 2, none⟩) (u := .slice A11 (k + 1) c11) HO11.out (fun hb => by have := (HO11.out.lt _ hb).1; simp only at this; omega))
                have HR12 := Lib.hid ((whole_grown (HR10.out.keep HAL.out) HOA.out (by decide) HG11.out).far (p := ⟨gu, 2, none⟩) (by simp only; have := HGU.out; have := HPP.out; omega) (.slice A11 (k + 1) c11))
                have HT12 := Lib.hid (HT10.out.imp fun j hj => ((hj.keep HAL.out).grown HOA.out HG11.out (by decide) (by have := HGU.out; omega)).other (g := gu) (j := 2) (by have := HGU.out; omega) (fun ad e h0 => by have := (hj.spot h0 ad e).2; have := HGU.out; omega) (.slice A11 (k + 1) c11))
                have HC12 := Lib.hid (show Chg [] w (w11.setCell ⟨gu, 2, none⟩ (.slice A11 (k + 1) c11)) from (chg_grown2 (HC10.out.new HAL.out) HG11.out (fun g hg => by have := (HOA.out.lt g hg).1; have := HGW.out; omega)).setCell (fun hh => by simp only at hh; have := HGW.out; omega) _)
                have HZ12 := Lib.hid (show gu + 1 ≤ (w11.setCell ⟨gu, 2, none⟩ (.slice A11 (k + 1) c11)).heap.size from by rw [size_set]; exact Nat.le_trans HZ10.out (Nat.le_trans HAL.out.size HG11.out.size))
                have HFL := Lib.hid (show fl.length = k from by have := HO7.out.1; rw [fnCs_len] at this; omega)
                generalize w11.setCell ⟨gu, 2, none⟩ (.slice A11 (k + 1) c11) = w12 at HU12 HO12 HR12 HT12 HC12 HZ12 ⊢
                clear f2 e2 HU11 HO11 HG11 HOA HAL x0 x1 x2 u2
                have HHF := Lib.hid (show ∀ f ∈ fl ++ [⟨nm, (a6 : Int), y⟩], 0 ≤ f.args ∧ f.args ≤ 2 from fun f hf => by
                  rcases List.mem_append.1 hf with hf | hf
                  · exact HG.out.args f hf
                  · rw [List.mem_singleton] at hf; subst hf; simp only; omega)
                have HHS := Lib.hid (show ∀ f ∈ fl ++ [⟨nm, (a6 : Int), y⟩], f.code.size ≤ 1000000 from fun f hf => by
                  rcases List.mem_append.1 hf with hf | hf
                  · have := HG.out.size f hf; omega
                  · rw [List.mem_singleton] at hf; subst hf; simp only; omega)
                obtain ⟨A', c', e', hFr⟩ := Fnr.of_own HO12.out (by omega) (fun f hf => by have := HHF.out f hf; omega)
                simp only [Value.slice.injEq, true_and] at e'
                obtain ⟨e1, e2⟩ := e'
                subst e1; subst e2
                have HFR := Lib.hid hFr
                clear hFr
                have u0 := HU12.out.cell 0
                have u1 := HU12.out.cell 1
                have u2 := HU12.out.cell 2
                have HRF := Lib.hid (show rFn (fl ++ [⟨nm, (a6 : Int), y⟩]) (k : Int) = rFunc (fl ++ [⟨nm, (a6 : Int), y⟩]) y from by
                  unfold rFn
                  rw [if_neg (by rw [List.length_append, List.length_singleton, HFL.out]; omega), show ((k : Int)).toNat = k from rfl, ← HFL.out]
                  simp)
                have HNX := Lib.hid (show ∀ z : ByteArray, z.size ≤ 1000 → (rFunc (fl ++ [⟨nm, (a6 : Int), z⟩]) z).1 = 0 → GoodU (fl ++ [⟨nm, (a6 : Int), z⟩]) from fun z hz h0 => HG.out.more (by rw [HFL.out]; omega) (by rw [HFL.out]; exact HNM.out) (by simp only; omega) hz h0)
                have hy1000 : y.size ≤ 1000 := by omega
                generalize hRR : rFn (fl ++ [⟨nm, (a6 : Int), y⟩]) (k : Int) = RR at HRF
                have HRR := Lib.hid hRR
                clear hRR
                go_wp2_with fail
                refine (rfunc_any HFR.out HHS.out (k : Int)).mono ?_
                rw [HRR.out]
                rintro e w13 ⟨vh, rfl, hoh, hc13⟩
                obtain ⟨AH, cH, rfl, _⟩ := own_slice hoh
                have HU13 := Lib.hid (HU12.out.keep hc13)
                have HO13 := Lib.hid (rown_keep HO12.out hc13)
                have HR13 := Lib.hid (HR12.out.keep hc13)
                have HT13 := Lib.hid (HT12.out.imp fun j hj => hj.keep hc13)
                have HC13 := Lib.hid (HC12.out.new hc13)
                have HZ13 := Lib.hid (Nat.le_trans HZ12.out hc13.size)
                clear hoh hc13 u0 u1 u2
                by_cases he : RR.1 = 0
                · have qe : (RR.1 != 0) = false := by simpa using he
                  have HG13 := Lib.hid (HNX.out y hy1000 (by rw [← HRF.out]; exact he))
                  clear he
                  go_wp2_with fail
                  go_roundw
                  case rel => exact ⟨k + 1, fl ++ [⟨nm, (a6 : Int), y⟩], _, by go_num, by omega, HU13, HT13, HO13, HG13, HR13, HC13, HZ13⟩
                  case measure => simp [intOf]; omega
                · have qe : (RR.1 != 0) = true := by simpa using he
                  clear he
                  have HG13 := Lib.hid (HNX.out one1 (by decide) (one1_ok _))
                  have u2 := HU13.out.cell 2
                  have hkl : (fl ++ [⟨nm, (a6 : Int), y⟩])[k]? = some ⟨nm, (a6 : Int), y⟩ := by rw [← HFL.out]; simp
                  obtain ⟨gf, e, y2⟩ := rown_cell HO13.out rfl ((fnCs_get _ k _ 2 hkl (by omega)).trans rfl)
                  subst e
                  have z2 := rown_frozen (j := k * 3 + 2) HO13.out
                  have hgf := (HO13.out.lt gf rfl).1
                  have hkI3 : (k : Int) < (k : Int) + 1 := by omega
                  have HO14 := Lib.hid (show (w13.setCell ⟨gf, k * 3 + 2, none⟩ (.string ⟨#[97, 32, 49, 43]⟩)).ownsRow (gu + 1) 30 3 (.slice (some ⟨gf, 0, none⟩) (k + 1) c11) (k + 1) (fnCs (fl ++ [⟨nm, (a6 : Int), one1⟩])) from by
                    have h := rown_set (j := k * 3 + 2) (u := .string ⟨#[97, 32, 49, 43]⟩) HO13.out
                    have e : (fnCs (fl ++ [⟨nm, (a6 : Int), y⟩])).set (k * 3 + 2) (.string ⟨#[97, 32, 49, 43]⟩) = fnCs (fl ++ [⟨nm, (a6 : Int), one1⟩]) := by
                      rw [fnCs_app, fnCs_app, List.set_append_right _ _ (by rw [fnCs_len, HFL.out]; omega), fnCs_len, HFL.out, show k * 3 + 2 - k * 3 = 2 from by omega]
                      rfl
                    rw [e] at h
                    exact h)
                  have HU14 := Lib.hid (HU13.out.far (p := ⟨gf, k * 3 + 2, none⟩) (by simp only; omega) (.string ⟨#[97, 32, 49, 43]⟩))
                  have HR14 := Lib.hid (HR13.out.far (p := ⟨gf, k * 3 + 2, none⟩) (by simp only; have := HGU.out; have := HPP.out; omega) (.string ⟨#[97, 32, 49, 43]⟩))
                  have HT14 := Lib.hid (HT13.out.imp fun j hj => hj.other (g := gf) (j := k * 3 + 2) (by have := HGU.out; omega) (fun ad e h0 => by have := (hj.spot h0 ad e).2; have := HGU.out; omega) (.string ⟨#[97, 32, 49, 43]⟩))
                  have HC14 := Lib.hid (HC13.out.setCell (p := ⟨gf, k * 3 + 2, none⟩) (fun hh => by simp only at hh; have := HGW.out; omega) (.string ⟨#[97, 32, 49, 43]⟩))
                  have HZ14 := Lib.hid (show gu + 1 ≤ (w13.setCell ⟨gf, k * 3 + 2, none⟩ (.string ⟨#[97, 32, 49, 43]⟩)).heap.size from by rw [size_set]; exact HZ13.out)
                  clear hkl
                  go_wp2_with fail
                  go_roundw
                  case rel => exact ⟨k + 1, fl ++ [⟨nm, (a6 : Int), one1⟩], _, by go_num, by omega, HU14, HT14, HO14, HG13, HR14, HC14, HZ14⟩
                  case measure => simp [intOf]; omega
      · have hkI : 1 + (r6 : Int) ≤ (k : Int) := by omega
        obtain ⟨AF, cf, rfl, _⟩ := rown_slice HO6.out
        have u0 := HU6.out.cell 0
        have u1 := HU6.out.cell 1
        have u2 := HU6.out.cell 2
        have v0 := HR6.out.cell 0
        have v1 := HR6.out.cell 1
        have v2 := HR6.out.cell 2
        have f0 := HR6.out.frozen 0
        have f1 := HR6.out.frozen 1
        have f2 := HR6.out.frozen 2
        go_wp2_with fail
        have HP := Lib.hid (show UnitPost w (.returned (.agg #[.int .i64 (pg : Int), .int .i64 ((pg : Int) + 1 + (q : Int)), .slice AF k cf])) (((w6.setCell ⟨g2, 0, none⟩ (.int .i64 (pg : Int))).setCell ⟨g2, 1, none⟩ (.int .i64 ((pg : Int) + 1 + (q : Int)))).setCell ⟨g2, 2, none⟩ (.slice AF k cf)) from by
          have hfl : fl.length = k := by have := HO6.out.1; rw [fnCs_len] at this; omega
          have haw : ∀ b, (Value.slice AF k cf).ownBlock = some b → b ≠ g2 := fun b hb => by have := (HO6.out.lt b hb).1; have := HGU.out; have := HPP.out; omega
          have ho := rown_far (p := ⟨g2, 2, none⟩) (u := .slice AF k cf) (rown_far (p := ⟨g2, 1, none⟩) (u := .int .i64 ((pg : Int) + 1 + (q : Int))) (rown_far (p := ⟨g2, 0, none⟩) (u := .int .i64 (pg : Int)) HO6.out (fun hb => haw _ hb rfl)) (fun hb => haw _ hb rfl)) (fun hb => haw _ hb rfl)
          refine ⟨_, _, _, fl, rfl, by omega, by omega, by omega, by omega, ?_, HG.out, by omega, ?_⟩
          · rw [hfl]
            exact own_more_n ho (by have := HGW.out; omega)
          · exact ((HC6.out.setCell (fun hh => by simp at hh; have := HG2.out; omega) _).setCell (fun hh => by simp at hh; have := HG2.out; omega) _).setCell (fun hh => by simp at hh; have := HG2.out; omega) _)
        have hRf := ((HR6.out.set_ 0 (.int .i64 (pg : Int))).set_ 1 (.int .i64 ((pg : Int) + 1 + (q : Int)))).set_ 2 (.slice AF k cf)
        have e0 := hRf.cell 0
        have e1 := hRf.cell 1
        have e2 := hRf.cell 2
        clear hRf
        generalize ((w6.setCell ⟨g2, 0, none⟩ (.int .i64 (pg : Int))).setCell ⟨g2, 1, none⟩ (.int .i64 ((pg : Int) + 1 + (q : Int)))).setCell ⟨g2, 2, none⟩ (.slice AF k cf) = wf at HP e0 e1 e2 ⊢
        simp only [List.set_cons_zero, List.set_cons_succ, List.getElem?_cons_zero, List.getElem?_cons_succ] at e0 e1 e2
        refine bodyPost_ret (v := .agg #[.int .i64 (pg : Int), .int .i64 ((pg : Int) + 1 + (q : Int)), .slice AF k cf]) (by simp [results, Try.results11, go_sem, e0, e1, e2]) rfl HP.out
end
end Go.Proofs.Ytafgpmempgoikaa
namespace Go.Proofs.Ytafgpmempgoikaa
open Go.RowKit
theorem funcs_of (W : World) (a b v : Value) : (Instr.field 26 (.agg #[a, b, v]) 2).run Try.prog W = .ok v W := by
  have h1 : (part 24 #[a, b, v] 2).run Try.prog W = .ok v W := by simp [part, isAgg, run_underlying Try.underlying24]
  simp [Instr.field, run_underlying Try.underlying26, asAgg, h1]
end Go.Proofs.Ytafgpmempgoikaa
namespace Go.Proofs.Ytafgpmempgoikaa
structure InvR (ss : List Int) (n : Nat) (r : RSt) : Prop where
  len : r.to.length = ss.length
  op : ∀ p ∈ r.op, p < n ∧ (ss[p]? = some 63 ∨ ss[p]? = some 58 ∨ ss[p]? = some 91)
  at_ : ∀ (j : Nat) (s : Int), j < n → ss[j]? = some s → ∃ v, r.to[j]? = some v ∧ (s = 63 ∨ s = 58 → j ∈ r.op ∨ ((j : Int) < v ∧ v ≤ (n : Int))) ∧ (s = 93 → 0 ≤ v ∧ v < (j : Int) ∧ ss[v.toNat]? = some 91) ∧ (s ≠ 63 → s ≠ 58 → s ≠ 93 → v = -1)
theorem lt_of_some {α : Type} {l : List α} {i : Nat} {x : α} (h : l[i]? = some x) : i < l.length := (List.getElem?_eq_some_iff.1 h).1
theorem invR_step {ss : List Int} {n : Nat} {r r' : RSt} {s : Int} (h : InvR ss n r) (hs : ss[n]? = some s) (ht : rTake ss n s ⟨r.to.set n (-1), r.deep, r.op⟩ = some r') : InvR ss (n + 1) r' := by
  have hn := lt_of_some hs
  have hnl : n < r.to.length := by rw [h.len]; exact hn
  have hnew : (r.to.set n (-1))[n]? = some (-1) := List.getElem?_set_self hnl
  have hold : ∀ j : Nat, j < n → (r.to.set n (-1))[j]? = r.to[j]? := fun j hj => List.getElem?_set_ne (by omega)
  have mk : ∀ (to' : List Int) (d : Nat) (op' : List Nat), to'.length = ss.length → (∀ p ∈ op', p < n + 1 ∧ (ss[p]? = some 63 ∨ ss[p]? = some 58 ∨ ss[p]? = some 91)) →
      (∀ (j : Nat) (x : Int), j < n → ss[j]? = some x → ∃ v, to'[j]? = some v ∧ (x = 63 ∨ x = 58 → j ∈ op' ∨ ((j : Int) < v ∧ v ≤ (n : Int) + 1)) ∧ (x = 93 → 0 ≤ v ∧ v < (j : Int) ∧ ss[v.toNat]? = some 91) ∧ (x ≠ 63 → x ≠ 58 → x ≠ 93 → v = -1)) →
      (∃ v, to'[n]? = some v ∧ (s = 63 ∨ s = 58 → n ∈ op') ∧ (s = 93 → 0 ≤ v ∧ v < (n : Int) ∧ ss[v.toNat]? = some 91) ∧ (s ≠ 63 → s ≠ 58 → s ≠ 93 → v = -1)) → InvR ss (n + 1) ⟨to', d, op'⟩ := by
    intro to' d op' h1 h2 h3 h4
    refine ⟨h1, h2, fun j x hj hx => ?_⟩
    by_cases hjn : j < n
    · obtain ⟨v, a, b, c, e⟩ := h3 j x hjn hx
      exact ⟨v, a, fun hh => (b hh).imp id fun ⟨p, q⟩ => ⟨p, by omega⟩, c, e⟩
    · have : j = n := by omega
      subst this
      rw [hs] at hx
      injection hx with hx
      subst hx
      obtain ⟨v, a, b, c, e⟩ := h4
      exact ⟨v, a, fun hh => .inl (b hh), c, e⟩
  unfold rTake at ht
  split at ht
  · rename_i h1
    split at ht
    · injection ht with ht; subst ht
      refine mk _ _ _ (by rw [List.length_set]; exact h.len) ?_ ?_ ⟨-1, hnew, fun _ => List.mem_cons_self .., fun e => by omega, fun _ _ _ => rfl⟩
      · intro p hp
        rcases List.mem_cons.1 hp with rfl | hp
        · refine ⟨by omega, ?_⟩
          rcases h1 with rfl | rfl
          · exact .inl hs
          · exact .inr (.inr hs)
        · have := h.op p hp
          exact ⟨by omega, this.2⟩
      · intro j x hj hx
        obtain ⟨v, a, b, c, e⟩ := h.at_ j x hj hx
        exact ⟨v, by rw [hold j hj]; exact a, fun hh => (b hh).imp (List.mem_cons_of_mem _) fun ⟨p, q⟩ => ⟨p, by omega⟩, c, e⟩
    · cases ht
  rename_i h1
  split at ht
  · rename_i h58
    split at ht
    · rename_i p r0 hop
      split at ht
      · rename_i hp63
        injection ht with ht; subst ht
        have hpn := (h.op p (by rw [show r.op = p :: r0 from hop]; exact List.mem_cons_self ..)).1
        have hp0 : p < (r.to.set n (-1)).length := by rw [List.length_set]; omega
        refine mk _ _ _ (by rw [List.length_set, List.length_set]; exact h.len) ?_ ?_ ⟨-1, by rw [List.getElem?_set_ne (by omega)]; exact hnew, fun _ => List.mem_cons_self .., fun e => by omega, fun _ _ _ => rfl⟩
        · intro p2 hp2
          rcases List.mem_cons.1 hp2 with rfl | hp2
          · exact ⟨by omega, .inr (.inl (by rw [hs, h58]))⟩
          · have := h.op p2 (by rw [show r.op = p :: r0 from hop]; exact List.mem_cons_of_mem _ hp2)
            exact ⟨by omega, this.2⟩
        · intro j x hj hx
          obtain ⟨v, a, b, c, e⟩ := h.at_ j x hj hx
          by_cases hjp : p = j
          · subst hjp
            rw [hp63] at hx
            injection hx with hx
            subst hx
            exact ⟨(n : Int) + 1, List.getElem?_set_self hp0, fun _ => .inr ⟨by omega, by omega⟩, fun e => by omega, fun e => absurd rfl e⟩
          · refine ⟨v, by rw [List.getElem?_set_ne hjp, hold j hj]; exact a, fun hh => ?_, c, e⟩
            rcases b hh with hm | ⟨q1, q2⟩
            · rw [show r.op = p :: r0 from hop] at hm
              rcases List.mem_cons.1 hm with hm | hm
              · exact absurd hm.symm hjp
              · exact .inl (List.mem_cons_of_mem _ hm)
            · exact .inr ⟨q1, by omega⟩
      · cases ht
    · cases ht
  rename_i h58
  split at ht
  · rename_i h59
    split at ht
    · rename_i p r0 hop
      split at ht
      · cases ht
      · rename_i hp91
        injection ht with ht; subst ht
        have hpo := h.op p (by rw [show r.op = p :: r0 from hop]; exact List.mem_cons_self ..)
        have hpn := hpo.1
        have hp0 : p < (r.to.set n (-1)).length := by rw [List.length_set]; omega
        refine mk _ _ _ (by rw [List.length_set, List.length_set]; exact h.len) ?_ ?_ ⟨-1, by rw [List.getElem?_set_ne (by omega)]; exact hnew, fun e => by omega, fun e => by omega, fun _ _ _ => rfl⟩
        · intro p2 hp2
          have := h.op p2 (by rw [show r.op = p :: r0 from hop]; exact List.mem_cons_of_mem _ hp2)
          exact ⟨by omega, this.2⟩
        · intro j x hj hx
          obtain ⟨v, a, b, c, e⟩ := h.at_ j x hj hx
          by_cases hjp : p = j
          · subst hjp
            have hx2 : x = 63 ∨ x = 58 := by
              rcases hpo.2 with q | q | q
              · rw [q] at hx; injection hx with hx; exact .inl hx.symm
              · rw [q] at hx; injection hx with hx; exact .inr hx.symm
              · exact absurd q hp91
            exact ⟨(n : Int), List.getElem?_set_self hp0, fun _ => .inr ⟨by omega, by omega⟩, fun e => by omega, fun e1 e2 => by omega⟩
          · refine ⟨v, by rw [List.getElem?_set_ne hjp, hold j hj]; exact a, fun hh => ?_, c, e⟩
            rcases b hh with hm | ⟨q1, q2⟩
            · rw [show r.op = p :: r0 from hop] at hm
              rcases List.mem_cons.1 hm with hm | hm
              · exact absurd hm.symm hjp
              · exact .inl hm
            · exact .inr ⟨q1, by omega⟩
    · cases ht
  rename_i h59
  split at ht
  · rename_i h93
    split at ht
    · rename_i p r0 hop
      split at ht
      · rename_i hp91
        injection ht with ht; subst ht
        have hpo := h.op p (by rw [show r.op = p :: r0 from hop]; exact List.mem_cons_self ..)
        refine mk _ _ _ (by rw [List.length_set, List.length_set]; exact h.len) ?_ ?_ ⟨(p : Int), List.getElem?_set_self (by rw [List.length_set]; exact hnl), fun e => by omega, fun _ => ⟨by omega, by have := hpo.1; omega, by simpa using hp91⟩, fun _ _ e => absurd h93 e⟩
        · intro p2 hp2
          have := h.op p2 (by rw [show r.op = p :: r0 from hop]; exact List.mem_cons_of_mem _ hp2)
          exact ⟨by omega, this.2⟩
        · intro j x hj hx
          obtain ⟨v, a, b, c, e⟩ := h.at_ j x hj hx
          refine ⟨v, by rw [List.getElem?_set_ne (by omega), hold j hj]; exact a, fun hh => ?_, c, e⟩
          rcases b hh with hm | ⟨q1, q2⟩
          · rw [show r.op = p :: r0 from hop] at hm
            rcases List.mem_cons.1 hm with rfl | hm
            · rw [show ss[j]? = some 91 from hp91] at hx
              injection hx with hx
              omega
            · exact .inl hm
          · exact .inr ⟨q1, by omega⟩
      · cases ht
    · cases ht
  rename_i h93
  injection ht with ht; subst ht
  refine mk _ _ _ (by rw [List.length_set]; exact h.len) ?_ ?_ ⟨-1, hnew, fun e => by omega, fun e => by omega, fun _ _ _ => rfl⟩
  · intro p hp
    have := h.op p hp
    exact ⟨by omega, this.2⟩
  · intro j x hj hx
    obtain ⟨v, a, b, c, e⟩ := h.at_ j x hj hx
    exact ⟨v, by rw [hold j hj]; exact a, fun hh => (b hh).imp id fun ⟨p, q⟩ => ⟨p, by omega⟩, c, e⟩
theorem invR_run {ss : List Int} : ∀ (rest : List Int) (n : Nat) (r r' : RSt), n + rest.length = ss.length → (∀ i : Nat, rest[i]? = ss[n + i]?) → InvR ss n r → rRun ss n rest r = some r' → InvR ss ss.length r'
  | [], n, r, r', hl, _, h, e => by
    have : n = ss.length := by simpa using hl
    subst this
    rw [rRun] at e
    injection e with e
    subst e
    exact h
  | s :: rest, n, r, r', hl, hr, h, e => by
    rw [rRun] at e
    cases ht : rTake ss n s ⟨r.to.set n (-1), r.deep, r.op⟩ with
    | none => rw [ht] at e; cases e
    | some r1 =>
      rw [ht] at e
      have hs : ss[n]? = some s := by have := hr 0; simpa using this.symm
      exact invR_run rest (n + 1) r1 r' (by simp at hl; omega) (fun i => by have := hr (i + 1); rw [show n + 1 + i = n + (i + 1) from by omega]; simpa using this) (invR_step h hs ht) e
theorem leavesV_in {ss t : List Int} {j : Nat} : ∀ (f i : Nat), 0 ≤ leavesV ss t j f i → (i : Int) < leavesV ss t j f i ∧ leavesV ss t j f i ≤ (i : Int) + f
  | 0, i, h => by simp [leavesV] at h
  | f + 1, i, h => by
    unfold leavesV at h ⊢
    split
    · omega
    · rename_i hn
      rw [if_neg hn] at h
      have := leavesV_in f (i + 1) h
      omega
structure InvF (ss : List Int) (n : Nat) (t : List Int) : Prop where
  len : t.length = ss.length
  at_ : ∀ (j : Nat) (s : Int), ss[j]? = some s → ∃ v, t[j]? = some v ∧ (s = 63 ∨ s = 58 → (j : Int) < v ∧ v ≤ (ss.length : Int)) ∧ (s = 126 → j < n → (j : Int) < v ∧ v ≤ (ss.length : Int)) ∧ (s = 93 → 0 ≤ v ∧ v < (j : Int) ∧ ss[v.toNat]? = some 91) ∧ (s ≠ 63 → s ≠ 58 → s ≠ 126 → s ≠ 93 → v = -1)
theorem invF_run {ss : List Int} : ∀ (rest : List Int) (n : Nat) (t t' : List Int), n + rest.length = ss.length → (∀ i : Nat, rest[i]? = ss[n + i]?) → InvF ss n t → fillR ss n rest t = some t' → InvF ss ss.length t'
  | [], n, t, t', hl, _, h, e => by
    have : n = ss.length := by simpa using hl
    subst this
    rw [fillR] at e
    injection e with e
    subst e
    exact h
  | s :: rest, n, t, t', hl, hr, h, e => by
    have hs : ss[n]? = some s := by have := hr 0; simpa using this.symm
    have hr' : ∀ i : Nat, rest[i]? = ss[n + 1 + i]? := fun i => by have := hr (i + 1); rw [show n + 1 + i = n + (i + 1) from by omega]; simpa using this
    have hl' : n + 1 + rest.length = ss.length := by simp at hl; omega
    have hn := lt_of_some hs
    rw [fillR] at e
    split at e
    · rename_i h126
      split at e
      · cases e
      · rename_i hv
        have hin := leavesV_in (ss := ss) (t := t) (j := n) (ss.length - n) n (by omega)
        refine invF_run rest (n + 1) _ t' hl' hr' ⟨by rw [List.length_set]; exact h.len, fun j x hx => ?_⟩ e
        by_cases hjn : n = j
        · subst hjn
          rw [hs] at hx
          injection hx with hx
          subst hx
          exact ⟨_, List.getElem?_set_self (by rw [h.len]; exact hn), fun e => by omega, fun _ _ => ⟨hin.1, by omega⟩, fun e => by omega, fun _ _ e => absurd h126 e⟩
        · obtain ⟨v, a, b, c, d⟩ := h.at_ j x hx
          exact ⟨v, by rw [List.getElem?_set_ne hjn]; exact a, b, fun e1 e2 => c e1 (by omega), d⟩
    · rename_i h126
      refine invF_run rest (n + 1) _ t' hl' hr' ⟨h.len, fun j x hx => ?_⟩ e
      obtain ⟨v, a, b, c, d⟩ := h.at_ j x hx
      refine ⟨v, a, b, fun e1 e2 => c e1 ?_, d⟩
      by_cases hjn : j = n
      · subst hjn
        rw [hs] at hx
        injection hx with hx
        exact absurd (hx.trans e1) h126
      · omega
/-- Where one goes from each sign. -/
theorem nest_within {ss t : List Int} {d : Nat} (h : rNest ss = some (t, d)) : t.length = ss.length ∧ ∀ (j : Nat) (s : Int), ss[j]? = some s → ∃ v, t[j]? = some v ∧ (s = 63 ∨ s = 58 ∨ s = 126 → (j : Int) < v ∧ v ≤ (ss.length : Int)) ∧ (s = 93 → 0 ≤ v ∧ v < (j : Int) ∧ ss[v.toNat]? = some 91) ∧ (s ≠ 63 → s ≠ 58 → s ≠ 126 → s ≠ 93 → v = -1) := by
  unfold rNest at h
  cases hr : rRun ss 0 ss ⟨List.replicate ss.length 0, 0, []⟩ with
  | none => rw [hr] at h; cases h
  | some r =>
    rw [hr] at h
    simp only [Option.bind_some] at h
    split at h
    · rename_i hop
      cases hf : fillR ss 0 ss r.to with
      | none => rw [hf] at h; cases h
      | some t2 =>
        rw [hf] at h
        simp only [Option.map_some] at h
        injection h with h
        injection h with h1 h2
        subst h1
        have hI := invR_run ss 0 _ r (by simp) (fun i => by simp) ⟨by simp, fun p hp => by simp at hp, fun j s hj => by omega⟩ hr
        have hF := invF_run ss 0 r.to t2 (by simp) (fun i => by simp) ⟨hI.len, fun j s hs => by
          obtain ⟨v, a, b, c, e⟩ := hI.at_ j s (lt_of_some hs) hs
          exact ⟨v, a, fun hh => (b hh).elim (fun hm => by rw [hop] at hm; cases hm) id, fun _ hh => by omega, c, fun e1 e2 _ e3 => e e1 e2 e3⟩⟩ hf
        refine ⟨hF.len, fun j s hs => ?_⟩
        obtain ⟨v, a, b, c, e⟩ := hF.at_ j s hs
        refine ⟨v, a, fun hh => ?_, e.1, e.2⟩
        rcases hh with hh | hh | hh
        · exact b (.inl hh)
        · exact b (.inr hh)
        · exact c hh (lt_of_some hs)
    · cases h
end Go.Proofs.Ytafgpmempgoikaa
namespace Go.Proofs.Ytafgpmempgoikaa
def shP (k : Nat) (p : NPart) : NPart := ⟨p.loop, k + p.at_, k + p.waits, p.left.map (k + ·)⟩
def shV (k : Nat) (v : Int) : Int := if v < 0 then v else (k : Int) + v
theorem shV_nat (k a : Nat) : shV k (a : Int) = ((k + a : Nat) : Int) := by unfold shV; rw [if_neg (by omega)]; omega
theorem shV_neg (k : Nat) : shV k (-1) = -1 := rfl
structure RelN (k d0 : Nat) (base : List NPart) (pre : List Int) (n : Nat) (m m2 : NSt) : Prop where
  len : k + m.to.length ≤ m2.to.length
  pre : ∀ j : Nat, j < k → m2.to[j]? = pre[j]?
  at_ : ∀ j : Nat, j < n → m2.to[k + j]? = (m.to[j]?).map (shV k)
  deep : m2.deep = max d0 (m.deep + base.length)
  op : m2.op = m.op.map (shP k) ++ base
  wf : ∀ p ∈ m.op, p.at_ < n ∧ p.waits < n ∧ ∀ j ∈ p.left, j < n
theorem rel_set {k N a : Nat} {t t2 : List Int} {v w : Int} (hw : w = shV k v) (h : ∀ j : Nat, j < N → t2[k + j]? = (t[j]?).map (shV k)) (ha : a < t.length) (ha2 : k + a < t2.length) : ∀ j : Nat, j < N → (t2.set (k + a) w)[k + j]? = ((t.set a v)[j]?).map (shV k) := fun j hj => by
  by_cases e : a = j
  · subst e
    rw [List.getElem?_set_self ha2, List.getElem?_set_self ha, hw]; rfl
  · rw [List.getElem?_set_ne (by omega), List.getElem?_set_ne e]; exact h j hj
theorem rel_new {k N : Nat} {t t2 : List Int} (h : ∀ j : Nat, j < N → t2[k + j]? = (t[j]?).map (shV k)) (ha : N < t.length) (ha2 : k + N < t2.length) : ∀ j : Nat, j < N + 1 → (t2.set (k + N) (-1))[k + j]? = ((t.set N (-1))[j]?).map (shV k) := fun j hj => by
  by_cases e : N = j
  · subst e
    rw [List.getElem?_set_self ha2, List.getElem?_set_self ha]; rfl
  · rw [List.getElem?_set_ne (by omega), List.getElem?_set_ne e]; exact h j (by omega)
theorem rel_all {k N : Nat} {v w : Int} (hw : w = shV k v) : ∀ (l : List Nat) (t t2 : List Int), (∀ j : Nat, j < N → t2[k + j]? = (t[j]?).map (shV k)) → (∀ j ∈ l, j < t.length) → k + t.length ≤ t2.length →
    ∀ j : Nat, j < N → (setAll w (l.map (k + ·)) t2)[k + j]? = ((setAll v l t)[j]?).map (shV k)
  | [], _, _, h, _, _ => h
  | a :: l, t, t2, h, hl, hk => by
    have ha := hl a (List.mem_cons_self ..)
    exact rel_all hw l _ _ (rel_set hw h ha (by omega)) (fun j hj => by rw [List.length_set]; exact hl j (List.mem_cons_of_mem _ hj)) (by rw [List.length_set, List.length_set]; exact hk)
theorem pre_set {k a : Nat} {t2 pre : List Int} {w : Int} (h : ∀ j : Nat, j < k → t2[j]? = pre[j]?) : ∀ j : Nat, j < k → (t2.set (k + a) w)[j]? = pre[j]? := fun j hj => by
  rw [List.getElem?_set_ne (by omega)]; exact h j hj
theorem pre_all {k : Nat} {pre : List Int} {w : Int} : ∀ (l : List Nat) (t2 : List Int), (∀ j : Nat, j < k → t2[j]? = pre[j]?) → ∀ j : Nat, j < k → (setAll w (l.map (k + ·)) t2)[j]? = pre[j]?
  | [], _, h => h
  | _ :: l, _, h => pre_all l _ (pre_set h)
theorem leaveP_shift {k n : Nat} {base : List NPart} : ∀ {l o : List NPart}, leaveP n l = some o → leaveP (k + n) (l.map (shP k) ++ base) = some (o.map (shP k) ++ base)
  | [], o, h => by simp [leaveP] at h
  | p :: r, o, h => by
    rw [leaveP] at h
    rw [List.map_cons, List.cons_append, leaveP]
    by_cases hl : p.loop = true
    · rw [if_pos hl] at h
      injection h with h
      subst h
      rw [if_pos (show (shP k p).loop = true from hl)]
      simp [shP]
    · rw [if_neg hl] at h
      rw [if_neg (show ¬ (shP k p).loop = true from hl)]
      cases ho : leaveP n r with
      | none => rw [ho] at h; cases h
      | some o' =>
        rw [ho] at h
        injection h with h
        subst h
        rw [leaveP_shift ho]
        rfl
theorem nTake_deep {n : Nat} {s : Int} {m m' : NSt} (h : nTake n s m = some m') : m.deep ≤ m'.deep ∧ (m.deep ≤ 16 → m'.deep ≤ 16) ∧ m'.to.length = m.to.length := by
  unfold nTake at h
  split at h
  · split at h
    · injection h with h; subst h; exact ⟨by simp only; omega, by simp only; omega, rfl⟩
    · cases h
  split at h
  · split at h
    · split at h
      · injection h with h; subst h; exact ⟨Nat.le_refl _, id, by simp⟩
      · cases h
    · cases h
  split at h
  · split at h
    · split at h
      · injection h with h; subst h; exact ⟨Nat.le_refl _, id, by simp⟩
      · cases h
    · cases h
  split at h
  · split at h
    · split at h
      · injection h with h; subst h; exact ⟨Nat.le_refl _, id, by simp [setAll_len]⟩
      · cases h
    · cases h
  split at h
  · cases ho : leaveP n m.op with
    | none => rw [ho] at h; cases h
    | some o => rw [ho] at h; injection h with h; subst h; exact ⟨Nat.le_refl _, id, rfl⟩
  · injection h with h; subst h; exact ⟨Nat.le_refl _, id, rfl⟩
theorem nRun_deep : ∀ (rest : List Int) (n : Nat) (m m' : NSt), nRun n rest m = some m' → m.deep ≤ m'.deep ∧ (m.deep ≤ 16 → m'.deep ≤ 16) ∧ m'.to.length = m.to.length
  | [], _, m, m', h => by rw [nRun] at h; injection h with h; subst h; exact ⟨Nat.le_refl _, id, rfl⟩
  | s :: rest, n, m, m', h => by
    rw [nRun] at h
    cases ht : nTake n s ⟨m.to.set n (-1), m.deep, m.op⟩ with
    | none => rw [ht] at h; cases h
    | some m1 =>
      rw [ht] at h
      obtain ⟨a, b, c⟩ := nTake_deep ht
      obtain ⟨d, e, f⟩ := nRun_deep rest (n + 1) m1 m' h
      exact ⟨Nat.le_trans a d, fun h => e (b h), by rw [f, c, List.length_set]⟩
theorem relN_step {k d0 n : Nat} {base : List NPart} {pre : List Int} {m m' m2 : NSt} {s : Int} (h : RelN k d0 base pre n m m2) (hn : n < m.to.length) (ht : nTake n s ⟨m.to.set n (-1), m.deep, m.op⟩ = some m') (hd : m'.deep + base.length ≤ 16) :
    ∃ m2', nTake (k + n) s ⟨m2.to.set (k + n) (-1), m2.deep, m2.op⟩ = some m2' ∧ RelN k d0 base pre (n + 1) m' m2' := by
  have hn2 : k + n < m2.to.length := by have := h.len; omega
  have hat := rel_new h.at_ hn hn2
  have hpre := pre_set (a := n) (w := -1) h.pre
  have hlen : k + (m.to.set n (-1)).length ≤ (m2.to.set (k + n) (-1)).length := by rw [List.length_set, List.length_set]; exact h.len
  have hl1 : (m.to.set n (-1)).length = m.to.length := List.length_set
  have hl2 : (m2.to.set (k + n) (-1)).length = m2.to.length := List.length_set
  have hwf : ∀ p ∈ m.op, p.at_ < n + 1 ∧ p.waits < n + 1 ∧ ∀ j ∈ p.left, j < n + 1 := fun p hp => by
    obtain ⟨a, b, c⟩ := h.wf p hp
    exact ⟨by omega, by omega, fun j hj => by have := c j hj; omega⟩
  unfold nTake at ht ⊢
  split at ht
  · rename_i h1
    rw [if_pos h1]
    split at ht
    · injection ht with ht; subst ht
      simp only at hd
      have e : m2.op.length = m.op.length + base.length := by rw [h.op, List.length_append, List.length_map]
      rw [if_pos (by simp only; omega)]
      refine ⟨_, rfl, hlen, hpre, hat, ?_, ?_, ?_⟩
      · simp only; rw [h.deep, e]; omega
      · simp only [List.map_cons, List.cons_append]; rw [h.op]; rfl
      · intro p hp
        rcases List.mem_cons.1 hp with rfl | hp
        · exact ⟨by simp only; omega, by simp only; omega, fun j hj => by simp at hj⟩
        · exact hwf p hp
    · cases ht
  rename_i h1
  rw [if_neg h1]
  split at ht
  · rename_i h58
    rw [if_pos h58]
    split at ht
    · rename_i p r0 hop
      split at ht
      · rename_i hc
        injection ht with ht; subst ht
        have hop' : m.op = p :: r0 := hop
        have hpw := h.wf p (by rw [hop']; exact List.mem_cons_self ..)
        have e : m2.op = shP k p :: (r0.map (shP k) ++ base) := by rw [h.op, hop']; rfl
        simp only [e]
        rw [if_pos ⟨hc.1, by show k + p.waits = k + p.at_; rw [hc.2]⟩]
        refine ⟨_, rfl, by simp only [List.length_set]; exact h.len, pre_set hpre, rel_set (a := p.at_) (by unfold shV; rw [if_neg (by omega)]; omega) hat (by omega) (by omega), h.deep, rfl, ?_⟩
        intro q hq
        rcases List.mem_cons.1 hq with rfl | hq
        · exact ⟨by simp only; omega, by simp only; omega, fun j hj => by have := hpw.2.2 j hj; omega⟩
        · exact hwf q (by rw [hop']; exact List.mem_cons_of_mem _ hq)
      · cases ht
    · cases ht
  rename_i h58
  rw [if_neg h58]
  split at ht
  · rename_i h59
    rw [if_pos h59]
    split at ht
    · rename_i p r0 hop
      split at ht
      · rename_i hc
        injection ht with ht; subst ht
        have hop' : m.op = p :: r0 := hop
        have hpw := h.wf p (by rw [hop']; exact List.mem_cons_self ..)
        have e : m2.op = shP k p :: (r0.map (shP k) ++ base) := by rw [h.op, hop']; rfl
        simp only [e]
        rw [if_pos (show (shP k p).loop = false from hc)]
        refine ⟨_, rfl, by simp only [List.length_set]; exact h.len, pre_set hpre, rel_set (a := p.waits) (by unfold shV; rw [if_neg (by omega)]; omega) hat (by omega) (by omega), h.deep, rfl, ?_⟩
        intro q hq
        exact hwf q (by rw [hop']; exact List.mem_cons_of_mem _ hq)
      · cases ht
    · cases ht
  rename_i h59
  rw [if_neg h59]
  split at ht
  · rename_i h93
    rw [if_pos h93]
    split at ht
    · rename_i p r0 hop
      split at ht
      · rename_i hc
        injection ht with ht; subst ht
        have hop' : m.op = p :: r0 := hop
        have hpw := h.wf p (by rw [hop']; exact List.mem_cons_self ..)
        have e : m2.op = shP k p :: (r0.map (shP k) ++ base) := by rw [h.op, hop']; rfl
        simp only [e]
        rw [if_pos (show (shP k p).loop = true from hc)]
        refine ⟨_, rfl, by simp only [setAll_len, List.length_set]; exact h.len, pre_all _ _ (pre_set hpre), ?_, h.deep, rfl, ?_⟩
        · exact rel_all (by unfold shV; rw [if_neg (by omega)]; omega) p.left _ _ (rel_set (a := n) (by rw [shV_nat]; rfl) hat (by omega) (by omega)) (fun j hj => by rw [List.length_set, hl1]; have := hpw.2.2 j hj; omega) (by simp only [List.length_set]; exact h.len)
        · intro q hq
          exact hwf q (by rw [hop']; exact List.mem_cons_of_mem _ hq)
      · cases ht
    · cases ht
  rename_i h93
  rw [if_neg h93]
  split at ht
  · rename_i h126
    rw [if_pos h126]
    cases ho : leaveP n m.op with
    | none => rw [show leaveP n (NSt.mk (m.to.set n (-1)) m.deep m.op).op = none from ho] at ht; cases ht
    | some o =>
      rw [show leaveP n (NSt.mk (m.to.set n (-1)) m.deep m.op).op = some o from ho] at ht
      injection ht with ht; subst ht
      simp only [h.op, leaveP_shift ho]
      refine ⟨_, rfl, hlen, hpre, hat, h.deep, rfl, ?_⟩
      obtain ⟨a, p, r, hl, _, _, rfl⟩ := leaveP_split ho
      intro q hq
      rcases List.mem_append.1 hq with hq | hq
      · exact hwf q (by rw [hl]; exact List.mem_append_left _ hq)
      · rcases List.mem_cons.1 hq with rfl | hq
        · obtain ⟨x, y, z⟩ := hwf p (by rw [hl]; simp)
          refine ⟨x, y, fun j hj => ?_⟩
          rcases List.mem_append.1 hj with hj | hj
          · exact z j hj
          · rw [List.mem_singleton] at hj; omega
        · exact hwf q (by rw [hl]; simp [hq])
  · rename_i h126
    rw [if_neg h126]
    injection ht with ht; subst ht
    exact ⟨_, rfl, hlen, hpre, hat, h.deep, h.op, hwf⟩
theorem relN_run {k d0 : Nat} {base : List NPart} {pre : List Int} : ∀ (rest : List Int) (n : Nat) (m m' m2 : NSt), n + rest.length ≤ m.to.length → RelN k d0 base pre n m m2 → nRun n rest m = some m' → m'.deep + base.length ≤ 16 → ∃ m2', nRun (k + n) rest m2 = some m2' ∧ RelN k d0 base pre (n + rest.length) m' m2'
  | [], n, m, m', m2, _, h, e, _ => by
    rw [nRun] at e
    injection e with e
    subst e
    exact ⟨m2, rfl, h⟩
  | s :: rest, n, m, m', m2, hl, h, e, hd => by
    rw [nRun] at e
    cases ht : nTake n s ⟨m.to.set n (-1), m.deep, m.op⟩ with
    | none => rw [ht] at e; cases e
    | some m1 =>
      rw [ht] at e
      have hd1 := (nRun_deep rest (n + 1) m1 m' e).1
      have hl1 := (nTake_deep ht).2.2
      rw [List.length_set] at hl1
      simp at hl
      obtain ⟨m2', e2, h2⟩ := relN_step h (by omega) ht (by omega)
      obtain ⟨m3, e3, h3⟩ := relN_run rest (n + 1) m1 m' m2' (by omega) h2 e hd
      refine ⟨m3, ?_, ?_⟩
      · rw [nRun, e2]; exact e3
      · rw [List.length_cons, show n + (rest.length + 1) = n + 1 + rest.length from by omega]; exact h3
theorem nRun_append : ∀ (a b : List Int) (n : Nat) (m : NSt), nRun n (a ++ b) m = (nRun n a m).bind (nRun (n + a.length) b)
  | [], b, n, m => rfl
  | s :: a, b, n, m => by
    rw [List.cons_append, nRun, nRun]
    cases nTake n s ⟨m.to.set n (-1), m.deep, m.op⟩ with
    | none => rfl
    | some m1 => show nRun (n + 1) (a ++ b) m1 = _; rw [nRun_append a b (n + 1) m1, List.length_cons, show n + (a.length + 1) = n + 1 + a.length from by omega]; rfl
theorem nNest_some {ss t : List Int} {d : Nat} (h : nNest ss = some (t, d)) : nRun 0 ss ⟨List.replicate ss.length 0, 0, []⟩ = some ⟨t, d, []⟩ ∧ d ≤ 16 ∧ t.length = ss.length := by
  unfold nNest at h
  cases hr : nRun 0 ss ⟨List.replicate ss.length 0, 0, []⟩ with
  | none => rw [hr] at h; cases h
  | some m =>
    rw [hr] at h
    simp only [Option.bind_some] at h
    split at h
    · rename_i hop
      injection h with h
      injection h with h1 h2
      obtain ⟨t', d', o⟩ := m
      simp only at hop h1 h2
      subst hop; subst h1; subst h2
      have := nRun_deep _ _ _ _ hr
      refine ⟨rfl, this.2.1 (by simp), by have := this.2.2; simpa using this⟩
    · cases h
/-- One code behind another. -/
theorem nest_add {a b p q : List Int} {d e : Nat} (ha : nNest a = some (p, d)) (hb : nNest b = some (q, e)) : ∃ t, nNest (a ++ b) = some (t, max d e) ∧ t.length = a.length + b.length ∧ (∀ j : Nat, j < a.length → t[j]? = p[j]?) ∧ ∀ j : Nat, j < b.length → t[a.length + j]? = (q[j]?).map (shV a.length) := by
  obtain ⟨ra, hd, hpl⟩ := nNest_some ha
  obtain ⟨rb, he, hql⟩ := nNest_some hb
  obtain ⟨m2, e2, h2⟩ := relN_run (k := 0) (d0 := 0) (base := []) (pre := []) a 0 _ _ ⟨List.replicate (a ++ b).length 0, 0, []⟩ (by simp) ⟨by simp, fun j hj => by omega, fun j hj => by omega, rfl, rfl, fun p hp => by simp at hp⟩ ra (by simpa using hd)
  have hop2 : m2.op = [] := by have := h2.op; simpa using this
  have hdp2 : m2.deep = d := by have := h2.deep; simp at this; omega
  have hlen2 : m2.to.length = a.length + b.length := by have := (nRun_deep _ _ _ _ e2).2.2; simpa using this
  obtain ⟨m3, e3, h3⟩ := relN_run (k := a.length) (d0 := d) (base := []) (pre := m2.to) b 0 _ _ m2 (by simp) ⟨by simp; omega, fun j hj => rfl, fun j hj => by omega, by simp; omega, by simp [hop2], fun p hp => by simp at hp⟩ rb (by simpa using he)
  have hop3 : m3.op = [] := by have := h3.op; simpa using this
  have hdp3 : m3.deep = max d e := by have := h3.deep; simpa using this
  refine ⟨m3.to, ?_, ?_, fun j hj => ?_, fun j hj => ?_⟩
  · unfold nNest
    rw [nRun_append]
    rw [Nat.zero_add] at e2
    rw [e2]
    show (nRun (0 + a.length) b m2).bind _ = _
    rw [Nat.add_zero] at e3
    rw [Nat.zero_add, e3]
    simp only [Option.bind_some]
    rw [if_pos hop3, hdp3]
  · have := (nRun_deep _ _ _ _ e3).2.2
    rw [this, hlen2]
  · rw [h3.pre j hj]
    have := h2.at_ j (by simpa using hj)
    rw [Nat.zero_add] at this
    rw [this]
    cases p[j]? with
    | none => rfl
    | some v => simp only [Option.map_some, shV]; congr 1; split <;> omega
  · exact h3.at_ j (by simpa using hj)
/-- A code in a loop. -/
theorem nest_loop {ss t : List Int} {d : Nat} (h : nNest ss = some (t, d)) (hd : d < 16) : ∃ t', nNest (91 :: ss ++ [93]) = some (t', d + 1) := by
  obtain ⟨ra, _, _⟩ := nNest_some h
  have e1 : nTake 0 91 ⟨(List.replicate (91 :: ss ++ [93]).length 0).set 0 (-1), 0, []⟩ = some ⟨(List.replicate (91 :: ss ++ [93]).length 0).set 0 (-1), 1, [⟨true, 0, 0, []⟩]⟩ := rfl
  obtain ⟨m2, e2, h2⟩ := relN_run (k := 1) (d0 := 1) (base := [⟨true, 0, 0, []⟩]) (pre := (List.replicate (91 :: ss ++ [93]).length 0).set 0 (-1)) ss 0 _ _ ⟨(List.replicate (91 :: ss ++ [93]).length 0).set 0 (-1), 1, [⟨true, 0, 0, []⟩]⟩ (by simp) ⟨by simp; omega, fun j hj => rfl, fun j hj => by omega, rfl, rfl, fun p hp => by simp at hp⟩ ra (by simp; omega)
  have hop2 : m2.op = [⟨true, 0, 0, []⟩] := by have := h2.op; simpa using this
  have hdp2 : m2.deep = d + 1 := by have := h2.deep; simp at this; omega
  unfold nNest
  rw [List.cons_append, nRun]
  rw [List.cons_append] at e1
  rw [e1]
  simp only [Option.bind_some]
  rw [nRun_append]
  rw [List.cons_append] at e2
  rw [show (0 + 1) = 1 + 0 from rfl, e2]
  simp only [Option.bind_some]
  rw [nRun]
  have e3 : ∀ i, nTake i 93 ⟨m2.to.set i (-1), m2.deep, m2.op⟩ = some ⟨setAll ((i : Int) + 1) [] ((m2.to.set i (-1)).set i 0), m2.deep, []⟩ := fun i => by rw [hop2]; rfl
  rw [e3]
  simp only [Option.bind_some, nRun, if_true, hdp2]
  exact ⟨_, rfl⟩
end Go.Proofs.Ytafgpmempgoikaa
namespace Go.Proofs.Ytafgpmempgoikaa
open Go.RowKit
def OfPost8 (n : Nat) (r : Option (List Int × Nat)) (W : World) (e : Ending) (w' : World) : Prop :=
  Chg [] W w' ∧ ((∃ t d g, r = some (t, d) ∧ t.length = n ∧ e = .returned (.tuple #[.slice (some ⟨g, 0, none⟩) n n, .int .i64 0]) ∧ Whole w' g 3 (nms t)) ∨
    (r = none ∧ e = .returned (.tuple #[.slice none 0 0, .int .i64 13])))
def deepI (r : Option (List Int × Nat)) : Int := match r with | some (_, d) => (d : Int) | none => -1
section
variable {W : World} {A : Option Addr} {n c : Nat} {l : List TkV}
set_option maxHeartbeats 1000000 in
theorem nof_any (h : Tks W A n c l) : Calls Try.prog 16 #[.slice A n c] W (OfPost8 n (nNest (signs l)) W) := by
  go_enter Try.func16, Try.ntmps16
  go_wp2_with fail
  refine (match_any h).mono ?_
  rintro e w1 ⟨hc, ⟨t, d, g, hr, htl, rfl, hT, _⟩ | ⟨hr, v, d, rfl⟩⟩
  · have HPO := Lib.hid (show OfPost8 n (nNest (signs l)) W (.returned (.tuple #[.slice (some ⟨g, 0, none⟩) n n, .int .i64 0])) w1 from ⟨hc, .inl ⟨t, d, g, hr, htl, rfl, hT⟩⟩)
    clear hr htl hT hc h
    go_wp2_with fail
    go_ret2
    exact HPO.out
  · have HPO := Lib.hid (show OfPost8 n (nNest (signs l)) W (.returned (.tuple #[.slice none 0 0, .int .i64 13])) w1 from ⟨hc, .inr ⟨hr, rfl⟩⟩)
    clear hr hc h
    go_wp2_with fail
    go_ret2
    exact HPO.out
set_option maxHeartbeats 1000000 in
theorem ndeep_any (h : Tks W A n c l) : Calls Try.prog 17 #[.slice A n c] W fun e w' => e = .returned (.int .i64 (deepI (nNest (signs l)))) ∧ Chg [] W w' := by
  go_enter Try.func17, Try.ntmps17
  go_wp2_with fail
  refine (match_any h).mono ?_
  rintro e w1 ⟨hc, ⟨t, d, g, hr, htl, rfl, hT, _⟩ | ⟨hr, v, d, rfl⟩⟩
  · have HR := Lib.hid hr
    have HC := Lib.hid hc
    clear hr htl hT hc h
    go_wp2_with fail
    go_ret
    exact ⟨ret_int' (by rw [HR.out]; rfl), HC.out⟩
  · have HR := Lib.hid hr
    have HC := Lib.hid hc
    clear hr hc h
    go_wp2_with fail
    go_ret
    exact ⟨ret_int' (by rw [HR.out]; rfl), HC.out⟩
end
end Go.Proofs.Ytafgpmempgoikaa
namespace Go.Proofs.Ytafgpmempgoikaa
open Go.RowKit

section
variable {w w' : World} {p bL bS bW : Nat} {L S : List UInt8} {V : List Bool}
end
end Go.Proofs.Ytafgpmempgoikaa
namespace Go.Proofs.Ytafgpmempgoikaa
open Go.RowKit
section
variable {w : World} {p bL bS bW : Nat} {L S : List UInt8} {V : List Bool}
end
end Go.Proofs.Ytafgpmempgoikaa
namespace Go.Proofs.Ytafgpmempgoikaa
open Go.RowKit

/-- Numbers, as cells hold them. -/
def nmsN (l : List Nat) : List Value := l.map fun (i : Nat) => Value.int .i64 (i : Int)
theorem nmsN_len (l : List Nat) : (nmsN l).length = l.length := by simp [nmsN]
theorem nmsN_get (l : List Nat) (i : Nat) (h : i < l.length) : (nmsN l)[i]? = some (.int .i64 (l[i] : Int)) := by simp [nmsN, h]
/-- Which of the first k wait, rising. -/
def wl (V : List Bool) (k : Nat) : List Nat := (List.range k).filter fun i => V.getD i false
theorem wl_le (V : List Bool) (k : Nat) : (wl V k).length ≤ k := by
  have := List.length_filter_le (fun i => V.getD i false) (List.range k)
  simpa [wl] using this
theorem wl_yes (V : List Bool) (k : Nat) (h : k < V.length) (hv : V[k] = true) : wl V (k + 1) = wl V k ++ [k] := by
  unfold wl
  rw [List.range_succ, List.filter_append]
  simp [List.getD, h, hv]
theorem wl_no (V : List Bool) (k : Nat) (h : k < V.length) (hv : V[k] = false) : wl V (k + 1) = wl V k := by
  unfold wl
  rw [List.range_succ, List.filter_append]
  simp [List.getD, h, hv]

theorem nmsN_app (l : List Nat) (k : Nat) : nmsN (l ++ [k]) = nmsN l ++ [.int .i64 (k : Int)] := by simp [nmsN]
theorem chg_grown {T : List Nat} {a w w' : World} {row : Option Nat} (h : Chg T a w) (hg : w.grownBy w' row) (hr : ∀ g, row = some g → a.heap.size ≤ g) : Chg T a w' :=
  h.then_ (T' := row.toList) (Chg.of_grown hg fun g e _ => by simp [e]) fun i hi hlt => by
    have := hr i (by simpa using hi)
    omega

section
variable {w : World} {p bL bS bW : Nat} {L S : List UInt8} {V : List Bool}
end
end Go.Proofs.Ytafgpmempgoikaa
namespace Go.Proofs.Ytafgpmempgoikaa
open Go.RowKit
section
variable {w : World}
set_option maxHeartbeats 1000000 in
theorem same_yes {A B : Option Addr} {n c d : Nat} {l : List Nat} (hl : l.length = n) (hn : n ≤ 1000000) (ha : Src w A (nmsN l)) (hb : Src w B (nmsN l)) (hA : ∀ ad, A = some ad → ad.spot = none) (hB : ∀ ad, B = some ad → ad.spot = none) :
    Calls Try.prog 36 #[.slice A n c, .slice B n d] w (LawPost w) := by
  have HL := Lib.hid hl
  have HA := Lib.hid hA
  have HB := Lib.hid hB
  clear hl hA hB
  go_enter Try.func36, Try.ntmps36
  go_wp2_with fail
  go_loopw [5] (fun i wr => ∃ k : Nat, k ≤ n ∧ i = .int .i64 (k : Int) ∧ Chg [] w wr) (fun i _ => n - (intOf i).toNat)
  case atStart => exact ⟨0, Nat.zero_le _, rfl, Chg.refl _ _⟩
  case round =>
    obtain ⟨k, hk, rfl, hc⟩ := hrel
    by_cases hlt : k < n
    · have ha2 := ha.keep hc
      have hb2 := hb.keep hc
      obtain ⟨a1, rfl, _, hx⟩ := ha2 (by rw [nmsN_len, HL.out]; omega)
      obtain ⟨a2, rfl, _, hy⟩ := hb2 (by rw [nmsN_len, HL.out]; omega)
      have hx1 := hx k _ (nmsN_get l k (by rw [HL.out]; exact hlt))
      have hy1 := hy k _ (nmsN_get l k (by rw [HL.out]; exact hlt))
      clear hx hy
      obtain ⟨b1, o1, s1⟩ := a1
      obtain rfl : s1 = none := HA.out _ rfl
      obtain ⟨b2, o2, s2⟩ := a2
      obtain rfl : s2 = none := HB.out _ rfl
      rw [add_plain] at hx1 hy1
      generalize l[k]'(by rw [HL.out]; exact hlt) = q at hx1 hy1
      have hki : (k : Int) < (n : Int) := by omega
      go_wp2_with fail
      go_quiet (fail)
      go_wp2_with fail
      go_roundw
      case rel => exact ⟨k + 1, by omega, by go_num, hc.drewN _⟩
      case measure => simp [intOf]; omega
    · go_wp2_with fail
      go_ret
      exact ⟨rfl, hc⟩
end
end Go.Proofs.Ytafgpmempgoikaa
namespace Go.Proofs.Ytafgpmempgoikaa
open Go.RowKit
section
variable {w : World}
set_option maxHeartbeats 1000000 in
theorem same_nums {A B : Option Addr} {n c d : Nat} {l : List Int} (hl : l.length = n) (hn : n ≤ 1000000) (ha : Src w A (nms l)) (hb : Src w B (nms l)) (hA : ∀ ad, A = some ad → ad.spot = none) (hB : ∀ ad, B = some ad → ad.spot = none) :
    Calls Try.prog 36 #[.slice A n c, .slice B n d] w (LawPost w) := by
  have HL := Lib.hid hl
  have HA := Lib.hid hA
  have HB := Lib.hid hB
  clear hl hA hB
  go_enter Try.func36, Try.ntmps36
  go_wp2_with fail
  go_loopw [5] (fun i wr => ∃ k : Nat, k ≤ n ∧ i = .int .i64 (k : Int) ∧ Chg [] w wr) (fun i _ => n - (intOf i).toNat)
  case atStart => exact ⟨0, Nat.zero_le _, rfl, Chg.refl _ _⟩
  case round =>
    obtain ⟨k, hk, rfl, hc⟩ := hrel
    by_cases hlt : k < n
    · have ha2 := ha.keep hc
      have hb2 := hb.keep hc
      obtain ⟨a1, rfl, _, hx⟩ := ha2 (by rw [nms_len, HL.out]; omega)
      obtain ⟨a2, rfl, _, hy⟩ := hb2 (by rw [nms_len, HL.out]; omega)
      have hx1 := hx k _ (nms_get l k (by rw [HL.out]; exact hlt))
      have hy1 := hy k _ (nms_get l k (by rw [HL.out]; exact hlt))
      clear hx hy
      obtain ⟨b1, o1, s1⟩ := a1
      obtain rfl : s1 = none := HA.out _ rfl
      obtain ⟨b2, o2, s2⟩ := a2
      obtain rfl : s2 = none := HB.out _ rfl
      rw [add_plain] at hx1 hy1
      generalize l[k]'(by rw [HL.out]; exact hlt) = q at hx1 hy1
      have hki : (k : Int) < (n : Int) := by omega
      go_wp2_with fail
      go_quiet (fail)
      go_wp2_with fail
      go_roundw
      case rel => exact ⟨k + 1, by omega, by go_num, hc.drewN _⟩
      case measure => simp [intOf]; omega
    · go_wp2_with fail
      go_ret
      exact ⟨rfl, hc⟩
end
section
variable {W : World} {A : Option Addr} {n c : Nat} {l : List TkV}
set_option maxHeartbeats 2000000 in
theorem nsame_any (h : Tks W A n c l) : Calls Try.prog 13 #[.slice A n c] W (LawPost W) := by
  have hmax := h.max
  have H := Lib.hid h
  clear h
  go_enter Try.func13, Try.ntmps13
  go_wp2_with fail
  refine (nof_any H.out).mono ?_
  rintro e w1 ⟨hc1, hr1⟩
  have HC1 := Lib.hid hc1
  rcases hr1 with ⟨t, d, g, hr, htl, rfl, hT⟩ | ⟨hr, rfl⟩
  · have HR := Lib.hid hr
    have HTL := Lib.hid htl
    have HT := Lib.hid hT
    clear hr htl hT hc1
    go_wp2_with fail
    refine (rnest_any (H.out.keep HC1.out)).mono ?_
    rintro e w2 ⟨hc2, hr2⟩
    have HC2 := Lib.hid (HC1.out.new hc2)
    rcases hr2 with ⟨t2, d2, g2, hr2, htl2, rfl, hT2⟩ | ⟨hr2, rfl⟩
    · have HE := Lib.hid (show t = t2 ∧ d = d2 from by rw [← nest_same, HR.out] at hr2; injection hr2 with hr2; injection hr2 with a b; exact ⟨a, b⟩)
      have HT1 := Lib.hid (HT.out.keep hc2)
      have HT2 := Lib.hid hT2
      have HTL2 := Lib.hid htl2
      clear hr2 htl2 hT2 hc2
      go_wp2_with fail
      refine (same_nums (l := t) (by rw [HTL.out]) (by omega) (Src.of_all HT1.out) (by rw [HE.out.1]; exact Src.of_all HT2.out) (fun ad e => by injection e with e; subst e; rfl) (fun ad e => by injection e with e; subst e; rfl)).mono ?_
      rintro e w3 ⟨rfl, hc3⟩
      have HC3 := Lib.hid (HC2.out.new hc3)
      clear hc3
      go_wp2_with fail
      refine (ndeep_any (H.out.keep HC3.out)).mono ?_
      rintro e w4 ⟨rfl, hc4⟩
      have HC4 := Lib.hid (HC3.out.new hc4)
      have hd : deepI (nNest (signs l)) = (d2 : Int) := by rw [HR.out]; simp only [deepI]; rw [HE.out.2]
      rw [hd]
      clear hc4 hd
      go_wp2_with fail
      go_ret
      exact ⟨rfl, HC4.out⟩
    · exfalso
      rw [← nest_same, HR.out] at hr2
      cases hr2
  · have HR := Lib.hid hr
    clear hr hc1
    go_wp2_with fail
    refine (rnest_any (H.out.keep HC1.out)).mono ?_
    rintro e w2 ⟨hc2, hr2⟩
    have HC2 := Lib.hid (HC1.out.new hc2)
    rcases hr2 with ⟨t2, d2, g2, hr2, htl2, rfl, hT2⟩ | ⟨hr2, rfl⟩
    · exfalso
      rw [← nest_same, HR.out] at hr2
      cases hr2
    · clear hr2 hc2
      go_wp2_with fail
      refine (same_nums (l := []) rfl (by simp) (Src.nil _ _) (Src.nil _ _) (fun ad e => by cases e) (fun ad e => by cases e)).mono ?_
      rintro e w3 ⟨rfl, hc3⟩
      have HC3 := Lib.hid (HC2.out.new hc3)
      clear hc3
      go_wp2_with fail
      refine (ndeep_any (H.out.keep HC3.out)).mono ?_
      rintro e w4 ⟨rfl, hc4⟩
      have HC4 := Lib.hid (HC3.out.new hc4)
      have hd : deepI (nNest (signs l)) = -1 := by rw [HR.out]; rfl
      rw [hd]
      clear hc4 hd
      go_wp2_with fail
      go_ret
      exact ⟨rfl, HC4.out⟩
end
def sg7 : List Int := [63, 58, 59, 91, 93, 126, 43]
theorem sg7_at (q : Nat) (h : q ≤ 6) : ∃ s, sg7[q]? = some s := ⟨_, List.getElem?_eq_getElem (by simp [sg7]; omega)⟩
def RowPost8 (W : World) (e : Ending) (w' : World) : Prop := ∃ v ts, e = .returned v ∧ w'.ownsRow W.heap.size 42 3 v ts.length (tkCs ts) ∧ ts.length ≤ 50 ∧ Chg [] W w'
section
variable {W : World} {A : Option Addr} {n c : Nat} {xs : List Int}
set_option maxHeartbeats 2000000 in
theorem nrow_any (hA : Src W A (nms xs)) (hAs : 0 < n → ∀ ad, A = some ad → ad.spot = none) (hn : xs.length = n) (hnm : n ≤ 9223372036854775807) (hxr : ∀ x ∈ xs, -9223372036854775808 ≤ x ∧ x ≤ 9223372036854775807) :
    Calls Try.prog 14 #[.slice A n c] W (RowPost8 W) := by
  obtain ⟨i0, hi0, hz0, hz1, hz2⟩ := info_parts info_token
  have HA := Lib.hid hA
  have HAS := Lib.hid hAs
  have HN := Lib.hid hn
  have HXR := Lib.hid hxr
  clear hA hAs hn hxr
  go_enter Try.func14, Try.ntmps14
  go_wp2_with fail
  go_loopw [3, 4] (fun v s wr => ∃ k : Nat, k ≤ 50 ∧ k ≤ n ∧ s = .int .i64 (k : Int) ∧ (∃ ts, wr.ownsRow W.heap.size 42 3 v k (tkCs ts) ∧ ts.length = k) ∧ Hid (Chg [] W wr)) (fun _ s _ => 50 - (intOf s).toNat)
  case atStart => exact ⟨0, by omega, by omega, rfl, ⟨[], World.ownsRow_nil _ _ _ _, rfl⟩, Lib.hid (Chg.refl _ _)⟩
  case round =>
    obtain ⟨k, hk, hkn, rfl, ⟨ts, ho, htl⟩, HCr⟩ := hrel
    have HO := Lib.hid ho
    have HTL := Lib.hid htl
    clear ho htl
    by_cases hlt : k < n
    · have hltI : (k : Int) < (n : Int) := by omega
      by_cases hlt2 : k < 50
      · have hlt2I : (k : Int) < 50 := by omega
        have hk0 : (0 : Int) ≤ (k : Int) := by omega
        obtain ⟨⟨bA, oA, sA⟩, rfl, hbA, hxA⟩ := (HA.out.keep HCr.out) (by rw [nms_len, HN.out]; omega)
        obtain rfl : sA = none := HAS.out (by omega) _ rfl
        have ckA := hxA k _ (nms_get xs k (by rw [HN.out]; exact hlt))
        have hxi := HXR.out _ (List.getElem_mem (show k < xs.length by rw [HN.out]; exact hlt))
        generalize xs[k]'(by rw [HN.out]; exact hlt) = x at ckA hxi
        rw [add_plain] at ckA
        obtain ⟨q, hq, hq6⟩ : ∃ q : Nat, withinI x 0 6 = (q : Int) ∧ q ≤ 6 := by
          have hin := into_within x 0 6 (by omega)
          exact ⟨(withinI x 0 6).toNat, by have := hin.1; omega, by have h1 := hin.1; have h2 := hin.2.1; omega⟩
        have HWX := Lib.hid (show ∀ W, Calls Try.prog 37 #[.int .i64 x, .int .i64 0, .int .i64 6] W fun e w' => e = .returned (.int .i64 (q : Int)) ∧ W = w' from fun W => by rw [← hq]; exact within_is x 0 6 (by omega) (by omega) (by omega) hxi.1 hxi.2)
        obtain ⟨s, hs⟩ := sg7_at q hq6
        have hsC : (sg7.map (Value.int .i32))[q]? = some (.int .i32 s) := by rw [List.getElem?_map, hs]; rfl
        have hal : Chg [] wr (wr.alloc (.cells #[.int .i32 63, .int .i32 58, .int .i32 59, .int .i32 91, .int .i32 93, .int .i32 126, .int .i32 43] 21)) := (Chg.refl [] wr).alloc _
        have c9 : (wr.alloc (.cells #[.int .i32 63, .int .i32 58, .int .i32 59, .int .i32 91, .int .i32 93, .int .i32 126, .int .i32 43] 21)).cell? ⟨wr.heap.size, q, none⟩ = some (.int .i32 s) := ((Whole.new wr 21 (sg7.map (Value.int .i32))).cell q).trans hsC
        have ckB := cell_keep ckA hal
        have hq0 : (0 : Int) ≤ (q : Int) := by omega
        have hq7 : (q : Int) < 7 := by omega
        have HAL := Lib.hid hal
        have hsz : W.heap.size ≤ wr.heap.size := HCr.out.size
        have HCP := Lib.hid (show ∀ (j : Nat) (u : Value), [Value.int .i32 s, .int .i64 0, .int .i32 0][j]? = some u → ((wr.alloc (.cells #[.int .i32 63, .int .i32 58, .int .i32 59, .int .i32 91, .int .i32 93, .int .i32 126, .int .i32 43] 21)).alloc (.cells #[.int .i32 s, .int .i64 0, .int .i32 0] 42)).cell? ((⟨wr.heap.size + 1, 0, none⟩ : Addr).add j) = some u from by
          have h := cells_page (wr.alloc (.cells #[.int .i32 63, .int .i32 58, .int .i32 59, .int .i32 91, .int .i32 93, .int .i32 126, .int .i32 43] 21)) [.int .i32 s, .int .i64 0, .int .i32 0] 42
          have e : (wr.alloc (.cells #[.int .i32 63, .int .i32 58, .int .i32 59, .int .i32 91, .int .i32 93, .int .i32 126, .int .i32 43] 21)).heap.size = wr.heap.size + 1 := by simp
          rw [e] at h
          exact h)
        clear hxA hq hxi hs hsC ckA hal
        go_wp2_with (first
          | (go_at_call 37; refine (HWX.out _).mono ?_; rintro e w' ⟨rfl, rfl⟩)
          | (at_builtin
             refine wpList_append_own _ rfl (.tmp 15) (.tmp 25) _ rfl W.heap.size 42 i0 _ 3 24 Try.underlying31 hi0 hz0 hz1 hz2 rfl (by decide) _ k (tkCs ts) rfl (rown_keep HO.out (HAL.out.alloc _)) ⟨wr.heap.size + 1, 0, none⟩ 1 1 [.int .i32 s, .int .i64 0, .int .i32 0] rfl rfl HCP.out (by simp [Value.oneCell']) (by simp only [maxLen]; omega) (by omega) (by simp; omega) ?_
             intro v' w6 ho6 hg6 _
             have HO6 := Lib.hid ho6
             have HG6 := Lib.hid hg6
             clear ho6 hg6))
        have HC6 := Lib.hid (show Chg [] W w6 from chg_grown2 ((HCr.out.new HAL.out).alloc _) HG6.out (fun g hg => ((rown_keep HO.out (HAL.out.alloc (.cells #[] 42))).lt g hg).1))
        go_roundw
        case rel => exact ⟨k + 1, by omega, by omega, by go_num, ⟨ts ++ [⟨s, 0, 0⟩], by rw [tkCs_app, tkCs_one]; exact HO6.out, by rw [List.length_append, HTL.out]; rfl⟩, HC6⟩
        case measure => simp [intOf]; omega
      · have hlt2I : ¬ (k : Int) < 50 := by omega
        have hd : decide ((k : Int) < 50) = false := by simp; omega
        have HPO := Lib.hid (show RowPost8 W (.returned u3) wr from ⟨_, ts, rfl, by rw [HTL.out]; exact HO.out, by rw [HTL.out]; exact hk, HCr.out⟩)
        go_wp2_with fail
        go_ret
        exact HPO.out
    · have hltI : ¬ (k : Int) < (n : Int) := by omega
      have hd : decide ((k : Int) < (n : Int)) = false := by simp; omega
      have HPO := Lib.hid (show RowPost8 W (.returned u3) wr from ⟨_, ts, rfl, by rw [HTL.out]; exact HO.out, by rw [HTL.out]; exact hk, HCr.out⟩)
      go_wp2_with fail
      go_ret
      exact HPO.out
end
end Go.Proofs.Ytafgpmempgoikaa
namespace Go.Proofs.Ytafgpmempgoikaa
open Go.RowKit
section
variable {w : World}
theorem tok_const (s : ByteArray) (ts : List TkV) (h : tokR s = some ts) (hs : s.size ≤ 100) : Calls Try.prog 12 #[.string s] w fun e w' => ∃ A c, e = .returned (.tuple #[.slice A ts.length c, .int .i64 0]) ∧ Tks w' A ts.length c ts ∧ Chg [] w w' := by
  refine (tokens_any s (by omega)).mono ?_
  rintro e w' ⟨hc, ⟨ts', v, h', hl, rfl, ho⟩ | ⟨h', _⟩⟩
  · rw [h] at h'
    injection h' with h'
    subst h'
    obtain ⟨A, c, rfl, hT⟩ := Tks.of_own ho (by omega)
    exact ⟨A, c, rfl, hT, hc⟩
  · rw [h] at h'; cases h'
theorem of_const {A : Option Addr} {n c : Nat} {l : List TkV} (h : Tks w A n c l) (t : List Int) (d : Nat) (hr : nNest (signs l) = some (t, d)) : Calls Try.prog 16 #[.slice A n c] w fun e w' => ∃ g, e = .returned (.tuple #[.slice (some ⟨g, 0, none⟩) n n, .int .i64 0]) ∧ Whole w' g 3 (nms t) ∧ t.length = n ∧ Chg [] w w' := by
  refine (nof_any h).mono ?_
  rintro e w' ⟨hc, ⟨t', d', g, h', hl, rfl, hT⟩ | ⟨h', _⟩⟩
  · rw [hr] at h'
    injection h' with h'
    injection h' with h1 h2
    subst h1
    exact ⟨g, rfl, hT, hl, hc⟩
  · rw [hr] at h'; cases h'
theorem of_const_no {A : Option Addr} {n c : Nat} {l : List TkV} (h : Tks w A n c l) (hr : nNest (signs l) = none) : Calls Try.prog 16 #[.slice A n c] w fun e w' => e = .returned (.tuple #[.slice none 0 0, .int .i64 13]) ∧ Chg [] w w' := by
  refine (nof_any h).mono ?_
  rintro e w' ⟨hc, ⟨t', d', g, h', _⟩ | ⟨_, rfl⟩⟩
  · rw [hr] at h'; cases h'
  · exact ⟨rfl, hc⟩
theorem deep_const {A : Option Addr} {n c : Nat} {l : List TkV} (h : Tks w A n c l) (r : Option (List Int × Nat)) (hr : nNest (signs l) = r) : Calls Try.prog 17 #[.slice A n c] w fun e w' => e = .returned (.int .i64 (deepI r)) ∧ Chg [] w w' := by
  subst hr; exact ndeep_any h
def kA : List TkV := [⟨91, 0, 0⟩, ⟨126, 0, 0⟩, ⟨93, 0, 0⟩]
def kB : List TkV := [⟨63, 0, 0⟩, ⟨58, 0, 0⟩, ⟨59, 0, 0⟩]
def kC : List TkV := [⟨126, 0, 0⟩]
theorem tokA : tokR ⟨#[91, 126, 93]⟩ = some kA := by rfl
theorem tokB : tokR ⟨#[63, 58, 59]⟩ = some kB := by rfl
theorem tokC : tokR ⟨#[126]⟩ = some kC := by rfl
theorem nestA : nNest (signs kA) = some ([-1, 3, 0], 1) := by decide +kernel
theorem nestB : nNest (signs kB) = some ([2, 2, -1], 1) := by decide +kernel
theorem nestC : nNest (signs kC) = none := by decide +kernel
theorem nestN : nNest (signs []) = some ([], 0) := by decide +kernel
set_option maxHeartbeats 4000000 in
set_option maxRecDepth 100000 in
theorem nknown_any : Calls Try.prog 15 #[] w (LawPost w) := by
  go_enter Try.func15, Try.ntmps15
  go_wp2_with fail
  refine (tok_const _ kA tokA (by decide)).mono ?_
  rintro e w1 ⟨A1, c1, rfl, hT1, hc1⟩
  have HT1 := Lib.hid hT1
  have HC1 := Lib.hid hc1
  clear hT1 hc1
  go_wp2_with fail
  refine (tok_const _ kB tokB (by decide)).mono ?_
  rintro e w2 ⟨A2, c2, rfl, hT2, hc2⟩
  have HT2 := Lib.hid hT2
  have HT1 := Lib.hid (HT1.out.keep hc2)
  have HC2 := Lib.hid (HC1.out.new hc2)
  clear hT2 hc2
  go_wp2_with fail
  refine (tok_const _ kC tokC (by decide)).mono ?_
  rintro e w3 ⟨A3, c3, rfl, hT3, hc3⟩
  have HT3 := Lib.hid hT3
  have HT1 := Lib.hid (HT1.out.keep hc3)
  have HT2 := Lib.hid (HT2.out.keep hc3)
  have HC3 := Lib.hid (HC2.out.new hc3)
  clear hT3 hc3
  go_wp2_with fail
  refine (of_const HT1.out _ _ nestA).mono ?_
  rintro e w4 ⟨g4, rfl, hW4, _, hc4⟩
  have HW4 := Lib.hid hW4
  have HT1 := Lib.hid (HT1.out.keep hc4)
  have HT2 := Lib.hid (HT2.out.keep hc4)
  have HT3 := Lib.hid (HT3.out.keep hc4)
  have HC4 := Lib.hid (HC3.out.new hc4)
  clear hW4 hc4
  go_wp2_with fail
  refine (of_const HT2.out _ _ nestB).mono ?_
  rintro e w5 ⟨g5, rfl, hW5, _, hc5⟩
  have HW5 := Lib.hid hW5
  have HW4 := Lib.hid (HW4.out.keep hc5)
  have HT1 := Lib.hid (HT1.out.keep hc5)
  have HT3 := Lib.hid (HT3.out.keep hc5)
  have HC5 := Lib.hid (HC4.out.new hc5)
  clear hW5 hc5
  go_wp2_with fail
  refine (of_const_no HT3.out nestC).mono ?_
  rintro e w6 ⟨rfl, hc6⟩
  have HW4 := Lib.hid (HW4.out.keep hc6)
  have HW5 := Lib.hid (HW5.out.keep hc6)
  have HT1 := Lib.hid (HT1.out.keep hc6)
  have HT3 := Lib.hid (HT3.out.keep hc6)
  have HC6 := Lib.hid (HC5.out.new hc6)
  clear hc6
  go_wp2_with fail
  have hal7 : Chg [] w6 (w6.alloc (.cells #[.int .i64 (-1), .int .i64 3, .int .i64 0] 3)) := (Chg.refl [] w6).alloc _
  refine (same_nums (l := [-1, 3, 0]) rfl (by decide) (Src.of_all (HW4.out.keep hal7)) (Src.of_all (Whole.new w6 3 (nms [-1, 3, 0]))) (fun ad e => by injection e with e; subst e; rfl) (fun ad e => by injection e with e; subst e; rfl)).mono ?_
  rintro e w7 ⟨rfl, hc7⟩
  have hc67 := hal7.new hc7
  have HW5 := Lib.hid (HW5.out.keep hc67)
  have HT1 := Lib.hid (HT1.out.keep hc67)
  have HT3 := Lib.hid (HT3.out.keep hc67)
  have HC7 := Lib.hid (HC6.out.new hc67)
  clear hc7 hal7 hc67
  go_wp2_with fail
  have hal8 : Chg [] w7 (w7.alloc (.cells #[.int .i64 2, .int .i64 2, .int .i64 (-1)] 3)) := (Chg.refl [] w7).alloc _
  refine (same_nums (l := [2, 2, -1]) rfl (by decide) (Src.of_all (HW5.out.keep hal8)) (Src.of_all (Whole.new w7 3 (nms [2, 2, -1]))) (fun ad e => by injection e with e; subst e; rfl) (fun ad e => by injection e with e; subst e; rfl)).mono ?_
  rintro e w8 ⟨rfl, hc8⟩
  have hc78 := hal8.new hc8
  have HT1 := Lib.hid (HT1.out.keep hc78)
  have HT3 := Lib.hid (HT3.out.keep hc78)
  have HC8 := Lib.hid (HC7.out.new hc78)
  clear hc8 hal8 hc78
  go_wp2_with fail
  refine (deep_const HT1.out _ nestA).mono ?_
  rintro e w9 ⟨rfl, hc9⟩
  have HT3 := Lib.hid (HT3.out.keep hc9)
  have HC9 := Lib.hid (HC8.out.new hc9)
  clear hc9
  go_wp2_with fail
  refine (deep_const HT3.out _ nestC).mono ?_
  rintro e w10 ⟨rfl, hc10⟩
  have HC10 := Lib.hid (HC9.out.new hc10)
  clear hc10
  go_wp2_with fail
  refine (deep_const (Tks.nil w10) _ nestN).mono ?_
  rintro e w11 ⟨rfl, hc11⟩
  have HC11 := Lib.hid (HC10.out.new hc11)
  clear hc11
  go_wp2_with fail
  go_ret
  exact ⟨rfl, HC11.out⟩
end
end Go.Proofs.Ytafgpmempgoikaa
namespace Go.Proofs.Ytafgpmempgoikaa
open Go.RowKit
def inOrd (ops : Array Oper) : Nat → Nat → Array Bool → Bool
  | 0, _, _ => true
  | f + 1, i, listed => (Region.ready .any ops listed).contains i && inOrd ops f (i + 1) (listed.setIfInBounds i true)
theorem wpAny_in {P : Program} {ops : Array Oper} {Q : Exit → Act → World → Prop} : ∀ (fuel i : Nat) (listed : Array Bool) (a : Act) (w : World), inOrd ops fuel i listed = true → wpAny P .any ops Q fuel listed a w → wpOps P ops Q (List.range' i fuel) a w := by
  intro fuel
  induction fuel with
  | zero => intro i listed a w _ h; simpa [wpOps] using h.2
  | succ fuel ih =>
    intro i listed a w hi h
    rw [inOrd, Bool.and_eq_true] at hi
    obtain ⟨_, h₁⟩ := h
    rw [List.range'_succ, wpOps_cons]
    exact wpOp_mono (fun a w h => ih _ _ a w hi.2 h) (h₁ i (by simpa using hi.1))
theorem wp_flow_in {P : Program} {id : Nat} {a : Act} {w : World} {l : List Oper} {Q : Exit → Act → World → Prop} (T : Turns) (hT : T.Ok) (hck : flowB T l a.tmps.size = true) (hin : inOrd l.toArray l.length 0 (Array.replicate l.length false) = true)
    (h : Flow P T w a l Q [] 0 l) : (Code.region id l.toArray false).wp P Q a w := by
  obtain ⟨Ψ, hlen, hok, hend⟩ := flow_all (ops := l) (Φ := []) (rest := l) (fun j => by simp) (by
    have : tab l [] = [] := by cases l <;> rfl
    rw [this]; exact h)
  simp only [List.nil_append, List.length_nil, Nat.zero_add] at hok hend
  refine wp_region ?_
  rw [List.size_toArray, List.range_eq_range']
  refine wpAny_in _ _ _ _ _ hin ?_
  have hz : ∀ (n j : Nat), (Array.replicate n false).getD j false = false := fun n j => by
    rw [Array.getD_eq_getD_getElem?]
    rcases Nat.lt_or_ge j n with hlt | hge
    · rw [Array.getElem?_replicate, if_pos hlt]; rfl
    · rw [Array.getElem?_eq_none (by simpa using hge)]; rfl
  have hno : ∀ (n j : Nat) {C : Prop}, (Array.replicate n false).getD j false = true → C := fun n j C hc => by rw [hz] at hc; cases hc
  refine flow_wp (ops := l) hT hck hlen hok (hend 0) _ _ a _ ⟨by simp, hT.sub _ _ (hT.refl _), fun _ => .refl _, rfl, rfl, fun t _ => rfl, fun j o φ _ _ hl => hno _ _ hl, fun j o _ hl => hno _ _ hl⟩ (fun j hj => ?_) (fun h0 => ?_) (by simp)
  · rcases Nat.lt_or_ge j l.length with hlt | hge
    · exact hlt
    · rw [Array.getD_eq_getD_getElem?, Array.getElem?_eq_none (by simpa using hge)] at hj; cases hj
  · have hl0 : l = [] := List.eq_nil_of_length_eq_zero (by simpa using h0)
    subst hl0
    rfl
end Go.Proofs.Ytafgpmempgoikaa
