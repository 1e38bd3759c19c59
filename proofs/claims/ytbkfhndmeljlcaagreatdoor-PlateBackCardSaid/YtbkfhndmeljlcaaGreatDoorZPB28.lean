/-
  PB: Deed.
-/
import Derived.Test.YtbkfhndmeljlcaaGreatDoorZPB7
namespace Go.Proofs.YtbkfhndmeljlcaaGreatDoor
open Go.RowKit
def db : Nat → Nat
  | 0 => 700
  | d + 1 => 2 * db d + 1000
theorem db_le (d : Nat) (h : d ≤ 3) : db d ≤ 20000 ∧ 700 ≤ db d := by
  have : d = 0 ∨ d = 1 ∨ d = 2 ∨ d = 3 := by omega
  rcases this with rfl | rfl | rfl | rfl <;> decide
def thV : List Value := [.string ⟨#[36]⟩, .string ⟨#[194, 174]⟩]
def haV : List Value := [.string ⟨#[]⟩, .string ⟨#[194, 161]⟩]
theorem thV_all : ∀ x ∈ thV, IsTxt 3 x := by intro x h; simp only [thV, List.mem_cons, List.not_mem_nil, or_false] at h; rcases h with rfl | rfl <;> exact ⟨_, rfl, by decide⟩
theorem haV_all : ∀ x ∈ haV, IsTxt 3 x := by intro x h; simp only [haV, List.mem_cons, List.not_mem_nil, or_false] at h; rcases h with rfl | rfl <;> exact ⟨_, rfl, by decide⟩
theorem enV_all (y : ByteArray) (m : Nat) (hy : y.size ≤ m) (hm : 4 ≤ m) : ∀ x ∈ [Value.string ⟨#[59]⟩, .string y, .string ⟨#[58, 194, 161, 59]⟩], IsTxt m x := by
  intro x h
  simp only [List.mem_cons, List.not_mem_nil, or_false] at h
  rcases h with rfl | rfl | rfl
  · exact ⟨_, rfl, by show 1 ≤ m; omega⟩
  · exact ⟨_, rfl, hy⟩
  · exact ⟨_, rfl, by show 4 ≤ m; omega⟩
theorem xyz (r : Nat) (h : r < 3) : ∃ b : UInt8, Utf8.encode (120 + (r : Int)) = ⟨#[b]⟩ ∧ 120 ≤ b.toNat ∧ b.toNat ≤ 122 := by
  have : r = 0 ∨ r = 1 ∨ r = 2 := by omega
  rcases this with rfl | rfl | rfl
  · exact ⟨120, by decide +kernel, by decide, by decide⟩
  · exact ⟨121, by decide +kernel, by decide, by decide⟩
  · exact ⟨122, by decide +kernel, by decide, by decide⟩
section
variable {p n c : Nat} {A : Option Addr} {l : List Int} {FA : Option Addr} {fn fc : Nat} {fl : List FnV}
def DeedOk (p : Nat) (A : Option Addr) (n c : Nat) (l : List Int) (FA : Option Addr) (fn fc : Nat) (fl : List FnV) (d : Nat) : Prop :=
  ∀ (deep : Int) (W : World) (j : Nat), deep ≤ d → -10 ≤ deep → Tp W p A n c l j → Fns W p FA fn fc fl → Calls Tryz.prog 35 #[.pointer (some ⟨p, 0, none⟩), .int .i64 deep, .slice FA fn fc] W (TapPost (db d) p A n c l W)
set_option maxHeartbeats 4000000 in
set_option maxRecDepth 100000 in
theorem deed_step (d : Nat) (hd : d ≤ 3) (IH : ∀ d', d' < d → DeedOk p A n c l FA fn fc fl d') : DeedOk p A n c l FA fn fc fl d := by
  intro deep w j hdd hd0 hT hF
  obtain ⟨hb1, hb2⟩ := db_le d hd
  have HB2 := Lib.hid hb2
  have HB1 := Lib.hid hb1
  have HB3 := Lib.hid (show (620 : Nat) = 620 from rfl)
  clear hb1 hb2
  have HF := Lib.hid hF
  have hmax := hF.max
  clear hF
  have HV := Lib.hid (fun (W : World) (j : Nat) (hT : Tp W p A n c l j) (hF : Fns W p FA fn fc fl) => (value_any (p := p) (A := A) (n := n) (c := c) (l := l) (FA := FA) (fn := fn) (fc := fc) (fl := fl) 2 (by omega)) 2 W j (by omega) (by omega) hT hF)
  have HU := Lib.hid (fun (W : World) (j : Nat) (hT : Tp W p A n c l j) (hF : Fns W p FA fn fc fl) => (value_any (p := p) (A := A) (n := n) (c := c) (l := l) (FA := FA) (fn := fn) (fc := fc) (fl := fl) 1 (by omega)) 1 W j (by omega) (by omega) hT hF)
  go_enter Tryz.func35, Tryz.ntmps35
  go_wp2_with fail
  refine (next_any hT 9 (by omega) (by omega)).mono ?_
  rintro e w1 ⟨r, a1, hr, rfl, hT1, hc1⟩
  have HC1 := Lib.hid hc1
  have HF1 := Lib.hid (HF.out.keep hc1)
  have HT1 := Lib.hid hT1
  have hp1 := hT1.lt
  clear hc1 hT1 hT
  by_cases h3 : r < 3
  · have q14 : decide ((r : Int) < 3) = true := by simp; omega
    go_wp2_with fail
    refine (HV.out w1 _ HT1.out HF1.out).mono ?_
    rintro e w2 ⟨s1, rfl, hs1, ⟨j2, hT2⟩, hc2⟩
    replace hs1 : s1.size ≤ 620 := hs1
    have HT2 := Lib.hid hT2
    have HF2 := Lib.hid (HF1.out.keep hc2)
    have HC2 := Lib.hid (HC1.out.trans hc2)
    have hp2 := hT2.lt
    clear hT2 hc2
    go_wp2_with fail
    refine (next_any HT2.out 4 (by omega) (by omega)).mono ?_
    rintro e w3 ⟨x1, j3, hx1, rfl, hT3, hc3⟩
    have HT3 := Lib.hid hT3
    have HF3 := Lib.hid (HF2.out.keep hc3)
    have HC3 := Lib.hid (HC2.out.trans hc3)
    have hp3 := hT3.lt
    clear hT3 hc3
    have he1 := encode_le4 (65 + (x1 : Int))
    obtain ⟨y1, hy1, haddy1⟩ := addS s1 (Utf8.encode (65 + (x1 : Int))) 620 4 hs1 he1 (by have := HB1.out; have := HB3.out; omega)
    have haddy1 := haddy1 w3
    go_wp2_with fail
    go_ret
    exact ⟨y1, rfl, by have := HB2.out; have := HB3.out; omega, ⟨_, HT3.out⟩, HC3.out⟩
  · have q14 : decide ((r : Int) < 3) = false := by simp; omega
    by_cases h5 : r < 5
    · have q26 : decide ((r : Int) < 5) = true := by simp; omega
      go_wp2_with fail
      refine (next_any HT1.out 190 (by omega) (by omega)).mono ?_
      rintro e w2 ⟨x1, j2, hx1, rfl, hT2, hc2⟩
      have HT2 := Lib.hid hT2
      have HF2 := Lib.hid (HF1.out.keep hc2)
      have HC2 := Lib.hid (HC1.out.trans hc2)
      have hp2 := hT2.lt
      clear hT2 hc2
      go_wp2_with fail
      refine (digits_any 2 x1 (by omega) (by omega) w2).mono ?_
      rintro e w3 ⟨s1, rfl, hs1, hc3⟩
      replace hs1 : s1.size ≤ 12 := hs1
      have hT3 := HT2.out.keep hc3
      replace hc3 := hc3.sub (T' := [p]) (by simp)
      have HT3 := Lib.hid hT3
      have HF3 := Lib.hid (HF2.out.keep hc3)
      have HC3 := Lib.hid (HC2.out.trans hc3)
      have hp3 := hT3.lt
      clear hT3 hc3
      obtain ⟨y1, hy1, haddy1⟩ := addS ⟨#[32]⟩ s1 1 12 (by decide) hs1 (by have := HB1.out; have := HB3.out; omega)
      have haddy1 := haddy1 w3
      go_wp2_with fail
      refine (HV.out w3 _ HT3.out HF3.out).mono ?_
      rintro e w4 ⟨s2, rfl, hs2, ⟨j4, hT4⟩, hc4⟩
      replace hs2 : s2.size ≤ 620 := hs2
      have HT4 := Lib.hid hT4
      have HF4 := Lib.hid (HF3.out.keep hc4)
      have HC4 := Lib.hid (HC3.out.trans hc4)
      have hp4 := hT4.lt
      clear hT4 hc4
      obtain ⟨y2, hy2, haddy2⟩ := addS y1 s2 13 620 hy1 hs2 (by have := HB1.out; have := HB3.out; omega)
      have haddy2 := haddy2 w4
      have hG := Whole.new w4 9 thV
      have hal : Chg [] w4 (w4.alloc (.cells thV.toArray 9)) := (Chg.refl [] w4).alloc _
      have HTa := Lib.hid (HT4.out.keep hal)
      have HCa := Lib.hid (HC4.out.trans (hal.sub (T' := [p]) (by simp)))
      have HFa := Lib.hid (HF4.out.keep (hal.sub (T' := [p]) (by simp)))
      have hgp : w4.heap.size ≠ p := by omega
      clear hal
      go_wp2_with fail
      refine (next_any HTa.out 2 (by omega) (by omega)).mono ?_
      rintro e w5 ⟨r3, j5, hr3, rfl, hT5, hc5⟩
      have hG3 := hG.chg hc5 (by simpa using hgp)
      obtain ⟨u, hu, s, rfl, hs⟩ := row_get thV_all r3 (by exact hr3)
      have c3 := (hG3.cell r3).trans hu
      have HT5 := Lib.hid hT5
      have HC5 := Lib.hid (HCa.out.trans hc5)
      have HF5 := Lib.hid (HFa.out.keep hc5)
      have hp5 := hT5.lt
      clear hG hG3 hc5 hT5 hu HTa HCa HFa
      obtain ⟨y3, hy3, haddy3⟩ := addS y2 s 633 3 hy2 hs (by have := HB1.out; have := HB3.out; omega)
      have haddy3 := haddy3 w5
      go_wp2_with fail
      go_ret
      exact ⟨y3, rfl, by have := HB2.out; have := HB3.out; omega, ⟨_, HT5.out⟩, HC5.out⟩
    · have q26 : decide ((r : Int) < 5) = false := by simp; omega
      by_cases h7 : r = 7 ∨ r = 8 ∨ deep ≤ 0
      · by_cases hr7 : r = 7
        · have q43 : ((r : Int) == 5) = false := by simp; omega
          have q74 : ((r : Int) == 6) = false := by simp; omega
          have q115 : ((r : Int) == 7) = true := by simp; omega
          go_upto_region 13 with fail
          go_wp2_with fail
          refine (HV.out w1 _ HT1.out HF1.out).mono ?_
          rintro e w2 ⟨s1, rfl, hs1, ⟨j2, hT2⟩, hc2⟩
          replace hs1 : s1.size ≤ 620 := hs1
          have HT2 := Lib.hid hT2
          have HF2 := Lib.hid (HF1.out.keep hc2)
          have HC2 := Lib.hid (HC1.out.trans hc2)
          have hp2 := hT2.lt
          clear hT2 hc2
          obtain ⟨y1, hy1, haddy1⟩ := addS s1 ⟨#[44]⟩ 620 1 hs1 (by decide) (by have := HB1.out; have := HB3.out; omega)
          have haddy1 := haddy1 w2
          have hG := Whole.new w2 9 haV
          have hal : Chg [] w2 (w2.alloc (.cells haV.toArray 9)) := (Chg.refl [] w2).alloc _
          have HTa := Lib.hid (HT2.out.keep hal)
          have HCa := Lib.hid (HC2.out.trans (hal.sub (T' := [p]) (by simp)))
          have hgp : w2.heap.size ≠ p := by omega
          clear hal
          go_wp2_with fail
          refine (next_any HTa.out 9 (by omega) (by omega)).mono ?_
          rintro e w3 ⟨r3, j3, hr3, rfl, hT3, hc3⟩
          have hG3 := hG.chg hc3 (by simpa using hgp)
          obtain ⟨r4, hr4⟩ : ∃ r4, r4 = r3 / 8 := ⟨_, rfl⟩
          have hr42 : r4 < 2 := by omega
          have hq8 : (r3 : Int).tdiv 8 = (r4 : Int) := by rw [hr4]; rfl
          obtain ⟨u, hu, s, rfl, hs⟩ := row_get haV_all r4 (by exact hr42)
          have c3 := (hG3.cell r4).trans hu
          have HT3 := Lib.hid hT3
          have HC3 := Lib.hid (HCa.out.trans hc3)
          clear hG hG3 hc3 hT3 hu HTa HCa hr4
          have hr4I : (r4 : Int) < 2 := by omega
          obtain ⟨y2, hy2, haddy2⟩ := addS y1 s 621 3 hy1 hs (by have := HB1.out; have := HB3.out; omega)
          have haddy2 := haddy2 w3
          go_wp2_with fail
          go_ret
          exact ⟨y2, rfl, by have := HB2.out; have := HB3.out; omega, ⟨_, HT3.out⟩, HC3.out⟩
        · have q115 : ((r : Int) == 7) = false := by simp; omega
          have qdp : ¬ r = 8 → decide ((0 : Int) < deep) = false := fun h => by simp; omega
          by_cases h55 : r = 5
          · have q43 : ((r : Int) == 5) = true := by simp; omega
            have q74 : ((r : Int) == 6) = false := by simp; omega
            have qdq := qdp (by omega)
            clear qdp h7
            go_upto_region 14 with fail
            go_wp2_with fail
            refine (HU.out w1 _ HT1.out HF1.out).mono ?_
            rintro e w2 ⟨s1, rfl, hs1, ⟨j2, hT2⟩, hc2⟩
            replace hs1 : s1.size ≤ 200 := hs1
            have HT2 := Lib.hid hT2
            have HF2 := Lib.hid (HF1.out.keep hc2)
            have HC2 := Lib.hid (HC1.out.trans hc2)
            have hp2 := hT2.lt
            clear hT2 hc2
            obtain ⟨y1, hy1, haddy1⟩ := addS s1 ⟨#[90]⟩ 200 1 hs1 (by decide) (by have := HB1.out; have := HB3.out; omega)
            have haddy1 := haddy1 w2
            go_wp2_with fail
            go_ret
            exact ⟨y1, rfl, by have := HB2.out; have := HB3.out; omega, ⟨_, HT2.out⟩, HC2.out⟩
          · have q43 : ((r : Int) == 5) = false := by simp; omega
            by_cases h66 : r = 6
            · have q74 : ((r : Int) == 6) = true := by simp; omega
              have qdq := qdp (by omega)
              clear qdp h7
              go_upto_region 14 with fail
              go_wp2_with fail
              refine (HU.out w1 _ HT1.out HF1.out).mono ?_
              rintro e w2 ⟨s1, rfl, hs1, ⟨j2, hT2⟩, hc2⟩
              replace hs1 : s1.size ≤ 200 := hs1
              have HT2 := Lib.hid hT2
              have HF2 := Lib.hid (HF1.out.keep hc2)
              have HC2 := Lib.hid (HC1.out.trans hc2)
              have hp2 := hT2.lt
              clear hT2 hc2
              obtain ⟨y1, hy1, haddy1⟩ := addS s1 ⟨#[90]⟩ 200 1 hs1 (by decide) (by have := HB1.out; have := HB3.out; omega)
              have haddy1 := haddy1 w2
              go_wp2_with fail
              go_ret
              exact ⟨y1, rfl, by have := HB2.out; have := HB3.out; omega, ⟨_, HT2.out⟩, HC2.out⟩
            · have q74 : ((r : Int) == 6) = false := by simp; omega
              clear qdp h7
              go_upto_region 14 with fail
              go_wp2_with fail
              refine (HU.out w1 _ HT1.out HF1.out).mono ?_
              rintro e w2 ⟨s1, rfl, hs1, ⟨j2, hT2⟩, hc2⟩
              replace hs1 : s1.size ≤ 200 := hs1
              have HT2 := Lib.hid hT2
              have HF2 := Lib.hid (HF1.out.keep hc2)
              have HC2 := Lib.hid (HC1.out.trans hc2)
              have hp2 := hT2.lt
              clear hT2 hc2
              obtain ⟨y1, hy1, haddy1⟩ := addS s1 ⟨#[90]⟩ 200 1 hs1 (by decide) (by have := HB1.out; have := HB3.out; omega)
              have haddy1 := haddy1 w2
              go_wp2_with fail
              go_ret
              exact ⟨y1, rfl, by have := HB2.out; have := HB3.out; omega, ⟨_, HT2.out⟩, HC2.out⟩
      · obtain ⟨d, rfl⟩ : ∃ x, d = x + 1 := ⟨d - 1, by omega⟩
        have HD := Lib.hid (IH d (by omega))
        have HB4 := Lib.hid (show db (d + 1) = 2 * db d + 1000 from rfl)
        have HB3 := HB4
        clear IH
        have hdp : decide ((0 : Int) < deep) = true := by simp; omega
        by_cases h55 : r = 5
        · have q43 : ((r : Int) == 5) = true := by simp; omega
          go_wp2_with fail
          refine (HU.out w1 _ HT1.out HF1.out).mono ?_
          rintro e w2 ⟨s1, rfl, hs1, ⟨j2, hT2⟩, hc2⟩
          replace hs1 : s1.size ≤ 200 := hs1
          have HT2 := Lib.hid hT2
          have HF2 := Lib.hid (HF1.out.keep hc2)
          have HC2 := Lib.hid (HC1.out.trans hc2)
          have hp2 := hT2.lt
          clear hT2 hc2
          obtain ⟨y1, hy1, haddy1⟩ := addS s1 ⟨#[63]⟩ 200 1 hs1 (by decide) (by have := HB1.out; have := HB3.out; omega)
          have haddy1 := haddy1 w2
          go_wp2_with fail
          refine (HD.out (deep - 1) w2 _ (by omega) (by omega) HT2.out HF2.out).mono ?_
          rintro e w3 ⟨s2, rfl, hs2, ⟨j3, hT3⟩, hc3⟩
          have HT3 := Lib.hid hT3
          have HF3 := Lib.hid (HF2.out.keep hc3)
          have HC3 := Lib.hid (HC2.out.trans hc3)
          have hp3 := hT3.lt
          clear hT3 hc3
          go_wp2_with fail
          refine (live_any s2 w3 (by have := HB1.out; have := HB3.out; omega)).mono ?_
          rintro e wl ⟨t2, rfl, ht2, hwl⟩
          subst hwl
          replace ht2 : t2.size ≤ db d := Nat.le_trans ht2 hs2
          obtain ⟨y2, hy2, haddy2⟩ := addS y1 t2 201 (db d) hy1 ht2 (by have := HB1.out; have := HB3.out; omega)
          have haddy2 := haddy2 w3
          go_wp2_with fail
          refine (HD.out (deep - 1) w3 _ (by omega) (by omega) HT3.out HF3.out).mono ?_
          rintro e w4 ⟨s3, rfl, hs3, ⟨j4, hT4⟩, hc4⟩
          have HT4 := Lib.hid hT4
          have HF4 := Lib.hid (HF3.out.keep hc4)
          have HC4 := Lib.hid (HC3.out.trans hc4)
          have hp4 := hT4.lt
          clear hT4 hc4
          obtain ⟨y3, hy3, haddy3⟩ := addS ⟨#[58]⟩ s3 1 (db d) (by decide) hs3 (by have := HB1.out; have := HB3.out; omega)
          have haddy3 := haddy3 w4
          obtain ⟨y4, hy4, haddy4⟩ := addS y3 ⟨#[59]⟩ (1 + db d) 1 hy3 (by decide) (by have := HB1.out; have := HB3.out; omega)
          have haddy4 := haddy4 w4
          have hen := enV_all y4 (1 + db d + 1 + 2) (by omega) (by omega)
          have hG := Whole.new w4 9 [.string ⟨#[59]⟩, .string y4, .string ⟨#[58, 194, 161, 59]⟩]
          have hal : Chg [] w4 (w4.alloc (.cells [.string ⟨#[59]⟩, .string y4, .string ⟨#[58, 194, 161, 59]⟩].toArray 9)) := (Chg.refl [] w4).alloc _
          have HTa := Lib.hid (HT4.out.keep hal)
          have HCa := Lib.hid (HC4.out.trans (hal.sub (T' := [p]) (by simp)))
          have HFa := Lib.hid (HF4.out.keep (hal.sub (T' := [p]) (by simp)))
          have hgp : w4.heap.size ≠ p := by omega
          clear hal
          go_wp2_with fail
          refine (next_any HTa.out 3 (by omega) (by omega)).mono ?_
          rintro e w5 ⟨r3, j5, hr3, rfl, hT5, hc5⟩
          have hG3 := hG.chg hc5 (by simpa using hgp)
          obtain ⟨u, hu, s, rfl, hs⟩ := row_get hen r3 (by exact hr3)
          have c3 := (hG3.cell r3).trans hu
          have HT5 := Lib.hid hT5
          have HC5 := Lib.hid (HCa.out.trans hc5)
          have HF5 := Lib.hid (HFa.out.keep hc5)
          have hp5 := hT5.lt
          clear hG hG3 hc5 hT5 hu HTa HCa HFa
          obtain ⟨y5, hy5, haddy5⟩ := addS y2 s (201 + db d) (1 + db d + 1 + 2) hy2 hs (by have := HB1.out; have := HB3.out; omega)
          have haddy5 := haddy5 w5
          go_wp2_with fail
          go_ret
          exact ⟨y5, rfl, by have := HB4.out; omega, ⟨_, HT5.out⟩, HC5.out⟩
        · have q43 : ((r : Int) == 5) = false := by simp; omega
          have q74 : ((r : Int) == 6) = true := by simp; omega
          go_upto_region 9 with fail
          go_wp2_with fail
          refine (next_any HT1.out 3 (by omega) (by omega)).mono ?_
          rintro e w2 ⟨x1, j2, hx1, rfl, hT2, hc2⟩
          have HT2 := Lib.hid hT2
          have HF2 := Lib.hid (HF1.out.keep hc2)
          have HC2 := Lib.hid (HC1.out.trans hc2)
          have hp2 := hT2.lt
          clear hT2 hc2
          obtain ⟨b, hb, hb1, hb2⟩ := xyz x1 hx1
          go_upto_region 10 with fail
          go_upto_region 11 with fail
          generalize hup : Utf8.encode (_ % 256) = up
          have hu4 : up.size ≤ 4 := by rw [← hup]; exact encode_le4 _
          clear hup hb
          go_wp2_with fail
          refine (next_any HT2.out 5 (by omega) (by omega)).mono ?_
          rintro e w3 ⟨x2, j3, hx2, rfl, hT3, hc3⟩
          have HT3 := Lib.hid hT3
          have HF3 := Lib.hid (HF2.out.keep hc3)
          have HC3 := Lib.hid (HC2.out.trans hc3)
          have hp3 := hT3.lt
          clear hT3 hc3
          go_wp2_with fail
          refine (digits_any 2 (1 + x2) (by omega) (by omega) w3).mono ?_
          rintro e w4 ⟨s1, rfl, hs1, hc4⟩
          replace hs1 : s1.size ≤ 12 := hs1
          have hT4 := HT3.out.keep hc4
          replace hc4 := hc4.sub (T' := [p]) (by simp)
          have HT4 := Lib.hid hT4
          have HF4 := Lib.hid (HF3.out.keep hc4)
          have HC4 := Lib.hid (HC3.out.trans hc4)
          have hp4 := hT4.lt
          clear hT4 hc4
          obtain ⟨y1, hy1, haddy1⟩ := addS ⟨#[32]⟩ s1 1 12 (by decide) hs1 (by have := HB1.out; have := HB3.out; omega)
          have haddy1 := haddy1 w4
          obtain ⟨y2, hy2, haddy2⟩ := addS y1 up 13 4 hy1 hu4 (by have := HB1.out; have := HB3.out; omega)
          have haddy2 := haddy2 w4
          obtain ⟨y3, hy3, haddy3⟩ := addS y2 ⟨#[91]⟩ 17 1 hy2 (by decide) (by have := HB1.out; have := HB3.out; omega)
          have haddy3 := haddy3 w4
          obtain ⟨y4, hy4, haddy4⟩ := addS y3 ⟨#[b]⟩ 18 1 hy3 (Nat.le_refl 1) (by have := HB1.out; have := HB3.out; omega)
          have haddy4 := haddy4 w4
          obtain ⟨y5, hy5, haddy5⟩ := addS y4 ⟨#[33, 63, 126, 59]⟩ 19 4 hy4 (by decide) (by have := HB1.out; have := HB3.out; omega)
          have haddy5 := haddy5 w4
          go_wp2_with fail
          refine (HD.out (deep - 1) w4 _ (by omega) (by omega) HT4.out HF4.out).mono ?_
          rintro e w5 ⟨s2, rfl, hs2, ⟨j5, hT5⟩, hc5⟩
          have HT5 := Lib.hid hT5
          have HF5 := Lib.hid (HF4.out.keep hc5)
          have HC5 := Lib.hid (HC4.out.trans hc5)
          have hp5 := hT5.lt
          clear hT5 hc5
          go_wp2_with fail
          refine (live_any s2 w5 (by have := HB1.out; have := HB3.out; omega)).mono ?_
          rintro e wl ⟨t2, rfl, ht2, hwl⟩
          subst hwl
          replace ht2 : t2.size ≤ db d := Nat.le_trans ht2 hs2
          obtain ⟨y6, hy6, haddy6⟩ := addS y5 t2 23 (db d) hy5 ht2 (by have := HB1.out; have := HB3.out; omega)
          have haddy6 := haddy6 w5
          obtain ⟨y7, hy7, haddy7⟩ := addS y6 ⟨#[b]⟩ (23 + db d) 1 hy6 (Nat.le_refl 1) (by have := HB1.out; have := HB3.out; omega)
          have haddy7 := haddy7 w5
          obtain ⟨y8, hy8, haddy8⟩ := addS y7 ⟨#[32, 49, 45]⟩ (24 + db d) 3 (by omega) (by decide) (by have := HB1.out; have := HB3.out; omega)
          have haddy8 := haddy8 w5
          obtain ⟨y9, hy9, haddy9⟩ := addS y8 up (27 + db d) 4 (by omega) hu4 (by have := HB1.out; have := HB3.out; omega)
          have haddy9 := haddy9 w5
          obtain ⟨ya, hya, haddya⟩ := addS y9 ⟨#[93]⟩ (31 + db d) 1 (by omega) (by decide) (by have := HB1.out; have := HB3.out; omega)
          have haddya := haddya w5
          go_wp2_with fail
          go_ret
          exact ⟨ya, rfl, by have := HB4.out; omega, ⟨_, HT5.out⟩, HC5.out⟩
theorem deed_any : ∀ d : Nat, d ≤ 3 → DeedOk p A n c l FA fn fc fl d := by
  intro d
  induction d using Nat.strongRecOn with
  | _ d ih => exact fun hd => deed_step d hd fun d' h => ih d' h (by omega)
end
end Go.Proofs.YtbkfhndmeljlcaaGreatDoor
