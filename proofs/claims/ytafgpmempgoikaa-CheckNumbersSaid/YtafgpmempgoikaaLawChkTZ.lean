/-
  The walk of CheckTells.
-/
import Derived.Test.YtafgpmempgoikaaZNestWithin1
import Derived.Test.YtafgpmempgoikaaZNestWithin2
import Derived.Test.YtafgpmempgoikaaZNestWithin3
import Derived.Test.YtafgpmempgoikaaZNestWithin4
import Derived.Test.YtafgpmempgoikaaZNestWithin5
import Derived.Test.YtafgpmempgoikaaZNestWithin6
import Derived.Test.YtafgpmempgoikaaFrZ
import Derived.Test.YtafgpmempgoikaaCTakesZ
import Derived.Test.YtafgpmempgoikaaWkMemZ
import Derived.Test.YtafgpmempgoikaaWkHalveZ
import Derived.Test.YtafgpmempgoikaaWkEndZ
import Derived.Test.YtafgpmempgoikaaWkLeaveZ
import Derived.Test.YtafgpmempgoikaaWkTurnZ
import Derived.Test.YtafgpmempgoikaaWkStepZ
import Derived.Test.YtafgpmempgoikaaWkPureZ
import Derived.Test.YtafgpmempgoikaaGl1Z
import Derived.Test.YtafgpmempgoikaaGl2Z
import Derived.Test.YtafgpmempgoikaaGlPureZ
import Derived.Test.YtafgpmempgoikaaGlMemZ
import Derived.Test.YtafgpmempgoikaaGlTakeZ
import Derived.Test.YtafgpmempgoikaaGlTokZ
import Derived.Test.YtafgpmempgoikaaWkFuncZ
import Derived.Test.YtafgpmempgoikaaOddZ
import Derived.Test.YtafgpmempgoikaaOddsZ
import Derived.Test.YtafgpmempgoikaaChkSameZ
import Derived.Test.YtafgpmempgoikaaChkTakesZ
import Derived.Test.YtafgpmempgoikaaChkKnownZ
namespace Go.Proofs.Ytafgpmempgoikaa
open Go.RowKit
section
variable {w : World} {A : Option Addr} {n c : Nat} {l : List Int} {TA : Option Addr} {tn tc : Nat} {ts : List TurnV}
theorem one_same (s : ByteArray) (hs : s.size ≤ 1000000) {W W' : World} {g : Nat} (hF : Fnr W (some ⟨g, 0, none⟩) 1 1 [⟨102, 1, s⟩]) (hc : Chg [] W W') : Calls Try.prog 18 #[unitV 0 0 (some ⟨g, 0, none⟩) 1 1] W' (LawPost W') :=
  csame_any (hF.keep hc) (fun f hf => by simp at hf; subst hf; exact hs)
set_option maxHeartbeats 8000000 in
set_option maxRecDepth 100000 in
theorem checkTells_any (hs : Src w A (nms l)) (hlen : l.length = n) (hspot : 0 < n → ∀ ad, A = some ad → ad.spot = none) (hn : n ≤ 9223372036854775807) (hrng : ∀ x ∈ l, -9223372036854775808 ≤ x ∧ x ≤ 9223372036854775807)
    (hT : Trn w TA tn ts) (htn : tn ≤ 9223372036854775807) (raw : ByteArray) (hraw : raw.size ≤ 9223372036854775807) (t : TkV) :
    Calls Try.prog 7 #[.slice A n c, .slice TA tn tc, .string raw, .agg (tkC t).toArray] w (LawPost w) := by
  obtain ⟨r, kn, nm⟩ := t
  simp only [tkC]
  have HS := Lib.hid (And.intro hs (And.intro hlen (And.intro hspot (And.intro hn hrng))))
  have HT := Lib.hid hT
  clear hs hlen hspot hrng hT hn
  go_enter Try.func7, Try.ntmps7
  go_upto_region 1 with fail
  have hK := Whole.new w 42 [.int .i32 r, .int .i64 kn, .int .i32 nm]
  have hal := (Chg.refl [] w).alloc (.cells #[.int .i32 r, .int .i64 kn, .int .i32 nm] 42)
  have HUN := Lib.hid (unit_any (c := c) (HS.out.1.keep hal) HS.out.2.1 HS.out.2.2.1 HS.out.2.2.2.1 HS.out.2.2.2.2)
  have HT1 := Lib.hid (HT.out.keep hal)
  obtain ⟨gk, hgk⟩ : ∃ gk, gk = w.heap.size := ⟨_, rfl⟩
  rw [← hgk] at hK ⊢
  have HK1 := Lib.hid hK
  have HC1 := Lib.hid hal
  generalize w.alloc (.cells #[.int .i32 r, .int .i64 kn, .int .i32 nm] 42) = w1 at HUN HT1 HK1 HC1 ⊢
  clear hK hal hgk HS HT
  go_wp2_with fail
  refine HUN.out.mono ?_
  rintro e w2 ⟨pg, ms, v, fl, rfl, hp0, hp1, hm0, hm1, ho, hg, hfl0, hc2⟩
  obtain ⟨FA, fc, rfl, hFr⟩ := Fnr.of_own ho (by have := hg.lo; omega) (fun f hf => by have := hg.args f hf; omega)
  have HGD := Lib.hid hg
  have HSM := Lib.hid (show 0 < fl.length → ∀ ad, FA = some ad → ad.block < w2.heap.size from fun h0 ad e => by
    subst e
    obtain ⟨_, _, e', _, _, hb⟩ := rown_slice ho
    injection e' with e1 _ _
    exact (hb ad e1.symm).2.2.2)
  have HF2 := Lib.hid hFr
  have HK2 := Lib.hid (HK1.out.keep hc2)
  have HT2 := Lib.hid (HT1.out.keep hc2)
  have HC2 := Lib.hid (HC1.out.new hc2)
  have HFL := Lib.hid hfl0
  have hpm : Ranged pg ∧ Ranged ms := ⟨⟨by omega, by omega⟩, by omega, by omega⟩
  have HPM := Lib.hid hpm
  clear HUN ho hg hFr hp0 hp1 hm0 hm1 hc2 hpm hfl0 HK1 HT1 HC1
  obtain ⟨fn, hfn⟩ : ∃ fn, fn = fl.length := ⟨_, rfl⟩
  rw [← hfn] at HF2 HSM ⊢
  have HFN := Lib.hid hfn
  clear hfn
  go_upto_region 2 with fail
  have hU := Whole.new w2 26 [.int .i64 pg, .int .i64 ms, .slice FA fn fc]
  have hal := (Chg.refl [] w2).alloc (.cells #[.int .i64 pg, .int .i64 ms, .slice FA fn fc] 26)
  have HSM3 := Lib.hid (show 0 < fn → ∀ ad, FA = some ad → ad.block < (w2.alloc (.cells #[.int .i64 pg, .int .i64 ms, .slice FA fn fc] 26)).heap.size from fun h0 ad e => Nat.lt_of_lt_of_le (HSM.out h0 ad e) hal.size)
  have HF3 := Lib.hid (HF2.out.keep hal)
  have HK3 := Lib.hid (HK2.out.keep hal)
  have HT3 := Lib.hid (HT2.out.keep hal)
  have HC3 := Lib.hid (HC2.out.new hal)
  obtain ⟨gu, hgu⟩ : ∃ gu, gu = w2.heap.size := ⟨_, rfl⟩
  rw [← hgu] at hU ⊢
  have HU3 := Lib.hid hU
  generalize w2.alloc (.cells #[.int .i64 pg, .int .i64 ms, .slice FA fn fc] 26) = w3 at HSM3 HF3 HK3 HT3 HC3 HU3 ⊢
  clear hU hal hgu HF2 HK2 HT2 HC2 HSM
  go_upto_if 14 with fail
  go_cut [2] (fun v wx => ∃ s : ByteArray, v = .string s ∧ s.size ≤ 40 ∧ w3 = wx)
  case first =>
    by_cases h40 : 40 < raw.size
    · have h40I : (40 : Int) < (raw.size : Int) := by omega
      go_wp2_with fail
      go_meet
      exact ⟨_, rfl, by simp; omega, rfl⟩
    · have h40I : (raw.size : Int) ≤ 40 := by omega
      go_wp2_with fail
      go_meet
      exact ⟨_, rfl, by omega, rfl⟩
  case rest =>
    obtain ⟨s, rfl, hs40, rfl⟩ := hcut
    have u0 := HU3.out.cell 0
    have u1 := HU3.out.cell 1
    have u2 := HU3.out.cell 2
    go_wp2_with fail
    refine (csame_any HF3.out (fun f hf => by have := HGD.out.size f hf; omega)).mono ?_
    rintro e w4 ⟨rfl, hc4⟩
    have HSM4 := Lib.hid (show 0 < fn → ∀ ad, FA = some ad → ad.block < w4.heap.size from fun h0 ad e => Nat.lt_of_lt_of_le (HSM3.out h0 ad e) hc4.size)
    have HF4 := Lib.hid (HF3.out.keep hc4)
    have HK4 := Lib.hid (HK3.out.keep hc4)
    have HT4 := Lib.hid (HT3.out.keep hc4)
    have HC4 := Lib.hid (HC3.out.new hc4)
    have HU4 := Lib.hid (HU3.out.keep hc4)
    clear hc4 u0 u1 u2 HF3 HK3 HT3 HC3 HU3 HSM3
    have u0 := HU4.out.cell 0
    have u1 := HU4.out.cell 1
    have u2 := HU4.out.cell 2
    go_wp2_with fail
    refine (odds_any HF4.out (HGD.out.oddly HFL.out) HPM.out.1 HPM.out.2 HSM4.out HT4.out htn).mono ?_
    rintro e w5 ⟨pg2, ms2, A5, n5, c5, l5, rfl, _, _, hF5, hO5, hc5⟩
    have HSX := Lib.hid (csame_any (pages := pg2) (most := ms2) hF5 (fun f hf => by have := (hO5.fn f hf).2.1; omega))
    have HF5 := Lib.hid (HF4.out.keep hc5)
    have HK5 := Lib.hid (HK4.out.keep hc5)
    have HC5 := Lib.hid (HC4.out.new hc5)
    have HU5 := Lib.hid (HU4.out.keep hc5)
    clear hc5 u0 u1 u2 HF4 HK4 HT4 HC4 HU4 HSM4 hF5 hO5
    go_wp2_with fail
    refine HSX.out.mono ?_
    rintro e w6 ⟨rfl, hc6⟩
    have HF6 := Lib.hid (HF5.out.keep hc6)
    have HK6 := Lib.hid (HK5.out.keep hc6)
    have HC6 := Lib.hid (HC5.out.new hc6)
    have HU6 := Lib.hid (HU5.out.keep hc6)
    clear hc6 HF5 HK5 HC5 HU5 HSX
    go_wp2_with fail
    refine (one_any s w6).mono ?_
    rintro e w7 ⟨g7, rfl, hF7, _, hc7⟩
    have HSX := Lib.hid (one_same s (by omega) hF7 (Chg.refl [] w7))
    have HF7 := Lib.hid (HF6.out.keep hc7)
    have HK7 := Lib.hid (HK6.out.keep hc7)
    have HC7 := Lib.hid (HC6.out.new hc7)
    have HU7 := Lib.hid (HU6.out.keep hc7)
    clear hc7 hF7 HF6 HK6 HC6 HU6
    go_wp2_with fail
    refine HSX.out.mono ?_
    rintro e w8 ⟨rfl, hc8⟩
    have HF8 := Lib.hid (HF7.out.keep hc8)
    have HK8 := Lib.hid (HK7.out.keep hc8)
    have HC8 := Lib.hid (HC7.out.new hc8)
    have HU8 := Lib.hid (HU7.out.keep hc8)
    clear hc8 HF7 HK7 HC7 HU7 HSX
    obtain ⟨y, hy, hadd⟩ := addS s ⟨#[49]⟩ 40 1 hs40 (by decide) (by omega)
    have hadd := hadd w8
    go_wp2_with fail
    refine (one_any y w8).mono ?_
    rintro e w9 ⟨g9, rfl, hF9, _, hc9⟩
    have HSX := Lib.hid (one_same y (by omega) hF9 (Chg.refl [] w9))
    have HF9 := Lib.hid (HF8.out.keep hc9)
    have HK9 := Lib.hid (HK8.out.keep hc9)
    have HC9 := Lib.hid (HC8.out.new hc9)
    have HU9 := Lib.hid (HU8.out.keep hc9)
    clear hc9 hF9 HF8 HK8 HC8 HU8 hadd
    go_wp2_with fail
    refine HSX.out.mono ?_
    rintro e w10 ⟨rfl, hc10⟩
    have HF10 := Lib.hid (HF9.out.keep hc10)
    have HK10 := Lib.hid (HK9.out.keep hc10)
    have HC10 := Lib.hid (HC9.out.new hc10)
    have HU10 := Lib.hid (HU9.out.keep hc10)
    clear hc10 HF9 HK9 HC9 HU9 HSX
    have u0 := HU10.out.cell 0
    have u1 := HU10.out.cell 1
    have u2 := HU10.out.cell 2
    have k0 := HK10.out.cell 0
    have k1 := HK10.out.cell 1
    have k2 := HK10.out.cell 2
    go_wp2_with fail
    refine (ctk_any HF10.out ⟨r, kn, nm⟩).mono ?_
    rintro e w11 ⟨rfl, hc11⟩
    have HC11 := Lib.hid (HC10.out.new hc11)
    clear hc11 u0 u1 u2 k0 k1 k2
    go_wp2_with fail
    refine cknown_any.mono ?_
    rintro e w12 ⟨rfl, hc12⟩
    have HP := Lib.hid (show LawPost w (.returned (.bool true)) w12 from ⟨rfl, HC11.out.new hc12⟩)
    clear hc12
    go_wp2_with fail
    go_ret
    exact HP.out
end
end Go.Proofs.Ytafgpmempgoikaa
