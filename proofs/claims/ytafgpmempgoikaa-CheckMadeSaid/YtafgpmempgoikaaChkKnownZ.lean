/-
  engramlaw9's known.
-/
import Derived.Test.YtafgpmempgoikaaZNestWithin1
import Derived.Test.YtafgpmempgoikaaZNestWithin2
import Derived.Test.YtafgpmempgoikaaZNestWithin3
import Derived.Test.YtafgpmempgoikaaZNestWithin4
import Derived.Test.YtafgpmempgoikaaZNestWithin5
import Derived.Test.YtafgpmempgoikaaZNestWithin6
import Derived.Test.YtafgpmempgoikaaFrZ
import Derived.Test.YtafgpmempgoikaaCTakesZ
import Derived.Test.YtafgpmempgoikaaWkMemZ
import Derived.Test.YtafgpmempgoikaaWkHalveZ
import Derived.Test.YtafgpmempgoikaaWkEndZ
import Derived.Test.YtafgpmempgoikaaWkLeaveZ
import Derived.Test.YtafgpmempgoikaaWkTurnZ
import Derived.Test.YtafgpmempgoikaaWkStepZ
import Derived.Test.YtafgpmempgoikaaWkPureZ
import Derived.Test.YtafgpmempgoikaaGl1Z
import Derived.Test.YtafgpmempgoikaaGl2Z
import Derived.Test.YtafgpmempgoikaaGlPureZ
import Derived.Test.YtafgpmempgoikaaGlMemZ
import Derived.Test.YtafgpmempgoikaaGlTakeZ
import Derived.Test.YtafgpmempgoikaaGlTokZ
import Derived.Test.YtafgpmempgoikaaWkFuncZ
import Derived.Test.YtafgpmempgoikaaOddZ
import Derived.Test.YtafgpmempgoikaaOddsZ
import Derived.Test.YtafgpmempgoikaaChkSameZ
import Derived.Test.YtafgpmempgoikaaChkTakesZ
namespace Go.Proofs.Ytafgpmempgoikaa
open Go.RowKit
def oneL (s : ByteArray) : List FnV := [⟨102, 1, s⟩]
theorem k1 : rFn (oneL ⟨#[49, 32, 50, 43]⟩) 0 = (0, [0, 1, 2]) := by decide +kernel
theorem k2 : rFn (oneL ⟨#[43]⟩) 0 = (14, []) := by decide +kernel
theorem k3 : rFn (oneL ⟨#[194, 161, 49]⟩) 0 = (15, []) := by decide +kernel
theorem k4 : rFn (oneL ⟨#[49]⟩) 1 = (23, []) := by decide +kernel
theorem k5 : rTakes (oneL ⟨#[]⟩) 36 0 = (2, 0, true) := by rfl
theorem k6 : findI (oneL ⟨#[]⟩) 102 = 0 := by rfl
theorem k7 : findI (oneL ⟨#[]⟩) 120 = -1 := by rfl
section
variable {w : World}
theorem one_func (s : ByteArray) (k : Int) (R : Int × List Int) (hR : rFn (oneL s) k = R) (hs : s.size ≤ 1000000) {W : World} {g : Nat} (hF : Fnr W (some ⟨g, 0, none⟩) 1 1 [⟨102, 1, s⟩]) :
    Calls Try.prog 23 #[unitV 0 0 (some ⟨g, 0, none⟩) 1 1, .int .i64 k] W (FnPost R W) := by
  have h := cfunc_any (pages := 0) (most := 0) hF (fun f hf => by simp at hf; subst hf; exact hs) k
  rw [show [(⟨102, 1, s⟩ : FnV)] = oneL s from rfl, hR] at h
  exact h
set_option maxHeartbeats 8000000 in
set_option maxRecDepth 100000 in
theorem cknown_any : Calls Try.prog 22 #[] w (LawPost w) := by
  go_enter Try.func22, Try.ntmps22
  go_wp2_with fail
  refine (one_any ⟨#[49, 32, 50, 43]⟩ w).mono ?_
  rintro e w1 ⟨g1, rfl, hF1, _, hc1⟩
  have HF1 := Lib.hid (one_func _ 0 _ k1 (by decide) hF1)
  have HC1 := Lib.hid hc1
  clear hF1 hc1
  go_wp2_with fail
  refine HF1.out.mono ?_
  rintro e w2 ⟨v2, rfl, ho2, hc2⟩
  have HO2 := Lib.hid ho2
  have HC2 := Lib.hid (HC1.out.new hc2)
  obtain ⟨A2, c2, rfl, _⟩ := own_slice ho2
  clear ho2 hc2 HF1
  go_wp2_with fail
  refine (one_any ⟨#[43]⟩ w2).mono ?_
  rintro e w3 ⟨g1, rfl, hF1, _, hc3⟩
  have HF1 := Lib.hid (one_func _ 0 _ k2 (by decide) hF1)
  have HO3 := Lib.hid (own_keep HO2.out hc3)
  have HC3 := Lib.hid (HC2.out.new hc3)
  clear hF1 hc3 HO2
  go_wp2_with fail
  refine HF1.out.mono ?_
  rintro e w4 ⟨v4, rfl, ho4, hc4⟩
  have HO4 := Lib.hid (own_keep HO3.out hc4)
  have HC4 := Lib.hid (HC3.out.new hc4)
  clear ho4 hc4 HF1 HO3
  go_wp2_with fail
  refine (one_any ⟨#[194, 161, 49]⟩ w4).mono ?_
  rintro e w5 ⟨g1, rfl, hF1, _, hc5⟩
  have HF1 := Lib.hid (one_func _ 0 _ k3 (by decide) hF1)
  have HO5 := Lib.hid (own_keep HO4.out hc5)
  have HC5 := Lib.hid (HC4.out.new hc5)
  clear hF1 hc5 HO4
  go_wp2_with fail
  refine HF1.out.mono ?_
  rintro e w6 ⟨v6, rfl, ho6, hc6⟩
  have HO6 := Lib.hid (own_keep HO5.out hc6)
  have HC6 := Lib.hid (HC5.out.new hc6)
  clear ho6 hc6 HF1 HO5
  go_wp2_with fail
  refine (one_any ⟨#[49]⟩ w6).mono ?_
  rintro e w7 ⟨g1, rfl, hF1, _, hc7⟩
  have HF1 := Lib.hid (one_func _ 1 _ k4 (by decide) hF1)
  have HO7 := Lib.hid (own_keep HO6.out hc7)
  have HC7 := Lib.hid (HC6.out.new hc7)
  clear hF1 hc7 HO6
  go_wp2_with fail
  refine HF1.out.mono ?_
  rintro e w8 ⟨v8, rfl, ho8, hc8⟩
  have HO8 := Lib.hid (own_keep HO7.out hc8)
  have HC8 := Lib.hid (HC7.out.new hc8)
  clear ho8 hc8 HF1 HO7
  go_wp2_with fail
  refine (one_any ⟨#[]⟩ w8).mono ?_
  rintro e w9 ⟨g1, rfl, hF1, _, hc9⟩
  have HF1 := Lib.hid (show Calls Try.prog 24 #[unitV 0 0 (some ⟨g1, 0, none⟩) 1 1, .agg #[.int .i32 36, .int .i64 0, .int .i32 0]] w9 (TakesPost (2, 0, true) w9) from by
    have h := ctakes_any (pages := 0) (most := 0) hF1 ⟨36, 0, 0⟩
    rw [show [(⟨102, 1, ⟨#[]⟩⟩ : FnV)] = oneL ⟨#[]⟩ from rfl, k5] at h
    exact h)
  have HO9 := Lib.hid (own_keep HO8.out hc9)
  have HC9 := Lib.hid (HC8.out.new hc9)
  clear hF1 hc9 HO8
  go_wp2_with fail
  refine HF1.out.mono ?_
  rintro e w10 ⟨rfl, hc10⟩
  have HO10 := Lib.hid (own_keep HO9.out hc10)
  have HC10 := Lib.hid (HC9.out.new hc10)
  clear hc10 HF1 HO9
  go_wp2_with fail
  have hal : Chg [] w10 (w10.alloc (.cells #[.int .i64 0, .int .i64 1, .int .i64 2] 3)) := (Chg.refl [] w10).alloc _
  have hN := Whole.new w10 3 [.int .i64 0, .int .i64 1, .int .i64 2]
  obtain ⟨A2', c2', e2', _, _, hs2, ha2⟩ := own_slice (own_keep HO10.out hal)
  injection e2' with e1 e2 e3
  subst e1
  have HSM := Lib.hid (same_nums (c := c2) (d := 3) (l := [0, 1, 2]) (n := 3) rfl (by omega) hs2 (Src.of_all hN) (fun ad e => (ha2 ad e).1) (fun ad e => by injection e with e; subst e; rfl))
  have HCA := Lib.hid (HC10.out.new hal)
  clear hal hN hs2 ha2 HO10 e2 e3
  refine HSM.out.mono ?_
  rintro e w11 ⟨rfl, hc11⟩
  have HC11 := Lib.hid (HCA.out.new hc11)
  clear hc11 HSM
  go_wp2_with fail
  refine (one_any ⟨#[]⟩ w11).mono ?_
  rintro e w12 ⟨g1, rfl, hF1, _, hc12⟩
  have HF1 := Lib.hid (show Calls Try.prog 40 #[unitV 0 0 (some ⟨g1, 0, none⟩) 1 1, .int .i32 102] w12 (FindPost 0 w12) from by
    have h := cfind_any (pages := 0) (most := 0) hF1 102
    rw [show [(⟨102, 1, ⟨#[]⟩⟩ : FnV)] = oneL ⟨#[]⟩ from rfl, k6] at h
    exact h)
  have HC12 := Lib.hid (HC11.out.new hc12)
  clear hF1 hc12
  go_wp2_with fail
  refine HF1.out.mono ?_
  rintro e w13 ⟨rfl, hc13⟩
  have HC13 := Lib.hid (HC12.out.new hc13)
  clear hc13 HF1
  go_wp2_with fail
  refine (one_any ⟨#[]⟩ w13).mono ?_
  rintro e w14 ⟨g1, rfl, hF1, _, hc14⟩
  have HF1 := Lib.hid (show Calls Try.prog 40 #[unitV 0 0 (some ⟨g1, 0, none⟩) 1 1, .int .i32 120] w14 (FindPost (-1) w14) from by
    have h := cfind_any (pages := 0) (most := 0) hF1 120
    rw [show [(⟨102, 1, ⟨#[]⟩⟩ : FnV)] = oneL ⟨#[]⟩ from rfl, k7] at h
    exact h)
  have HC14 := Lib.hid (HC13.out.new hc14)
  clear hF1 hc14
  go_wp2_with fail
  refine HF1.out.mono ?_
  rintro e w15 ⟨rfl, hc15⟩
  have HP := Lib.hid (show LawPost w (.returned (.bool true)) w15 from ⟨rfl, HC14.out.new hc15⟩)
  clear hc15 HF1
  go_wp2_with fail
  go_ret
  exact HP.out
end
end Go.Proofs.Ytafgpmempgoikaa
