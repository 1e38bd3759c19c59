/-
  engramlaw9's one, same, takes.
-/
import Derived.Test.YtafgpmempgoikaaZNestWithin1
import Derived.Test.YtafgpmempgoikaaZNestWithin2
import Derived.Test.YtafgpmempgoikaaZNestWithin3
import Derived.Test.YtafgpmempgoikaaZNestWithin4
import Derived.Test.YtafgpmempgoikaaZNestWithin5
import Derived.Test.YtafgpmempgoikaaZNestWithin6
import Derived.Test.YtafgpmempgoikaaFrZ
import Derived.Test.YtafgpmempgoikaaCTakesZ
import Derived.Test.YtafgpmempgoikaaWkMemZ
import Derived.Test.YtafgpmempgoikaaWkHalveZ
import Derived.Test.YtafgpmempgoikaaWkEndZ
import Derived.Test.YtafgpmempgoikaaWkLeaveZ
import Derived.Test.YtafgpmempgoikaaWkTurnZ
import Derived.Test.YtafgpmempgoikaaWkStepZ
import Derived.Test.YtafgpmempgoikaaWkPureZ
import Derived.Test.YtafgpmempgoikaaGl1Z
import Derived.Test.YtafgpmempgoikaaGl2Z
import Derived.Test.YtafgpmempgoikaaGlPureZ
import Derived.Test.YtafgpmempgoikaaGlMemZ
import Derived.Test.YtafgpmempgoikaaGlTakeZ
import Derived.Test.YtafgpmempgoikaaGlTokZ
import Derived.Test.YtafgpmempgoikaaWkFuncZ
import Derived.Test.YtafgpmempgoikaaOddZ
import Derived.Test.YtafgpmempgoikaaOddsZ
namespace Go.Proofs.Ytafgpmempgoikaa
open Go.RowKit
def OnePost (s : ByteArray) (w : World) (e : Ending) (w' : World) : Prop := ∃ g, e = .returned (unitV 0 0 (some ⟨g, 0, none⟩) 1 1) ∧ Fnr w' (some ⟨g, 0, none⟩) 1 1 [⟨102, 1, s⟩] ∧ w.heap.size ≤ g ∧ Chg [] w w'
section
variable {w : World} {A : Option Addr} {n c : Nat} {l : List FnV} {pages most : Int}
set_option maxHeartbeats 2000000 in
set_option maxRecDepth 100000 in
theorem one_any (s : ByteArray) (w : World) : Calls Try.prog 19 #[.string s] w (OnePost s w) := by
  go_enter Try.func19, Try.ntmps19
  go_upto_region 1 with fail
  have hR := Whole.new w 26 [.int .i64 0, .int .i64 0, .slice none 0 0]
  have hal := (Chg.refl [] w).alloc (.cells #[.int .i64 0, .int .i64 0, .slice none 0 0] 26)
  have hz : (w.alloc (.cells #[.int .i64 0, .int .i64 0, .slice none 0 0] 26)).heap.size = w.heap.size + 1 := Array.size_push _
  obtain ⟨gr, hgr⟩ : ∃ gr, gr = w.heap.size := ⟨_, rfl⟩
  rw [← hgr] at hR hz ⊢
  generalize w.alloc (.cells #[.int .i64 0, .int .i64 0, .slice none 0 0] 26) = w1 at hR hal hz ⊢
  have hX := Whole.new w1 30 [.int .i32 102, .int .i64 1, .string s]
  have hal2 := (Chg.refl [] w1).alloc (.cells #[.int .i32 102, .int .i64 1, .string s] 30)
  have hR2 := hR.keep hal2
  have HC1 := Lib.hid hal
  have HR1 := Lib.hid hR
  have HZ := Lib.hid (show gr < w1.heap.size ∧ gr = w.heap.size from by omega)
  have hne : gr ≠ w1.heap.size := by omega
  have hlt : gr < w1.heap.size := by omega
  have r0 := hR.cell 0
  have r1 := hR.cell 1
  have r2 := hR.cell 2
  have f0 := hR.frozen 0
  have f1 := hR.frozen 1
  have f2 := hR.frozen 2
  have q0 := hR2.cell 0
  have q1 := hR2.cell 1
  have q2 := hR2.cell 2
  have e0 := hR2.frozen 0
  have e1 := hR2.frozen 1
  have e2 := hR2.frozen 2
  clear hR hal hz hgr hX hal2 hR2
  go_wp2_with fail
  have hW2 : Whole (((w1.setCell ⟨gr, 0, none⟩ (.int .i64 0)).setCell ⟨gr, 1, none⟩ (.int .i64 0)).setCell ⟨gr, 2, none⟩ (.slice (some ⟨w1.heap.size, 0, none⟩) 1 1)) gr 26 [.int .i64 0, .int .i64 0, .slice (some ⟨w1.heap.size, 0, none⟩) 1 1] := by
    have := ((HR1.out.set_ 0 (.int .i64 0)).set_ 1 (.int .i64 0)).set_ 2 (.slice (some ⟨w1.heap.size, 0, none⟩) 1 1)
    simpa using this
  have hC2 : Chg [] w (((w1.setCell ⟨gr, 0, none⟩ (.int .i64 0)).setCell ⟨gr, 1, none⟩ (.int .i64 0)).setCell ⟨gr, 2, none⟩ (.slice (some ⟨w1.heap.size, 0, none⟩) 1 1)) := ((HC1.out.setCell (p := ⟨gr, 0, none⟩) (fun hh => by have := HZ.out; simp only at hh; omega) (.int .i64 0)).setCell (p := ⟨gr, 1, none⟩) (fun hh => by have := HZ.out; simp only at hh; omega) (.int .i64 0)).setCell (p := ⟨gr, 2, none⟩) (fun hh => by have := HZ.out; simp only at hh; omega) (.slice (some ⟨w1.heap.size, 0, none⟩) 1 1)
  have hz2 : (((w1.setCell ⟨gr, 0, none⟩ (.int .i64 0)).setCell ⟨gr, 1, none⟩ (.int .i64 0)).setCell ⟨gr, 2, none⟩ (.slice (some ⟨w1.heap.size, 0, none⟩) 1 1)).heap.size = w1.heap.size := by rw [size_set, size_set, size_set]
  generalize ((w1.setCell ⟨gr, 0, none⟩ (.int .i64 0)).setCell ⟨gr, 1, none⟩ (.int .i64 0)).setCell ⟨gr, 2, none⟩ (.slice (some ⟨w1.heap.size, 0, none⟩) 1 1) = w2 at hW2 hC2 hz2 ⊢
  have hX := Whole.new w2 30 [.int .i32 102, .int .i64 1, .string s]
  have hal3 := (Chg.refl [] w2).alloc (.cells #[.int .i32 102, .int .i64 1, .string s] 30)
  rw [hz2] at hX
  have hWf := hW2.keep hal3
  have HP := Lib.hid (show OnePost s w (.returned (.agg #[.int .i64 0, .int .i64 0, .slice (some ⟨w1.heap.size, 0, none⟩) 1 1])) (w2.alloc (.cells #[.int .i32 102, .int .i64 1, .string s] 30)) from ⟨w1.heap.size, rfl, ⟨rfl, Src.of_all hX, Nat.le_refl _, by omega, fun _ ad e => by injection e with e; subst e; rfl, fun f hf => by simp at hf; subst hf; simp only; omega⟩, by have := HZ.out; omega, hC2.new hal3⟩)
  have z0 := hWf.cell 0
  have z1 := hWf.cell 1
  have z2 := hWf.cell 2
  generalize w2.alloc (.cells #[.int .i32 102, .int .i64 1, .string s] 30) = wf at HP z0 z1 z2 ⊢
  simp only [List.getElem?_cons_zero, List.getElem?_cons_succ] at z0 z1 z2
  exact bodyPost_ret (v := .agg #[.int .i64 0, .int .i64 0, .slice (some ⟨w1.heap.size, 0, none⟩) 1 1]) (by simp [results, Try.results19, go_sem, z0, z1, z2]) rfl HP.out
theorem FnPost.nums {R : Int × List Int} {w w' : World} {v : Value} {W : World} (hO : w'.ownsRow w.heap.size 3 1 v R.2.length (nms R.2)) (hc : Chg [] w' W) : ∃ A c, v = .slice A R.2.length c ∧ Src W A (nms R.2) ∧ ∀ ad, A = some ad → ad.spot = none := by
  obtain ⟨A, c, e, _, _, hs, ha⟩ := own_slice hO
  exact ⟨A, c, e, hs.keep hc, fun ad e => (ha ad e).1⟩
theorem rWalk_len (l : List FnV) : ∀ (ts : List TkV) (h : Int) (bs : List BkV) (out : List Int), (rWalk l ts h bs out).2.length ≤ out.length + ts.length
  | [], h, bs, out => by
    rw [rWalk]; split <;> simp
  | t :: ts, h, bs, out => by
    rw [rWalk_next]
    split
    · have := rWalk_len l ts (rTok l h bs t.sign t.name).2.1 (rTok l h bs t.sign t.name).2.2 (out ++ [h])
      simp at this ⊢; omega
    · simp
theorem tokAt_len {L : List Nat} : ∀ (f i : Nat) (ts rs : List TkV), tokAt L f i ts = some rs → rs.length ≤ ts.length + f
  | 0, i, ts, rs, h => by rw [tokAt] at h; injection h with h; subst h; omega
  | f + 1, i, ts, rs, h => by
    rw [tokAt] at h
    split at h
    · injection h with h; subst h; omega
    · split at h
      · have := tokAt_len f _ _ _ h; omega
      · split at h
        · split at h
          · cases h
          · have := tokAt_len f _ _ _ h; simp at this; omega
        · split at h
          · split at h
            · cases h
            · split at h
              · have := tokAt_len f _ _ _ h; simp at this; omega
              · cases h
          · split at h
            · have := tokAt_len f _ _ _ h; simp at this; omega
            · cases h
theorem tokR_len {s : ByteArray} {ts : List TkV} (h : tokR s = some ts) : ts.length ≤ 513 := by
  unfold tokR at h
  split at h
  · cases h
  · have := tokAt_len _ _ _ _ h
    have h2 := runesL_len s
    have e : ([] : List TkV).length = 0 := rfl
    omega
theorem rFn_len (l : List FnV) (k : Int) : (rFn l k).2.length ≤ 513 := by
  unfold rFn
  split
  · simp
  · split
    · simp
    · rename_i f _
      unfold rFunc
      split
      · simp
      · rename_i ts hts
        split
        · simp
        · have := rWalk_len l ts 0 [] []
          have := tokR_len hts
          simp at *
          omega
set_option maxHeartbeats 4000000 in
set_option maxRecDepth 100000 in
theorem csame_any (hF : Fnr w A n c l) (hcode : ∀ f ∈ l, f.code.size ≤ 1000000) : Calls Try.prog 18 #[unitV pages most A n c] w (LawPost w) := by
  unfold unitV
  have H := Lib.hid hF
  have HCD := Lib.hid hcode
  have hmax := hF.max
  clear hF hcode
  go_enter Try.func18, Try.ntmps18
  go_upto_region 1 with fail
  have hN := Whole.new w 26 [.int .i64 pages, .int .i64 most, .slice A n c]
  have hal : Chg [] w (w.alloc (.cells #[.int .i64 pages, .int .i64 most, .slice A n c] 26)) := (Chg.refl [] w).alloc _
  obtain ⟨gu, hgu⟩ : ∃ g, g = w.heap.size := ⟨_, rfl⟩
  rw [← hgu] at hN ⊢
  have HU := Lib.hid hN
  have HC := Lib.hid hal
  have HF := Lib.hid (H.out.keep hal)
  generalize w.alloc (.cells #[.int .i64 pages, .int .i64 most, .slice A n c] 26) = w1 at HU HC HF ⊢
  clear hN hal hgu
  go_wp2_with fail
  go_loopw [3] (fun i wr => ∃ k : Int, i = .int .i64 k ∧ -1 ≤ k ∧ k ≤ (n : Int) + 1 ∧ Hid (Chg [] w1 wr)) (fun i _ => ((n : Int) + 1 - intOf i).toNat)
  case atStart => exact ⟨-1, rfl, by omega, by omega, Lib.hid (Chg.refl [] _)⟩
  case round =>
    obtain ⟨k, rfl, hk0, hk1, HCr⟩ := hrel
    have HUr := Lib.hid (HU.out.keep HCr.out)
    have u0 := HUr.out.cell 0
    have u1 := HUr.out.cell 1
    have u2 := HUr.out.cell 2
    have HEnd := Lib.hid (show LawPost w (.returned (.bool true)) wr from ⟨rfl, HC.out.new HCr.out⟩)
    by_cases hkn : k ≤ (n : Int)
    · have dkn : decide (k ≤ (n : Int)) = true := by simpa using hkn
      by_cases hk9 : k < 9
      · have dk9 : decide (k < 9) = true := by simpa using hk9
        go_wp2_with fail
        refine (cfunc_any (HF.out.keep HCr.out) HCD.out k).mono ?_
        rintro e w2 ⟨v2, rfl, ho2, hc2⟩
        have HO2 := Lib.hid ho2
        have HC2 := Lib.hid (HCr.out.new hc2)
        have HU2 := Lib.hid (HUr.out.keep hc2)
        clear ho2 hc2 u0 u1 u2
        have u0 := HU2.out.cell 0
        have u1 := HU2.out.cell 1
        have u2 := HU2.out.cell 2
        obtain ⟨A2, c2, rfl, _⟩ := own_slice HO2.out
        go_wp2_with fail
        refine (rfunc_any (HF.out.keep HC2.out) HCD.out k).mono ?_
        rintro e w3 ⟨v3, rfl, ho3, hc3⟩
        have HC3 := Lib.hid (HC2.out.new hc3)
        have HS2 := Lib.hid (FnPost.nums HO2.out hc3)
        have HS3 := Lib.hid (FnPost.nums ho3 (Chg.refl [] w3))
        obtain ⟨A3, c3, rfl, _⟩ := own_slice ho3
        have hRl := rFn_len l k
        clear ho3 hc3 u0 u1 u2
        obtain ⟨R, hR⟩ : ∃ R, R = rFn l k := ⟨_, rfl⟩
        rw [← hR] at HS2 HS3 hRl ⊢
        clear hR HO2
        have HSX := Lib.hid (show Src w3 A2 (nms R.2) ∧ Src w3 A3 (nms R.2) ∧ (∀ ad, A2 = some ad → ad.spot = none) ∧ ∀ ad, A3 = some ad → ad.spot = none from by
          obtain ⟨B2, d2, e2, h1, h2⟩ := HS2.out
          obtain ⟨B3, d3, e3, h3, h4⟩ := HS3.out
          injection e2 with e2 _ _
          injection e3 with e3 _ _
          subst e2; subst e3
          exact ⟨h1, h3, h2, h4⟩)
        have HSM := Lib.hid (same_nums (c := c2) (d := c3) (l := R.2) rfl (by omega) HSX.out.1 HSX.out.2.1 HSX.out.2.2.1 HSX.out.2.2.2)
        clear HS2 HS3 HSX
        obtain ⟨m, hm⟩ : ∃ m, m = R.2.length := ⟨_, rfl⟩
        rw [← hm] at HSM ⊢
        clear hm hRl
        go_wp2_with fail
        refine HSM.out.mono ?_
        rintro e w4 ⟨rfl, hc4⟩
        have HC4 := Lib.hid (HC3.out.new hc4)
        clear hc4
        go_wp2_with fail
        go_roundw
        case rel => exact ⟨k + 1, by first | rfl | go_num, by omega, by omega, HC4⟩
        case measure => simp [intOf]; omega
      · have dk9 : decide (k < 9) = false := by simpa using hk9
        go_wp2_with fail
        go_ret
        exact HEnd.out
    · have dkn : decide (k ≤ (n : Int)) = false := by simpa using hkn
      go_wp2_with fail
      go_ret
      exact HEnd.out
end
end Go.Proofs.Ytafgpmempgoikaa
