/-
  GL: LawGlN.
-/
import Derived.Test.YtodbeeodhekpeaaDoorZGL42
namespace Go.Proofs.YtodbeeodhekpeaaDoor
open Go.RowKit
open Go.Lib (decDigits encodeRune)
def glCells : List Value := [.string ⟨#[]⟩, .string ⟨#[32]⟩, .string ⟨#[48]⟩, .string ⟨#[48, 48]⟩, .string ⟨#[57, 50, 50, 51, 51, 55, 50, 48, 51, 54, 56, 53, 52, 55, 55, 53, 56, 48, 55]⟩, .string ⟨#[57, 50, 50, 51, 51, 55, 50, 48, 51, 54, 56, 53, 52, 55, 55, 53, 56, 48, 56]⟩, .string ⟨#[57, 57, 57, 57, 57, 57, 57, 57, 57, 57, 57, 57, 57, 57, 57, 57, 57, 57, 57, 57, 57, 57, 57]⟩, .string ⟨#[49, 32, 50]⟩, .string ⟨#[49, 50]⟩, .string ⟨#[255]⟩, .string ⟨#[97, 195]⟩, .string ⟨#[239, 191, 189]⟩, .string ⟨#[206, 187, 228, 184, 150]⟩, .string ⟨#[206, 187, 239, 191, 189]⟩, .string ⟨#[206, 187, 32, 102]⟩, .string ⟨#[10]⟩, .string ⟨#[65, 9, 98]⟩, .string ⟨#[206, 187, 206, 187]⟩, .string ⟨#[207, 128, 206, 187, 102]⟩, .string ⟨#[206, 187, 57]⟩]
theorem glCells_str : ∀ x ∈ glCells, ∃ s : ByteArray, x = .string s ∧ s.size ≤ 30 := by
  intro x hx
  unfold glCells at hx
  simp only [List.mem_cons, List.not_mem_nil, or_false] at hx
  rcases hx with rfl | rfl | rfl | rfl | rfl | rfl | rfl | rfl | rfl | rfl | rfl | rfl | rfl | rfl | rfl | rfl | rfl | rfl | rfl | rfl
  all_goals exact ⟨_, rfl, by decide⟩
def strN (v : Value) : Nat := match v with | .string s => s.size | _ => 0
section
variable {w : World}
theorem rune_str (a : ByteArray) (r : Int) (ha : a.size ≤ 100) (W : World) : (Op.stringOp .add a (Utf8.encode r)).run Tryd.prog W = .ok (.string (a ++ Utf8.encode r)) W := by
  exact run_string_add_sum _ _ _ (by have := encode_size_le r; omega)
set_option maxHeartbeats 8000000 in
set_option maxRecDepth 100000 in
theorem glyphNumbers_any (hP : PowB w.heap.size w) : Calls Tryd.prog 4 #[] w (BoolPost true w) := by
  have HP := Lib.hid hP
  clear hP
  go_enter Tryd.func4, Tryd.ntmps4
  go_wp2_with fail
  go_loopw [1] (fun i wr => ∃ k : Nat, i = .int .i32 ((k : Int) - 2) ∧ k ≤ 1202 ∧ Hid (Chg [] w wr)) (fun i _ => 1202 - (intOf i + 2).toNat)
  case atStart => exact ⟨0, rfl, by omega, Lib.hid (Chg.refl [] _)⟩
  case round =>
    obtain ⟨k, rfl, hk, HCr⟩ := hrel
    by_cases hkn : k < 1202
    · have hkI : (k : Int) - 2 < 1200 := by omega
      have hkw : IntKind.i32.wrap ((k : Int) - 2 + 1) = ((k + 1 : Nat) : Int) - 2 := by rw [IntKind.wrap_i32]; omega
      generalize hrr : (k : Int) - 2 = r at hkI hkw ⊢
      obtain ⟨ye, hye⟩ : ∃ y, Utf8.encode r = y := ⟨_, rfl⟩
      have h4 := encode_size_le r
      rw [hye] at h4
      have hl1 := rune_str ⟨#[206, 187]⟩ r (by decide)
      obtain ⟨y1, hy1⟩ : ∃ y, (⟨#[206, 187]⟩ : ByteArray) ++ Utf8.encode r = y := ⟨_, rfl⟩
      have s1 : y1.size ≤ 6 := by rw [← hy1, hye, ByteArray.size_append']; have : (⟨#[206, 187]⟩ : ByteArray).size = 2 := rfl; omega
      have hl2 := rune_str ⟨#[55]⟩ r (by decide)
      obtain ⟨y2, hy2⟩ : ∃ y, (⟨#[55]⟩ : ByteArray) ++ Utf8.encode r = y := ⟨_, rfl⟩
      have s2 : y2.size ≤ 5 := by rw [← hy2, hye, ByteArray.size_append']; have : (⟨#[55]⟩ : ByteArray).size = 1 := rfl; omega
      have hl3 : ∀ W, (Op.stringOp .add y2 ⟨#[56]⟩).run Tryd.prog W = .ok (.string (y2 ++ ⟨#[56]⟩)) W := fun W => run_string_add_sum _ _ _ (by have : (⟨#[56]⟩ : ByteArray).size = 1 := rfl; omega)
      obtain ⟨y3, hy3⟩ : ∃ y, y2 ++ (⟨#[56]⟩ : ByteArray) = y := ⟨_, rfl⟩
      have s3 : y3.size ≤ 6 := by rw [← hy3, ByteArray.size_append']; have : (⟨#[56]⟩ : ByteArray).size = 1 := rfl; omega
      have hl4 := rune_str ⟨#[207, 128]⟩ r (by decide)
      obtain ⟨y4, hy4⟩ : ∃ y, (⟨#[207, 128]⟩ : ByteArray) ++ Utf8.encode r = y := ⟨_, rfl⟩
      have s4 : y4.size ≤ 6 := by rw [← hy4, hye, ByteArray.size_append']; have : (⟨#[207, 128]⟩ : ByteArray).size = 2 := rfl; omega
      have hl5 := rune_str y4 r (by omega)
      obtain ⟨y5, hy5⟩ : ∃ y, y4 ++ Utf8.encode r = y := ⟨_, rfl⟩
      have s5 : y5.size ≤ 10 := by rw [← hy5, hye, ByteArray.size_append']; omega
      rw [hy1] at hl1
      rw [hy2] at hl2
      rw [hy3] at hl3
      rw [hy4] at hl4
      rw [hy5] at hl5
      have HS := Lib.hid (show ye.size ≤ 100 ∧ y1.size ≤ 100 ∧ y3.size ≤ 100 ∧ y5.size ≤ 100 from ⟨by omega, by omega, by omega, by omega⟩)
      have HYE := Lib.hid hye
      have HRR := Lib.hid hrr
      have hcv : ∀ W : World, (convert 21 9 (.int .i32 r)).run Tryd.prog W = .ok (.string (Utf8.encode r)) W := fun W => by go_simp
      clear h4 s1 s2 s3 s4 s5 hye hy1 hy2 hy3 hy4 hy5 hrr
      clear hcv
      go_wp2_with (first
        | (go_at_call 13
           with_reducible refine (grune1_any _).mono ?_
           rintro e w1 ⟨rfl, hc1⟩
           have HC1 := Lib.hid (HCr.out.trans hc1)
           clear hc1)
        | (go_at_call 14
           with_reducible refine (gsame_any (Utf8.encode r) (by have := HS.out.1; rw [HYE.out]; omega) (HP.out.here HC1.out)).mono ?_
           rintro e w2 ⟨rfl, hc2⟩
           have HC2 := Lib.hid (HC1.out.trans hc2)
           clear hc2)
        | (go_at_call 14
           with_reducible refine (gsame_any y1 (by have := HS.out.2.1; omega) (HP.out.here HC2.out)).mono ?_
           rintro e w3 ⟨rfl, hc3⟩
           have HC3 := Lib.hid (HC2.out.trans hc3)
           clear hc3)
        | (go_at_call 14
           with_reducible refine (gsame_any y3 (by have := HS.out.2.2.1; omega) (HP.out.here HC3.out)).mono ?_
           rintro e w4 ⟨rfl, hc4⟩
           have HC4 := Lib.hid (HC3.out.trans hc4)
           clear hc4)
        | (go_at_call 14
           with_reducible refine (gsame_any y5 (by have := HS.out.2.2.2; omega) (HP.out.here HC4.out)).mono ?_
           rintro e w5 ⟨rfl, hc5⟩
           have HC5 := Lib.hid (HC4.out.trans hc5)
           clear hc5))
      go_roundw
      case rel => exact ⟨k + 1, by first | rfl | (congr 1), by omega, HC5⟩
      case measure =>
        have e := HRR.out
        simp only [intOf]
        omega
    · have hkI : ¬ (k : Int) - 2 < 1200 := by omega
      go_upto_region 7 with fail
      have hWn := Whole.new wr 9 glCells
      have hWc := (Chg.refl [] wr).alloc (.cells glCells.toArray 9)
      unfold glCells at hWn hWc
      obtain ⟨g, hg⟩ : ∃ g, g = wr.heap.size := ⟨_, rfl⟩
      rw [← hg] at hWn ⊢
      have HW1 := Lib.hid hWn
      have HC1 := Lib.hid (HCr.out.trans hWc)
      clear hg
      generalize wr.alloc _ = w1 at HW1 HC1 ⊢
      clear hWn hWc
      go_loopw [45] (fun i ws => ∃ k : Nat, i = .int .i64 (k : Int) ∧ k ≤ 20 ∧ Hid (Chg [] w1 ws)) (fun i _ => 20 - (intOf i).toNat)
      case atStart => exact ⟨0, rfl, by omega, Lib.hid (Chg.refl [] _)⟩
      case round =>
        obtain ⟨q, rfl, hq, HCs⟩ := hrel
        by_cases hqn : q < 20
        · have hqI : (q : Int) < 20 := by omega
          obtain ⟨x, hx⟩ : ∃ x, glCells[q]? = some x := ⟨glCells[q]'(by unfold glCells; simpa using hqn), by simp⟩
          obtain ⟨s, rfl, hs⟩ := glCells_str x (List.mem_of_getElem? hx)
          have hcell : wr.cell? ⟨g, q, none⟩ = some (.string s) := (Whole.cell (HW1.out.keep HCs.out) q).trans hx
          have hadd : ∀ W, (Op.stringOp .add s s).run Tryd.prog W = .ok (.string (s ++ s)) W := fun W => run_string_add_sum _ _ _ (by omega)
          obtain ⟨y, hy⟩ : ∃ y, s ++ s = y := ⟨_, rfl⟩
          have HY := Lib.hid (show y.size ≤ 100 from by rw [← hy, ByteArray.size_append']; omega)
          have HS := Lib.hid hs
          rw [hy] at hadd
          have HC2 := Lib.hid (HC1.out.trans HCs.out)
          clear hy hs hx
          go_wp2_with (first
            | (go_at_call 14
               with_reducible refine (gsame_any s (by have := HS.out; omega) (HP.out.here HC2.out)).mono ?_
               rintro e w2 ⟨rfl, hc2⟩
               have HC3 := Lib.hid hc2
               clear hc2)
            | (go_at_call 14
               with_reducible refine (gsame_any y (by have := HY.out; omega) (HP.out.here (HC2.out.trans HC3.out))).mono ?_
               rintro e w3 ⟨rfl, hc3⟩
               have HC4 := Lib.hid (HC3.out.trans hc3)
               clear hc3))
          go_roundw
          case rel => exact ⟨q + 1, by go_num, by omega, Lib.hid (HCs.out.trans HC4.out)⟩
          case measure => simp [intOf]; omega
        · have hqI : ¬ (q : Int) < 20 := by omega
          have HC2 := Lib.hid (HC1.out.trans HCs.out)
          go_wp2_with fail
          go_loopw [4] (fun v ws => ∃ s : ByteArray, v = .string s ∧ s.size ≤ 511 ∧ wr = ws) (fun v _ => 511 - strN v)
          case atStart => exact ⟨⟨#[]⟩, rfl, by decide, rfl⟩
          case round =>
            obtain ⟨s, rfl, hs, rfl⟩ := hrel
            by_cases hl : s.size < 511
            · have hlI : (s.size : Int) < 511 := by omega
              have h1 : (⟨#[97]⟩ : ByteArray).size = 1 := rfl
              have hadd : ∀ W, (Op.stringOp .add s ⟨#[97]⟩).run Tryd.prog W = .ok (.string (s ++ ⟨#[97]⟩)) W := fun W => run_string_add_sum _ _ _ (by omega)
              have hsz : (s ++ (⟨#[97]⟩ : ByteArray)).size = s.size + 1 := by rw [ByteArray.size_append', h1]
              clear h1
              obtain ⟨y, hy⟩ : ∃ y, s ++ (⟨#[97]⟩ : ByteArray) = y := ⟨_, rfl⟩
              rw [hy] at hadd hsz
              have HSZ := Lib.hid hsz
              clear hy hsz
              go_wp2_with fail
              go_roundw
              case rel => exact ⟨y, rfl, by have := HSZ.out; omega, trivial⟩
              case measure => have := HSZ.out; simp only [strN]; omega
            · have hlI : ¬ (s.size : Int) < 511 := by omega
              have h1 : (⟨#[97]⟩ : ByteArray).size = 1 := rfl
              have h2 : (⟨#[97, 97]⟩ : ByteArray).size = 2 := rfl
              have hadd1 : ∀ W, (Op.stringOp .add s ⟨#[97]⟩).run Tryd.prog W = .ok (.string (s ++ ⟨#[97]⟩)) W := fun W => run_string_add_sum _ _ _ (by omega)
              have hadd2 : ∀ W, (Op.stringOp .add s ⟨#[97, 97]⟩).run Tryd.prog W = .ok (.string (s ++ ⟨#[97, 97]⟩)) W := fun W => run_string_add_sum _ _ _ (by omega)
              have z1 : (s ++ (⟨#[97]⟩ : ByteArray)).size ≤ 1000 := by rw [ByteArray.size_append', h1]; omega
              have z2 : (s ++ (⟨#[97, 97]⟩ : ByteArray)).size ≤ 1000 := by rw [ByteArray.size_append', h2]; omega
              clear h1 h2
              generalize s ++ (⟨#[97]⟩ : ByteArray) = y1 at hadd1 z1
              generalize s ++ (⟨#[97, 97]⟩ : ByteArray) = y2 at hadd2 z2
              have HZ := Lib.hid (And.intro z1 z2)
              clear z1 z2
              go_wp2_with (first
                | (go_at_call 14
                   with_reducible refine (gsame_any s (by omega) (HP.out.here HC2.out)).mono ?_
                   rintro e w2 ⟨rfl, hc2⟩
                   have HC3 := Lib.hid (HC2.out.trans hc2)
                   clear hc2)
                | (go_at_call 14
                   with_reducible refine (gsame_any y1 (by have := HZ.out.1; omega) (HP.out.here HC3.out)).mono ?_
                   rintro e w3 ⟨rfl, hc3⟩
                   have HC4 := Lib.hid (HC3.out.trans hc3)
                   clear hc3)
                | (go_at_call 14
                   with_reducible refine (gsame_any y2 (by have := HZ.out.2; omega) (HP.out.here HC4.out)).mono ?_
                   rintro e w4 ⟨rfl, hc4⟩
                   have HC5 := Lib.hid (HC4.out.trans hc4)
                   clear hc4)
                | (go_at_call 13
                   with_reducible refine (grune1_any 1114111).mono ?_
                   rintro e w5 ⟨rfl, hc5⟩
                   have HC6 := Lib.hid (HC5.out.trans hc5)
                   clear hc5)
                | (go_at_call 13
                   with_reducible refine (grune1_any 65533).mono ?_
                   rintro e w6 ⟨rfl, hc6⟩
                   have HC7 := Lib.hid (HC6.out.trans hc6)
                   clear hc6)
                | (go_at_call 13
                   with_reducible refine (grune1_any 1073741824).mono ?_
                   rintro e w7 ⟨rfl, hc7⟩
                   have HC8 := Lib.hid (HC7.out.trans hc7)
                   clear hc7)
                | (go_at_call 15
                   with_reducible refine (gl_known (HP.out.here HC8.out)).mono ?_
                   rintro e w8 ⟨rfl, hc8⟩
                   have HC9 := Lib.hid (HC8.out.trans hc8)
                   clear hc8))
              go_ret
              exact ⟨rfl, HC9.out⟩
end
end Go.Proofs.YtodbeeodhekpeaaDoor
