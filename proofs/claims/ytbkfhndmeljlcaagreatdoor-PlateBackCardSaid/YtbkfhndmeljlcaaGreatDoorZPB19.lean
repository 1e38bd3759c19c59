/-
  PB: CTakes.
-/
import Derived.Test.YtbkfhndmeljlcaaGreatDoorZPB15
import Derived.Test.YtbkfhndmeljlcaaGreatDoorZPB18
namespace Go.Proofs.YtbkfhndmeljlcaaGreatDoor
open Go.RowKit
section
variable {w : World} {A : Option Addr} {n c : Nat} {l : List FnV} {pages most : Int}
set_option maxHeartbeats 2000000 in
set_option maxRecDepth 100000 in
theorem cfind_any (h : Fnr w A n c l) (name : Int) : Calls Tryz.prog 82 #[unitV pages most A n c, .int .i32 name] w (FindPost (findI l name) w) := by
  unfold unitV
  have hmax := h.max
  have H := Lib.hid h
  have HL := Lib.hid h.len
  have HI := Lib.hid (show findK name l 0 = findK name (l.drop 0) 0 from rfl)
  have HN := Lib.hid (show findI l name = match findK name l 0 with | some k => (k : Int) | none => -1 from rfl)
  generalize findI l name = fi at HN ⊢
  clear h
  go_enter Tryz.func82, Tryz.ntmps82
  go_upto_region 1 with fail
  have hN := Whole.new w 24 [.int .i64 pages, .int .i64 most, .slice A n c]
  have hal : Chg [] w (w.alloc (.cells #[.int .i64 pages, .int .i64 most, .slice A n c] 24)) := (Chg.refl [] w).alloc _
  have c2 := hN.cell 2
  have HC := Lib.hid hal
  have HF := Lib.hid (H.out.keep hal)
  obtain ⟨g, hg⟩ : ∃ g, g = w.heap.size := ⟨_, rfl⟩
  rw [← hg] at c2 ⊢
  generalize w.alloc (.cells #[.int .i64 pages, .int .i64 most, .slice A n c] 24) = w1 at c2 HC HF ⊢
  clear hN hal hg
  go_wp2_with fail
  go_loopw [10] (fun i wr => ∃ k : Nat, i = .int .i64 (k : Int) ∧ k ≤ n ∧ Hid (findK name l 0 = findK name (l.drop k) k) ∧ Hid (Chg [] w1 wr)) (fun i _ => n - (intOf i).toNat)
  case atStart => exact ⟨0, rfl, by omega, HI, Lib.hid (Chg.refl [] _)⟩
  case round =>
    obtain ⟨k, rfl, hk, HK, HCr⟩ := hrel
    by_cases hkn : k < n
    · have hkI : (k : Int) < (n : Int) := by omega
      obtain ⟨t, htk⟩ : ∃ t, l[k]? = some t := ⟨l[k]'(by rw [HF.out.len]; exact hkn), by simp⟩
      have HD := Lib.hid (show l.drop k = t :: l.drop (k + 1) from List.drop_eq_getElem?_toList_append.trans (by rw [htk]; rfl))
      obtain ⟨fb, fo, rfl, hfbl, e0, e1, e2⟩ := (HF.out.keep HCr.out).cell htk
      obtain ⟨tn, ta, tc⟩ := t
      simp only at e0 e1 e2
      clear htk
      go_upto_region 4 with fail
      have hX := Whole.new wr 58 [.int .i32 tn, .int .i64 ta, .string tc]
      have x0 := hX.cell 0
      have HC2 := Lib.hid (HCr.out.new ((Chg.refl [] wr).alloc (.cells #[.int .i32 tn, .int .i64 ta, .string tc] 58)))
      generalize wr.heap.size = gx at x0 ⊢
      generalize wr.alloc (.cells #[.int .i32 tn, .int .i64 ta, .string tc] 58) = w3 at x0 HC2 ⊢
      clear hX e0 e1 e2 hfbl HCr
      by_cases hnm : tn = name
      · have hq : (tn == name) = true := by simpa using hnm
        have HP := Lib.hid (show FindPost fi w (.returned (.int .i64 (k : Int))) w3 from ⟨by rw [HN.out, HK.out, HD.out, findK, if_pos hnm], HC.out.new HC2.out⟩)
        clear hnm
        go_wp2_with fail
        go_ret
        exact HP.out
      · have hq : (tn == name) = false := by simpa using hnm
        have HK2 := Lib.hid (show findK name l 0 = findK name (l.drop (k + 1)) (k + 1) from by rw [HK.out, HD.out, findK, if_neg hnm])
        go_wp2_with fail
        go_roundw
        case rel => exact ⟨k + 1, by go_num, by omega, HK2, HC2⟩
        case measure => simp [intOf]; omega
    · have hkI : (n : Int) ≤ (k : Int) := by omega
      have HP := Lib.hid (show FindPost fi w (.returned (.int .i64 (-1))) wr from ⟨by rw [HN.out, HK.out, List.drop_eq_nil_of_le (by rw [HL.out]; omega)]; rfl, HC.out.new HCr.out⟩)
      go_wp2_with fail
      go_ret
      exact HP.out
set_option maxHeartbeats 4000000 in
set_option maxRecDepth 100000 in
theorem ctcall_any (h : Fnr w A n c l) (name : Int) : Calls Tryz.prog 133 #[unitV pages most A n c, .int .i32 name] w (TakesPost (callA l name) w) := by
  unfold unitV
  have hmax := h.max
  have H := Lib.hid h
  clear h
  go_enter Tryz.func133, Tryz.ntmps133
  go_upto_region 1 with fail
  have hN := Whole.new w 24 [.int .i64 pages, .int .i64 most, .slice A n c]
  have hal : Chg [] w (w.alloc (.cells #[.int .i64 pages, .int .i64 most, .slice A n c] 24)) := (Chg.refl [] w).alloc _
  obtain ⟨g, hg⟩ : ∃ g, g = w.heap.size := ⟨_, rfl⟩
  rw [← hg] at hN ⊢
  have HU := Lib.hid hN
  have HC := Lib.hid hal
  have HF := Lib.hid (H.out.keep hal)
  generalize w.alloc (.cells #[.int .i64 pages, .int .i64 most, .slice A n c] 24) = w1 at HU HC HF ⊢
  clear hN hal hg
  have c0 := HU.out.cell 0
  have c1 := HU.out.cell 1
  have c2 := HU.out.cell 2
  go_wp2_with fail
  refine (cfind_any HF.out name).mono ?_
  rintro e w2 ⟨rfl, hc2⟩
  have HU2 := Lib.hid (HU.out.keep hc2)
  have HF2 := Lib.hid (HF.out.keep hc2)
  have HC2 := Lib.hid (HC.out.new hc2)
  clear hc2 c0 c1 c2
  have c2 := HU2.out.cell 2
  cases hk : findK name l 0 with
  | none =>
    have HP := Lib.hid (show TakesPost (callA l name) w (.returned (.tuple #[.int .i64 ((0 : Nat) : Int), .int .i64 ((0 : Nat) : Int), .bool false])) w2 from takes_ok 0 0 false (by unfold callA; rw [hk]; rfl) HC2.out)
    rw [show findI l name = -1 from by unfold findI; rw [hk]]
    clear hk
    go_wp2_with fail
    go_ret3
    exact HP.out
  | some k =>
    rw [show findI l name = (k : Int) from by unfold findI; rw [hk]]
    obtain ⟨f, _, hf, hfn⟩ := findK_at hk
    rw [Nat.sub_zero] at hf
    have hkn : k < n := by have := (List.getElem?_eq_some_iff.1 hf).1; have := HF2.out.len; omega
    have hkI : (k : Int) < (n : Int) := by omega
    have hk0 : ¬ (k : Int) < 0 := by omega
    have hk0d : decide ((k : Int) < 0) = false := by simp
    obtain ⟨fb, fo, rfl, hfbl, e0, e1, e2⟩ := HF2.out.cell hf
    obtain ⟨fn, fa, fc⟩ := f
    simp only at e0 e1 e2
    have HCA := Lib.hid (show callA l name = if 0 ≤ fa ∧ fa ≤ 4 then (fa, 1, true) else (0, 0, false) from by unfold callA; rw [hk]; simp only; rw [hf])
    clear hk hf hfn e0 e2
    by_cases h0 : 0 ≤ fa
    · by_cases h4 : fa ≤ 4
      · obtain ⟨a, rfl⟩ : ∃ a : Nat, fa = (a : Int) := ⟨fa.toNat, by omega⟩
        have d0 : decide ((a : Int) < 0) = false := by simp
        have d4 : decide (4 < (a : Int)) = false := by simp; omega
        have HP := Lib.hid (show TakesPost (callA l name) w (.returned (.tuple #[.int .i64 ((a : Nat) : Int), .int .i64 ((1 : Nat) : Int), .bool true])) w2 from takes_ok a 1 true (by rw [HCA.out, if_pos ⟨h0, h4⟩]; rfl) HC2.out)
        clear h0
        go_wp2_with fail
        go_ret3
        exact HP.out
      · have d0 : decide (fa < 0) = false := by simp; omega
        have d4 : decide (4 < fa) = true := by simp; omega
        have h4' : 4 < fa := by omega
        have HP := Lib.hid (show TakesPost (callA l name) w (.returned (.tuple #[.int .i64 ((0 : Nat) : Int), .int .i64 ((0 : Nat) : Int), .bool false])) w2 from takes_ok 0 0 false (by rw [HCA.out, if_neg (fun h => h4 h.2)]; rfl) HC2.out)
        clear h4
        go_wp2_with fail
        go_ret3
        exact HP.out
    · have d0 : decide (fa < 0) = true := by simp; omega
      have h0' : fa < 0 := by omega
      have HP := Lib.hid (show TakesPost (callA l name) w (.returned (.tuple #[.int .i64 ((0 : Nat) : Int), .int .i64 ((0 : Nat) : Int), .bool false])) w2 from takes_ok 0 0 false (by rw [HCA.out, if_neg (fun h => h0 h.1)]; rfl) HC2.out)
      clear h0
      go_wp2_with fail
      go_ret3
      exact HP.out
theorem inL_not {l : List Nat} {r : Int} (h : ∀ x ∈ l, r ≠ (x : Int)) : inL l r = false := by
  unfold inL
  rw [Bool.eq_false_iff]
  intro ht
  obtain ⟨x, hx, e⟩ := List.any_eq_true.1 ht
  exact h x hx (by have := of_decide_eq_true e; exact this.symm)
set_option maxHeartbeats 16000000 in
set_option maxRecDepth 100000 in
theorem ctakes_any (h : Fnr w A n c l) (t : TkV) : Calls Tryz.prog 120 #[unitV pages most A n c, .agg (tkC t).toArray] w (TakesPost (rTakes l t.sign t.name) w) := by
  unfold unitV
  obtain ⟨r, tn, nm⟩ := t
  simp only [tkC]
  have H := Lib.hid h
  clear h
  obtain ⟨R, hR⟩ : ∃ R, R = rTakes l r nm := ⟨_, rfl⟩
  rw [← hR]
  have HR := Lib.hid hR
  clear hR
  go_enter Tryz.func120, Tryz.ntmps120
  go_upto_region 1 with fail
  have hN := Whole.new w 24 [.int .i64 pages, .int .i64 most, .slice A n c]
  have hal : Chg [] w (w.alloc (.cells #[.int .i64 pages, .int .i64 most, .slice A n c] 24)) := (Chg.refl [] w).alloc _
  have hsz : (w.alloc (.cells #[.int .i64 pages, .int .i64 most, .slice A n c] 24)).heap.size = w.heap.size + 1 := Array.size_push _
  obtain ⟨w1, hw1⟩ : ∃ w1, w1 = w.alloc (.cells #[.int .i64 pages, .int .i64 most, .slice A n c] 24) := ⟨_, rfl⟩
  rw [← hw1] at hN hal hsz ⊢
  have hN2 := Whole.new w1 110 [.int .i32 r, .int .i64 tn, .int .i32 nm]
  have hal2 : Chg [] w1 (w1.alloc (.cells #[.int .i32 r, .int .i64 tn, .int .i32 nm] 110)) := (Chg.refl [] w1).alloc _
  rw [hsz] at hN2
  have hU2 := hN.keep hal2
  have hc := hal.trans hal2
  generalize w1.alloc (.cells #[.int .i32 r, .int .i64 tn, .int .i32 nm] 110) = w2 at hN2 hU2 hc ⊢
  have HF2 := Lib.hid (H.out.keep hc)
  generalize w.heap.size = g at hU2 hN2 ⊢
  have HU2 := Lib.hid hU2
  have HT2 := Lib.hid hN2
  have HC2 := Lib.hid hc
  clear hN hal hsz hw1 hN2 hal2 hU2 hc
  have t0 := HT2.out.cell 0
  have t2 := HT2.out.cell 2
  have u0 := HU2.out.cell 0
  have u1 := HU2.out.cell 1
  have u2 := HU2.out.cell 2
  go_upto_region 2 with fail
  by_cases h33 : r = 33
  · subst h33
    have HP := Lib.hid (show TakesPost R w (.returned (.tuple #[.int .i64 ((1 : Nat) : Int), .int .i64 ((1 : Nat) : Int), .bool true])) w2 from takes_ok 1 1 true (by rw [HR.out]; rfl) HC2.out)
    go_wp2_with fail
    go_ret3
    exact HP.out
  have q33 : (r == 33) = false := by simpa using h33
  by_cases h35 : r = 35
  · subst h35
    have HP := Lib.hid (show TakesPost R w (.returned (.tuple #[.int .i64 ((0 : Nat) : Int), .int .i64 ((1 : Nat) : Int), .bool true])) w2 from takes_ok 0 1 true (by rw [HR.out]; rfl) HC2.out)
    go_wp2_with fail
    go_ret3
    exact HP.out
  have q35 : (r == 35) = false := by simpa using h35
  by_cases h36 : r = 36
  · subst h36
    have HP := Lib.hid (show TakesPost R w (.returned (.tuple #[.int .i64 ((2 : Nat) : Int), .int .i64 ((0 : Nat) : Int), .bool true])) w2 from takes_ok 2 0 true (by rw [HR.out]; rfl) HC2.out)
    go_wp2_with fail
    go_ret3
    exact HP.out
  have q36 : (r == 36) = false := by simpa using h36
  by_cases h37 : r = 37
  · subst h37
    have HP := Lib.hid (show TakesPost R w (.returned (.tuple #[.int .i64 ((2 : Nat) : Int), .int .i64 ((1 : Nat) : Int), .bool true])) w2 from takes_ok 2 1 true (by rw [HR.out]; rfl) HC2.out)
    go_wp2_with fail
    go_ret3
    exact HP.out
  have q37 : (r == 37) = false := by simpa using h37
  by_cases h38 : r = 38
  · subst h38
    have HP := Lib.hid (show TakesPost R w (.returned (.tuple #[.int .i64 ((2 : Nat) : Int), .int .i64 ((1 : Nat) : Int), .bool true])) w2 from takes_ok 2 1 true (by rw [HR.out]; rfl) HC2.out)
    go_wp2_with fail
    go_ret3
    exact HP.out
  have q38 : (r == 38) = false := by simpa using h38
  by_cases h42 : r = 42
  · subst h42
    have HP := Lib.hid (show TakesPost R w (.returned (.tuple #[.int .i64 ((2 : Nat) : Int), .int .i64 ((1 : Nat) : Int), .bool true])) w2 from takes_ok 2 1 true (by rw [HR.out]; rfl) HC2.out)
    go_wp2_with fail
    go_ret3
    exact HP.out
  have q42 : (r == 42) = false := by simpa using h42
  by_cases h43 : r = 43
  · subst h43
    have HP := Lib.hid (show TakesPost R w (.returned (.tuple #[.int .i64 ((2 : Nat) : Int), .int .i64 ((1 : Nat) : Int), .bool true])) w2 from takes_ok 2 1 true (by rw [HR.out]; rfl) HC2.out)
    go_wp2_with fail
    go_ret3
    exact HP.out
  have q43 : (r == 43) = false := by simpa using h43
  by_cases h44 : r = 44
  · subst h44
    have HP := Lib.hid (show TakesPost R w (.returned (.tuple #[.int .i64 ((1 : Nat) : Int), .int .i64 ((0 : Nat) : Int), .bool true])) w2 from takes_ok 1 0 true (by rw [HR.out]; rfl) HC2.out)
    go_wp2_with fail
    go_ret3
    exact HP.out
  have q44 : (r == 44) = false := by simpa using h44
  by_cases h45 : r = 45
  · subst h45
    have HP := Lib.hid (show TakesPost R w (.returned (.tuple #[.int .i64 ((2 : Nat) : Int), .int .i64 ((1 : Nat) : Int), .bool true])) w2 from takes_ok 2 1 true (by rw [HR.out]; rfl) HC2.out)
    go_wp2_with fail
    go_ret3
    exact HP.out
  have q45 : (r == 45) = false := by simpa using h45
  by_cases h46 : r = 46
  · subst h46
    have HP := Lib.hid (show TakesPost R w (.returned (.tuple #[.int .i64 ((1 : Nat) : Int), .int .i64 ((2 : Nat) : Int), .bool true])) w2 from takes_ok 1 2 true (by rw [HR.out]; rfl) HC2.out)
    go_wp2_with fail
    go_ret3
    exact HP.out
  have q46 : (r == 46) = false := by simpa using h46
  by_cases h47 : r = 47
  · subst h47
    have HP := Lib.hid (show TakesPost R w (.returned (.tuple #[.int .i64 ((2 : Nat) : Int), .int .i64 ((1 : Nat) : Int), .bool true])) w2 from takes_ok 2 1 true (by rw [HR.out]; rfl) HC2.out)
    go_wp2_with fail
    go_ret3
    exact HP.out
  have q47 : (r == 47) = false := by simpa using h47
  by_cases h48 : r = 48
  · subst h48
    have HP := Lib.hid (show TakesPost R w (.returned (.tuple #[.int .i64 ((0 : Nat) : Int), .int .i64 ((1 : Nat) : Int), .bool true])) w2 from takes_ok 0 1 true (by rw [HR.out]; rfl) HC2.out)
    go_wp2_with fail
    go_ret3
    exact HP.out
  have q48 : (r == 48) = false := by simpa using h48
  by_cases h58 : r = 58
  · subst h58
    have HP := Lib.hid (show TakesPost R w (.returned (.tuple #[.int .i64 ((0 : Nat) : Int), .int .i64 ((0 : Nat) : Int), .bool true])) w2 from takes_ok 0 0 true (by rw [HR.out]; rfl) HC2.out)
    go_wp2_with fail
    go_ret3
    exact HP.out
  have q58 : (r == 58) = false := by simpa using h58
  by_cases h59 : r = 59
  · subst h59
    have HP := Lib.hid (show TakesPost R w (.returned (.tuple #[.int .i64 ((0 : Nat) : Int), .int .i64 ((0 : Nat) : Int), .bool true])) w2 from takes_ok 0 0 true (by rw [HR.out]; rfl) HC2.out)
    go_wp2_with fail
    go_ret3
    exact HP.out
  have q59 : (r == 59) = false := by simpa using h59
  by_cases h60 : r = 60
  · subst h60
    have HP := Lib.hid (show TakesPost R w (.returned (.tuple #[.int .i64 ((2 : Nat) : Int), .int .i64 ((1 : Nat) : Int), .bool true])) w2 from takes_ok 2 1 true (by rw [HR.out]; rfl) HC2.out)
    go_wp2_with fail
    go_ret3
    exact HP.out
  have q60 : (r == 60) = false := by simpa using h60
  by_cases h61 : r = 61
  · subst h61
    have HP := Lib.hid (show TakesPost R w (.returned (.tuple #[.int .i64 ((2 : Nat) : Int), .int .i64 ((1 : Nat) : Int), .bool true])) w2 from takes_ok 2 1 true (by rw [HR.out]; rfl) HC2.out)
    go_wp2_with fail
    go_ret3
    exact HP.out
  have q61 : (r == 61) = false := by simpa using h61
  by_cases h63 : r = 63
  · subst h63
    have HP := Lib.hid (show TakesPost R w (.returned (.tuple #[.int .i64 ((1 : Nat) : Int), .int .i64 ((0 : Nat) : Int), .bool true])) w2 from takes_ok 1 0 true (by rw [HR.out]; rfl) HC2.out)
    go_wp2_with fail
    go_ret3
    exact HP.out
  have q63 : (r == 63) = false := by simpa using h63
  by_cases h64 : r = 64
  · subst h64
    have HP := Lib.hid (show TakesPost R w (.returned (.tuple #[.int .i64 ((1 : Nat) : Int), .int .i64 ((1 : Nat) : Int), .bool true])) w2 from takes_ok 1 1 true (by rw [HR.out]; rfl) HC2.out)
    go_wp2_with fail
    go_ret3
    exact HP.out
  have q64 : (r == 64) = false := by simpa using h64
  by_cases h91 : r = 91
  · subst h91
    have HP := Lib.hid (show TakesPost R w (.returned (.tuple #[.int .i64 ((0 : Nat) : Int), .int .i64 ((0 : Nat) : Int), .bool true])) w2 from takes_ok 0 0 true (by rw [HR.out]; rfl) HC2.out)
    go_wp2_with fail
    go_ret3
    exact HP.out
  have q91 : (r == 91) = false := by simpa using h91
  by_cases h93 : r = 93
  · subst h93
    have HP := Lib.hid (show TakesPost R w (.returned (.tuple #[.int .i64 ((0 : Nat) : Int), .int .i64 ((0 : Nat) : Int), .bool true])) w2 from takes_ok 0 0 true (by rw [HR.out]; rfl) HC2.out)
    go_wp2_with fail
    go_ret3
    exact HP.out
  have q93 : (r == 93) = false := by simpa using h93
  by_cases h94 : r = 94
  · subst h94
    have HP := Lib.hid (show TakesPost R w (.returned (.tuple #[.int .i64 ((2 : Nat) : Int), .int .i64 ((1 : Nat) : Int), .bool true])) w2 from takes_ok 2 1 true (by rw [HR.out]; rfl) HC2.out)
    go_wp2_with fail
    go_ret3
    exact HP.out
  have q94 : (r == 94) = false := by simpa using h94
  by_cases h124 : r = 124
  · subst h124
    have HP := Lib.hid (show TakesPost R w (.returned (.tuple #[.int .i64 ((2 : Nat) : Int), .int .i64 ((1 : Nat) : Int), .bool true])) w2 from takes_ok 2 1 true (by rw [HR.out]; rfl) HC2.out)
    go_wp2_with fail
    go_ret3
    exact HP.out
  have q124 : (r == 124) = false := by simpa using h124
  by_cases h126 : r = 126
  · subst h126
    have HP := Lib.hid (show TakesPost R w (.returned (.tuple #[.int .i64 ((0 : Nat) : Int), .int .i64 ((0 : Nat) : Int), .bool true])) w2 from takes_ok 0 0 true (by rw [HR.out]; rfl) HC2.out)
    go_wp2_with fail
    go_ret3
    exact HP.out
  have q126 : (r == 126) = false := by simpa using h126
  by_cases h161 : r = 161
  · subst h161
    have HP := Lib.hid (show TakesPost R w (.returned (.tuple #[.int .i64 ((0 : Nat) : Int), .int .i64 ((0 : Nat) : Int), .bool true])) w2 from takes_ok 0 0 true (by rw [HR.out]; rfl) HC2.out)
    go_wp2_with fail
    go_ret3
    exact HP.out
  have q161 : (r == 161) = false := by simpa using h161
  by_cases h164 : r = 164
  · subst h164
    have HP := Lib.hid (show TakesPost R w (.returned (.tuple #[.int .i64 ((1 : Nat) : Int), .int .i64 ((1 : Nat) : Int), .bool true])) w2 from takes_ok 1 1 true (by rw [HR.out]; rfl) HC2.out)
    go_wp2_with fail
    go_ret3
    exact HP.out
  have q164 : (r == 164) = false := by simpa using h164
  by_cases h169 : r = 169
  · subst h169
    have HP := Lib.hid (show TakesPost R w (.returned (.tuple #[.int .i64 ((1 : Nat) : Int), .int .i64 ((1 : Nat) : Int), .bool true])) w2 from takes_ok 1 1 true (by rw [HR.out]; rfl) HC2.out)
    go_wp2_with fail
    go_ret3
    exact HP.out
  have q169 : (r == 169) = false := by simpa using h169
  by_cases h171 : r = 171
  · subst h171
    have HP := Lib.hid (show TakesPost R w (.returned (.tuple #[.int .i64 ((2 : Nat) : Int), .int .i64 ((1 : Nat) : Int), .bool true])) w2 from takes_ok 2 1 true (by rw [HR.out]; rfl) HC2.out)
    go_wp2_with fail
    go_ret3
    exact HP.out
  have q171 : (r == 171) = false := by simpa using h171
  by_cases h174 : r = 174
  · subst h174
    have HP := Lib.hid (show TakesPost R w (.returned (.tuple #[.int .i64 ((2 : Nat) : Int), .int .i64 ((0 : Nat) : Int), .bool true])) w2 from takes_ok 2 0 true (by rw [HR.out]; rfl) HC2.out)
    go_wp2_with fail
    go_ret3
    exact HP.out
  have q174 : (r == 174) = false := by simpa using h174
  by_cases h187 : r = 187
  · subst h187
    have HP := Lib.hid (show TakesPost R w (.returned (.tuple #[.int .i64 ((2 : Nat) : Int), .int .i64 ((1 : Nat) : Int), .bool true])) w2 from takes_ok 2 1 true (by rw [HR.out]; rfl) HC2.out)
    go_wp2_with fail
    go_ret3
    exact HP.out
  have q187 : (r == 187) = false := by simpa using h187
  by_cases h960 : r = 960
  · subst h960
    have HP := Lib.hid (show TakesPost R w (.returned (.tuple #[.int .i64 ((1 : Nat) : Int), .int .i64 ((1 : Nat) : Int), .bool true])) w2 from takes_ok 1 1 true (by rw [HR.out]; rfl) HC2.out)
    go_wp2_with fail
    go_ret3
    exact HP.out
  have q960 : (r == 960) = false := by simpa using h960
  by_cases h955 : r = 955
  · subst h955
    have HE := Lib.hid (show R = callA l nm from by rw [HR.out]; rfl)
    go_wp2_with fail
    refine (ctcall_any HF2.out nm).mono ?_
    rw [← HE.out]
    obtain ⟨a, b, ok⟩ := R
    rintro e w3 ⟨rfl, hc3⟩
    have HP := Lib.hid (show TakesPost (a, b, ok) w (.returned (.tuple #[.int .i64 a, .int .i64 b, .bool ok])) w3 from ⟨rfl, HC2.out.new hc3⟩)
    clear hc3
    go_wp2_with fail
    go_ret3
    exact HP.out
  have q955 : (r == 955) = false := by simpa using h955
  have hb : inL binL r = false := inL_not (by intro x hx; simp [binL] at hx; omega)
  have hu : inL unL r = false := inL_not (by intro x hx; simp [unL] at hx; omega)
  have hz : inL zeL r = false := inL_not (by intro x hx; simp [zeL] at hx; omega)
  have HE := Lib.hid (show R = if 97 ≤ r ∧ r ≤ 122 then (0, 1, true) else if 65 ≤ r ∧ r ≤ 90 then (1, 0, true) else (0, 0, false) from by
    rw [HR.out]
    unfold rTakes
    rw [hb, hu, hz]
    by_cases c1 : 97 ≤ r ∧ r ≤ 122
    · rw [if_pos (.inl (.inr c1)), if_pos c1]
    · rw [if_neg (by omega), if_neg c1]
      by_cases c2 : 65 ≤ r ∧ r ≤ 90
      · rw [if_pos (.inl c2), if_pos c2]
      · rw [if_neg (by omega), if_neg c2, if_neg (by omega), if_neg (by decide), if_neg (by decide), if_neg (by omega), if_neg (by omega), if_neg (by decide), if_neg (by omega)])
  clear hb hu hz
  clear h33 h35 h36 h37 h38 h42 h43 h44 h45 h46 h47 h48 h58 h59 h60 h61 h63 h64 h91 h93 h94 h124 h126 h161 h164 h169 h171 h174 h187 h960 h955
  by_cases a1 : 97 ≤ r
  · have d1 : decide (97 ≤ r) = true := by simpa using a1
    by_cases a2 : r ≤ 122
    · have d2 : decide (r ≤ 122) = true := by simpa using a2
      have HP := Lib.hid (show TakesPost R w (.returned (.tuple #[.int .i64 ((0 : Nat) : Int), .int .i64 ((1 : Nat) : Int), .bool true])) w2 from takes_ok 0 1 true (by rw [HE.out, if_pos ⟨a1, a2⟩]; rfl) HC2.out)
      go_wp2_with fail
      go_ret3
      exact HP.out
    · have d2 : decide (r ≤ 122) = false := by simpa using a2
      have d3 : decide (65 ≤ r) = true := by simp; omega
      have d4 : decide (r ≤ 90) = false := by simp; omega
      have HP := Lib.hid (show TakesPost R w (.returned (.tuple #[.int .i64 ((0 : Nat) : Int), .int .i64 ((0 : Nat) : Int), .bool false])) w2 from takes_ok 0 0 false (by rw [HE.out, if_neg (by omega), if_neg (by omega)]; rfl) HC2.out)
      go_wp2_with fail
      go_ret3
      exact HP.out
  · have d1 : decide (97 ≤ r) = false := by simpa using a1
    by_cases a3 : 65 ≤ r
    · have d3 : decide (65 ≤ r) = true := by simpa using a3
      by_cases a4 : r ≤ 90
      · have d4 : decide (r ≤ 90) = true := by simpa using a4
        have HP := Lib.hid (show TakesPost R w (.returned (.tuple #[.int .i64 ((1 : Nat) : Int), .int .i64 ((0 : Nat) : Int), .bool true])) w2 from takes_ok 1 0 true (by rw [HE.out, if_neg (by omega), if_pos ⟨a3, a4⟩]; rfl) HC2.out)
        go_wp2_with fail
        go_ret3
        exact HP.out
      · have d4 : decide (r ≤ 90) = false := by simpa using a4
        have HP := Lib.hid (show TakesPost R w (.returned (.tuple #[.int .i64 ((0 : Nat) : Int), .int .i64 ((0 : Nat) : Int), .bool false])) w2 from takes_ok 0 0 false (by rw [HE.out, if_neg (by omega), if_neg (by omega)]; rfl) HC2.out)
        go_wp2_with fail
        go_ret3
        exact HP.out
    · have d3 : decide (65 ≤ r) = false := by simpa using a3
      have HP := Lib.hid (show TakesPost R w (.returned (.tuple #[.int .i64 ((0 : Nat) : Int), .int .i64 ((0 : Nat) : Int), .bool false])) w2 from takes_ok 0 0 false (by rw [HE.out, if_neg (by omega), if_neg (by omega)]; rfl) HC2.out)
      go_wp2_with fail
      go_ret3
      exact HP.out
end
end Go.Proofs.YtbkfhndmeljlcaaGreatDoor
