/-
  PB: Takes.
-/
import Derived.Test.YtbkfhndmeljlcaaGreatDoorZPB17
namespace Go.Proofs.YtbkfhndmeljlcaaGreatDoor
open Go.RowKit
section
variable {w : World} {A : Option Addr} {n c : Nat} {l : List FnV} {pages most : Int}
def TakesPost (r : Int × Int × Bool) (w : World) (e : Ending) (w' : World) : Prop := e = .returned (.tuple #[.int .i64 r.1, .int .i64 r.2.1, .bool r.2.2]) ∧ Chg [] w w'
theorem takes_ok {R : Int × Int × Bool} {w' : World} (a b : Nat) (ok : Bool) (hR : R = ((a : Int), (b : Int), ok)) (h : Chg [] w w') : TakesPost R w (.returned (.tuple #[.int .i64 (a : Int), .int .i64 (b : Int), .bool ok])) w' := by subst hR; exact ⟨rfl, h⟩
theorem has_bin (r : Int) (w : World) : Calls Tryz.prog 105 #[.string ⟨#[43, 45, 42, 47, 37, 38, 124, 94, 60, 61, 194, 171, 194, 187]⟩, .int .i32 r] w (BoolPost (inL binL r) w) :=
  (has_any _ r w (by decide)).mono fun _ _ h => by
    unfold hasB at h
    rw [show runesL ⟨#[43, 45, 42, 47, 37, 38, 124, 94, 60, 61, 194, 171, 194, 187]⟩ = binL from by decide +kernel] at h
    exact h
theorem has_un (r : Int) (w : World) : Calls Tryz.prog 105 #[.string ⟨#[33, 64, 194, 169, 194, 164, 207, 128]⟩, .int .i32 r] w (BoolPost (inL unL r) w) :=
  (has_any _ r w (by decide)).mono fun _ _ h => by
    unfold hasB at h
    rw [show runesL ⟨#[33, 64, 194, 169, 194, 164, 207, 128]⟩ = unL from by decide +kernel] at h
    exact h
theorem has_ze (r : Int) (w : World) : Calls Tryz.prog 105 #[.string ⟨#[58, 59, 91, 93, 126, 194, 161]⟩, .int .i32 r] w (BoolPost (inL zeL r) w) :=
  (has_any _ r w (by decide)).mono fun _ _ h => by
    unfold hasB at h
    rw [show runesL ⟨#[58, 59, 91, 93, 126, 194, 161]⟩ = zeL from by decide +kernel] at h
    exact h
set_option maxHeartbeats 4000000 in
set_option maxRecDepth 100000 in
theorem takes_any (h : Fnr w A n c l) (t : TkV) : Calls Tryz.prog 97 #[unitV pages most A n c, .agg (tkC t).toArray] w (TakesPost (rTakes l t.sign t.name) w) := by
  unfold unitV
  obtain ⟨r, tn, nm⟩ := t
  simp only [tkC]
  have hmax := h.max
  have H := Lib.hid h
  clear h
  obtain ⟨R, hR⟩ : ∃ R, R = rTakes l r nm := ⟨_, rfl⟩
  rw [← hR]
  have HR := Lib.hid hR
  clear hR
  go_enter Tryz.func97, Tryz.ntmps97
  go_upto_region 1 with fail
  have hN := Whole.new w 24 [.int .i64 pages, .int .i64 most, .slice A n c]
  have hal : Chg [] w (w.alloc (.cells #[.int .i64 pages, .int .i64 most, .slice A n c] 24)) := (Chg.refl [] w).alloc _
  have hsz : (w.alloc (.cells #[.int .i64 pages, .int .i64 most, .slice A n c] 24)).heap.size = w.heap.size + 1 := Array.size_push _
  obtain ⟨w1, hw1⟩ : ∃ w1, w1 = w.alloc (.cells #[.int .i64 pages, .int .i64 most, .slice A n c] 24) := ⟨_, rfl⟩
  rw [← hw1] at hN hal hsz ⊢
  have hN2 := Whole.new w1 110 [.int .i32 r, .int .i64 tn, .int .i32 nm]
  have hal2 : Chg [] w1 (w1.alloc (.cells #[.int .i32 r, .int .i64 tn, .int .i32 nm] 110)) := (Chg.refl [] w1).alloc _
  rw [hsz] at hN2
  have hU2 := hN.keep hal2
  have hc := hal.trans hal2
  generalize w1.alloc (.cells #[.int .i32 r, .int .i64 tn, .int .i32 nm] 110) = w2 at hN2 hU2 hc ⊢
  have HF2 := Lib.hid (H.out.keep hc)
  generalize w.heap.size = g at hU2 hN2 ⊢
  have HU2 := Lib.hid hU2
  have HT2 := Lib.hid hN2
  have HC2 := Lib.hid hc
  clear hN hal hsz hw1 hN2 hal2 hU2 hc
  have t0 := HT2.out.cell 0
  go_upto_region 2 with fail
  go_cut [11] (fun s wx => s = .bool (decide ((r = 48 ∨ (97 ≤ r ∧ r ≤ 122)) ∨ r = 35)) ∧ wx = w2)
  case first =>
    by_cases h48 : r = 48
    · have q1 : (r == 48) = true := by simpa using h48
      have HALL := Lib.hid (show (r = 48 ∨ (97 ≤ r ∧ r ≤ 122)) ∨ r = 35 from .inl (.inl h48))
      clear h48
      go_wp2_with fail
      go_meet
      exact ⟨congrArg Value.bool (decide_eq_true HALL.out).symm, rfl⟩
    · have q1 : (r == 48) = false := by simpa using h48
      by_cases h97 : 97 ≤ r
      · have q2 : decide (97 ≤ r) = true := by simpa using h97
        by_cases h122 : r ≤ 122
        · have q3 : decide (r ≤ 122) = true := by simpa using h122
          have HALL := Lib.hid (show (r = 48 ∨ (97 ≤ r ∧ r ≤ 122)) ∨ r = 35 from .inl (.inr ⟨h97, h122⟩))
          clear h48
          go_wp2_with fail
          go_meet
          exact ⟨congrArg Value.bool (decide_eq_true HALL.out).symm, rfl⟩
        · have q3 : decide (r ≤ 122) = false := by simpa using h122
          by_cases h9 : r = 35
          · have q9 : (r == 35) = true := by simpa using h9
            have HALL := Lib.hid (show (r = 48 ∨ (97 ≤ r ∧ r ≤ 122)) ∨ r = 35 from .inr h9)
            clear h9 h48 h97 h122
            go_wp2_with fail
            go_meet
            exact ⟨congrArg Value.bool (decide_eq_true HALL.out).symm, rfl⟩
          · have q9 : (r == 35) = false := by simpa using h9
            have HALL := Lib.hid (show ¬ ((r = 48 ∨ (97 ≤ r ∧ r ≤ 122)) ∨ r = 35) from by omega)
            clear h9 h48 h97 h122
            go_wp2_with fail
            go_meet
            exact ⟨congrArg Value.bool (decide_eq_false HALL.out).symm, rfl⟩
      · have q2 : decide (97 ≤ r) = false := by simpa using h97
        by_cases h9 : r = 35
        · have q9 : (r == 35) = true := by simpa using h9
          have HALL := Lib.hid (show (r = 48 ∨ (97 ≤ r ∧ r ≤ 122)) ∨ r = 35 from .inr h9)
          clear h9 h48 h97
          go_wp2_with fail
          go_meet
          exact ⟨congrArg Value.bool (decide_eq_true HALL.out).symm, rfl⟩
        · have q9 : (r == 35) = false := by simpa using h9
          have HALL := Lib.hid (show ¬ ((r = 48 ∨ (97 ≤ r ∧ r ≤ 122)) ∨ r = 35) from by omega)
          clear h9 h48 h97
          go_wp2_with fail
          go_meet
          exact ⟨congrArg Value.bool (decide_eq_false HALL.out).symm, rfl⟩
  case rest =>
    obtain ⟨hs, hcw⟩ := hcut
    rw [hcw]
    clear hcw
    by_cases hP : (r = 48 ∨ (97 ≤ r ∧ r ≤ 122)) ∨ r = 35
    · rw [decide_eq_true hP] at hs
      subst hs
      have H1 := Lib.hid hP
      clear hP
      have HP := Lib.hid (takes_ok (R := R) 0 1 true (by rw [HR.out]; unfold rTakes; rw [if_pos H1.out]; rfl) HC2.out)
      go_wp2_with fail
      exact bodyPost_ret (v := .tuple #[.int .i64 ((0 : Nat) : Int), .int .i64 ((1 : Nat) : Int), .bool true]) (by simp [results, Tryz.results97, go_sem]) rfl HP.out
    rw [decide_eq_false hP] at hs
    subst hs
    have H1 := Lib.hid hP
    clear hP
    go_upto_region 4 with fail
    go_cut [26] (fun s wx => s = .bool (decide ((65 ≤ r ∧ r ≤ 90) ∨ r = 44)) ∧ wx = w2)
    case first =>
      by_cases h65 : 65 ≤ r
      · have q2 : decide (65 ≤ r) = true := by simpa using h65
        by_cases h90 : r ≤ 90
        · have q3 : decide (r ≤ 90) = true := by simpa using h90
          have HALL := Lib.hid (show (65 ≤ r ∧ r ≤ 90) ∨ r = 44 from .inl ⟨h65, h90⟩)
          go_wp2_with fail
          go_meet
          exact ⟨congrArg Value.bool (decide_eq_true HALL.out).symm, rfl⟩
        · have q3 : decide (r ≤ 90) = false := by simpa using h90
          by_cases h9 : r = 44
          · have q9 : (r == 44) = true := by simpa using h9
            have HALL := Lib.hid (show (65 ≤ r ∧ r ≤ 90) ∨ r = 44 from .inr h9)
            clear h9 h65 h90
            go_wp2_with fail
            go_meet
            exact ⟨congrArg Value.bool (decide_eq_true HALL.out).symm, rfl⟩
          · have q9 : (r == 44) = false := by simpa using h9
            have HALL := Lib.hid (show ¬ ((65 ≤ r ∧ r ≤ 90) ∨ r = 44) from by omega)
            clear h9 h65 h90
            go_wp2_with fail
            go_meet
            exact ⟨congrArg Value.bool (decide_eq_false HALL.out).symm, rfl⟩
      · have q2 : decide (65 ≤ r) = false := by simpa using h65
        by_cases h9 : r = 44
        · have q9 : (r == 44) = true := by simpa using h9
          have HALL := Lib.hid (show (65 ≤ r ∧ r ≤ 90) ∨ r = 44 from .inr h9)
          clear h9 h65
          go_wp2_with fail
          go_meet
          exact ⟨congrArg Value.bool (decide_eq_true HALL.out).symm, rfl⟩
        · have q9 : (r == 44) = false := by simpa using h9
          have HALL := Lib.hid (show ¬ ((65 ≤ r ∧ r ≤ 90) ∨ r = 44) from by omega)
          clear h9 h65
          go_wp2_with fail
          go_meet
          exact ⟨congrArg Value.bool (decide_eq_false HALL.out).symm, rfl⟩
    case rest =>
      obtain ⟨hs, hcw⟩ := hcut
      rw [hcw]
      clear hcw
      by_cases hP : (65 ≤ r ∧ r ≤ 90) ∨ r = 44
      · rw [decide_eq_true hP] at hs
        subst hs
        have H2 := Lib.hid hP
        clear hP
        have HP := Lib.hid (takes_ok (R := R) 1 0 true (by rw [HR.out]; unfold rTakes; rw [if_neg H1.out, if_pos H2.out]; rfl) HC2.out)
        go_wp2_with fail
        exact bodyPost_ret (v := .tuple #[.int .i64 ((1 : Nat) : Int), .int .i64 ((0 : Nat) : Int), .bool true]) (by simp [results, Tryz.results97, go_sem]) rfl HP.out
      rw [decide_eq_false hP] at hs
      subst hs
      have H2 := Lib.hid hP
      clear hP
      by_cases h46 : r = 46
      · have q1 : (r == 46) = true := by simpa using h46
        have H3 := Lib.hid h46
        clear h46
        have HP := Lib.hid (takes_ok (R := R) 1 2 true (by rw [HR.out]; unfold rTakes; rw [if_neg H1.out, if_neg H2.out, if_pos H3.out]; rfl) HC2.out)
        go_wp2_with fail
        exact bodyPost_ret (v := .tuple #[.int .i64 ((1 : Nat) : Int), .int .i64 ((2 : Nat) : Int), .bool true]) (by simp [results, Tryz.results97, go_sem]) rfl HP.out
      have q46 : (r == 46) = false := by simpa using h46
      have H3 := Lib.hid h46
      clear h46
      go_wp2_with fail
      refine (has_bin r w2).mono ?_
      rintro e w3 ⟨rfl, hc3⟩
      have HU3 := Lib.hid (HU2.out.keep hc3)
      have HT3 := Lib.hid (HT2.out.keep hc3)
      have HF3 := Lib.hid (HF2.out.keep hc3)
      have HC3 := Lib.hid (HC2.out.trans hc3)
      clear hc3
      by_cases hb : inL binL r = true
      · rw [hb]
        have H4 := Lib.hid hb
        clear hb
        have HP := Lib.hid (takes_ok (R := R) 2 1 true (by rw [HR.out]; unfold rTakes; rw [if_neg H1.out, if_neg H2.out, if_neg H3.out, if_pos H4.out]; rfl) HC3.out)
        go_wp2_with fail
        exact bodyPost_ret (v := .tuple #[.int .i64 ((2 : Nat) : Int), .int .i64 ((1 : Nat) : Int), .bool true]) (by simp [results, Tryz.results97, go_sem]) rfl HP.out
      have H4 := Lib.hid hb
      rw [eq_false_of_ne_true hb]
      clear hb
      go_wp2_with fail
      refine (has_un r w3).mono ?_
      rintro e w4 ⟨rfl, hc4⟩
      have HU4 := Lib.hid (HU3.out.keep hc4)
      have HT4 := Lib.hid (HT3.out.keep hc4)
      have HF4 := Lib.hid (HF3.out.keep hc4)
      have HC4 := Lib.hid (HC3.out.trans hc4)
      clear hc4
      by_cases hb : inL unL r = true
      · rw [hb]
        have H5 := Lib.hid hb
        clear hb
        have HP := Lib.hid (takes_ok (R := R) 1 1 true (by rw [HR.out]; unfold rTakes; rw [if_neg H1.out, if_neg H2.out, if_neg H3.out, if_neg H4.out, if_pos H5.out]; rfl) HC4.out)
        go_wp2_with fail
        exact bodyPost_ret (v := .tuple #[.int .i64 ((1 : Nat) : Int), .int .i64 ((1 : Nat) : Int), .bool true]) (by simp [results, Tryz.results97, go_sem]) rfl HP.out
      have H5 := Lib.hid hb
      rw [eq_false_of_ne_true hb]
      clear hb
      go_upto_region 12 with fail
      go_cut [46] (fun s wx => s = .bool (decide (r = 36 ∨ r = 174)) ∧ wx = w4)
      case first =>
        by_cases h36 : r = 36
        · have q1 : (r == 36) = true := by simpa using h36
          have HALL := Lib.hid (show r = 36 ∨ r = 174 from .inl h36)
          clear h36
          go_wp2_with fail
          go_meet
          exact ⟨congrArg Value.bool (decide_eq_true HALL.out).symm, rfl⟩
        · have q1 : (r == 36) = false := by simpa using h36
          by_cases h9 : r = 174
          · have q9 : (r == 174) = true := by simpa using h9
            have HALL := Lib.hid (show r = 36 ∨ r = 174 from .inr h9)
            clear h9 h36
            go_wp2_with fail
            go_meet
            exact ⟨congrArg Value.bool (decide_eq_true HALL.out).symm, rfl⟩
          · have q9 : (r == 174) = false := by simpa using h9
            have HALL := Lib.hid (show ¬ (r = 36 ∨ r = 174) from by omega)
            clear h9 h36
            go_wp2_with fail
            go_meet
            exact ⟨congrArg Value.bool (decide_eq_false HALL.out).symm, rfl⟩
      case rest =>
        obtain ⟨hs, hcw⟩ := hcut
        rw [hcw]
        clear hcw
        by_cases hP : r = 36 ∨ r = 174
        · rw [decide_eq_true hP] at hs
          subst hs
          have H6 := Lib.hid hP
          clear hP
          have HP := Lib.hid (takes_ok (R := R) 2 0 true (by rw [HR.out]; unfold rTakes; rw [if_neg H1.out, if_neg H2.out, if_neg H3.out, if_neg H4.out, if_neg H5.out, if_pos H6.out]; rfl) HC4.out)
          go_wp2_with fail
          exact bodyPost_ret (v := .tuple #[.int .i64 ((2 : Nat) : Int), .int .i64 ((0 : Nat) : Int), .bool true]) (by simp [results, Tryz.results97, go_sem]) rfl HP.out
        rw [decide_eq_false hP] at hs
        subst hs
        have H6 := Lib.hid hP
        clear hP
        by_cases h63 : r = 63
        · have q1 : (r == 63) = true := by simpa using h63
          have H7 := Lib.hid h63
          clear h63
          have HP := Lib.hid (takes_ok (R := R) 1 0 true (by rw [HR.out]; unfold rTakes; rw [if_neg H1.out, if_neg H2.out, if_neg H3.out, if_neg H4.out, if_neg H5.out, if_neg H6.out, if_pos H7.out]; rfl) HC4.out)
          go_wp2_with fail
          exact bodyPost_ret (v := .tuple #[.int .i64 ((1 : Nat) : Int), .int .i64 ((0 : Nat) : Int), .bool true]) (by simp [results, Tryz.results97, go_sem]) rfl HP.out
        have q63 : (r == 63) = false := by simpa using h63
        have H7 := Lib.hid h63
        clear h63
        go_wp2_with fail
        refine (has_ze r w4).mono ?_
        rintro e w5 ⟨rfl, hc5⟩
        have HU5 := Lib.hid (HU4.out.keep hc5)
        have HT5 := Lib.hid (HT4.out.keep hc5)
        have HF5 := Lib.hid (HF4.out.keep hc5)
        have HC5 := Lib.hid (HC4.out.trans hc5)
        clear hc5
        by_cases hb : inL zeL r = true
        · rw [hb]
          have H8 := Lib.hid hb
          clear hb
          have HP := Lib.hid (takes_ok (R := R) 0 0 true (by rw [HR.out]; unfold rTakes; rw [if_neg H1.out, if_neg H2.out, if_neg H3.out, if_neg H4.out, if_neg H5.out, if_neg H6.out, if_neg H7.out, if_pos H8.out]; rfl) HC5.out)
          go_wp2_with fail
          exact bodyPost_ret (v := .tuple #[.int .i64 ((0 : Nat) : Int), .int .i64 ((0 : Nat) : Int), .bool true]) (by simp [results, Tryz.results97, go_sem]) rfl HP.out
        have H8 := Lib.hid hb
        rw [eq_false_of_ne_true hb]
        clear hb
        by_cases h955 : r = 955
        · have q1 : (r == 955) = true := by simpa using h955
          have H9 := Lib.hid h955
          clear h955
          have u0 := HU5.out.cell 0
          have u1 := HU5.out.cell 1
          have u2 := HU5.out.cell 2
          have t2 := HT5.out.cell 2
          go_wp2_with fail
          refine (find_any HF5.out nm).mono ?_
          rintro e w9 ⟨rfl, hc9⟩
          have HF9 := Lib.hid (HF5.out.keep hc9)
          have HC9 := Lib.hid (HC5.out.trans hc9)
          have v2 := (HU5.out.keep hc9).cell 2
          clear hc9 u0 u1 u2 t2
          have HRC := Lib.hid (show R = callA l nm from by rw [HR.out]; unfold rTakes; rw [if_neg H1.out, if_neg H2.out, if_neg H3.out, if_neg H4.out, if_neg H5.out, if_neg H6.out, if_neg H7.out, if_neg H8.out, if_pos H9.out])
          unfold findI
          cases hk : findK nm l 0 with
          | none =>
            have HKN := Lib.hid hk
            clear hk
            simp only
            have HP := Lib.hid (takes_ok (R := R) 0 0 false (by rw [HRC.out]; unfold callA; rw [HKN.out]; rfl) HC9.out)
            go_wp2_with fail
            exact bodyPost_ret (v := .tuple #[.int .i64 ((0 : Nat) : Int), .int .i64 ((0 : Nat) : Int), .bool false]) (by simp [results, Tryz.results97, go_sem]) rfl HP.out
          | some k =>
            obtain ⟨f, _, hfk, _⟩ := findK_at hk
            rw [Nat.sub_zero] at hfk
            have HKS := Lib.hid hk
            have HFK := Lib.hid hfk
            clear hk
            simp only
            obtain ⟨fb, fo, rfl, hfbl, e0, e1, e2⟩ := HF9.out.cell hfk
            have hkn : k < n := by rw [← HF9.out.len]; exact (List.getElem?_eq_some_iff.1 hfk).1
            have hmaxk := HF9.out.max
            have har := HF9.out.args f (List.mem_of_getElem? hfk)
            have hkI : (k : Int) < (n : Int) := by omega
            clear hfk e0 e2
            by_cases ha0 : 0 ≤ f.args
            · have qa0 : decide (0 ≤ f.args) = true := by simpa using ha0
              by_cases ha4 : f.args ≤ 4
              · have qa4 : decide (f.args ≤ 4) = true := by simpa using ha4
                have HRD := Lib.hid (show R = (f.args, 1, true) from by rw [HRC.out]; unfold callA; rw [HKS.out]; simp only; rw [HFK.out]; simp only; rw [if_pos ⟨ha0, ha4⟩])
                obtain ⟨q, hq⟩ : ∃ q : Nat, f.args = (q : Int) := ⟨f.args.toNat, by omega⟩
                rw [hq] at e1 qa0 qa4
                have hq4 : q ≤ 4 := by omega
                have HRE := Lib.hid (show R = ((q : Int), ((1 : Nat) : Int), true) from by rw [HRD.out, hq]; rfl)
                clear hq ha0 ha4 har
                have HP := Lib.hid (takes_ok (R := R) q 1 true (HRE.out) HC9.out)
                go_wp2_with fail
                exact bodyPost_ret (v := .tuple #[.int .i64 ((q : Nat) : Int), .int .i64 ((1 : Nat) : Int), .bool true]) (by simp [results, Tryz.results97, go_sem]) rfl HP.out
              · have qa4 : decide (f.args ≤ 4) = false := by simpa using ha4
                have HRE := Lib.hid (show R = (((0 : Nat) : Int), ((0 : Nat) : Int), false) from by rw [HRC.out]; unfold callA; rw [HKS.out]; simp only; rw [HFK.out]; simp only; rw [if_neg (by omega)]; rfl)
                have HP := Lib.hid (takes_ok (R := R) 0 0 false (HRE.out) HC9.out)
                go_wp2_with fail
                exact bodyPost_ret (v := .tuple #[.int .i64 ((0 : Nat) : Int), .int .i64 ((0 : Nat) : Int), .bool false]) (by simp [results, Tryz.results97, go_sem]) rfl HP.out
            · have qa0 : decide (0 ≤ f.args) = false := by simpa using ha0
              have HRE := Lib.hid (show R = (((0 : Nat) : Int), ((0 : Nat) : Int), false) from by rw [HRC.out]; unfold callA; rw [HKS.out]; simp only; rw [HFK.out]; simp only; rw [if_neg (by omega)]; rfl)
              have HP := Lib.hid (takes_ok (R := R) 0 0 false (HRE.out) HC9.out)
              go_wp2_with fail
              exact bodyPost_ret (v := .tuple #[.int .i64 ((0 : Nat) : Int), .int .i64 ((0 : Nat) : Int), .bool false]) (by simp [results, Tryz.results97, go_sem]) rfl HP.out
        have q955 : (r == 955) = false := by simpa using h955
        have H9 := Lib.hid h955
        clear h955
        have HP := Lib.hid (takes_ok (R := R) 0 0 false (by rw [HR.out]; unfold rTakes; rw [if_neg H1.out, if_neg H2.out, if_neg H3.out, if_neg H4.out, if_neg H5.out, if_neg H6.out, if_neg H7.out, if_neg H8.out, if_neg H9.out]; rfl) HC5.out)
        go_wp2_with fail
        exact bodyPost_ret (v := .tuple #[.int .i64 ((0 : Nat) : Int), .int .i64 ((0 : Nat) : Int), .bool false]) (by simp [results, Tryz.results97, go_sem]) rfl HP.out
end
end Go.Proofs.YtbkfhndmeljlcaaGreatDoor
