/-
  GL: Gl1.
-/
import Derived.Test.YtodbeeodhekpeaaDoorZGL10
namespace Go.Proofs.YtodbeeodhekpeaaDoor
open Go.RowKit
def smallB (r : Int) : Bool := decide (97 ≤ r) && decide (r ≤ 122)
def digitB (r : Int) : Bool := decide (48 ≤ r) && decide (r ≤ 57)
def namedB (r : Int) : Bool := (r == 955) || (r == 960)
def validB (r : Int) : Bool := (decide (0 ≤ r) && decide (r < 55296)) || (decide (57343 < r) && decide (r ≤ 1114111))
theorem small_any (r : Int) (w : World) : Calls Tryd.prog 43 #[.int .i32 r] w fun e w' => e = .returned (.bool (smallB r)) ∧ w = w' := by
  obtain ⟨b, hb⟩ : ∃ b, b = smallB r := ⟨_, rfl⟩
  rw [← hb]
  have HB := Lib.hid hb
  clear hb
  by_cases h1 : 97 ≤ r
  · by_cases h2 : r ≤ 122
    · have HE := Lib.hid (show b = true from by rw [HB.out]; simp [smallB, h1, h2])
      go_enter Tryd.func43, Tryd.ntmps43
      go_wp2_with fail
      go_ret
      exact ⟨ret_bool HE.out.symm, rfl⟩
    · have h2d : decide (r ≤ 122) = false := by simpa using h2
      have HE := Lib.hid (show b = false from by rw [HB.out]; simp [smallB, h1, h2])
      go_enter Tryd.func43, Tryd.ntmps43
      go_wp2_with fail
      go_ret
      exact ⟨ret_bool HE.out.symm, rfl⟩
  · have h1d : decide (97 ≤ r) = false := by simpa using h1
    have HE := Lib.hid (show b = false from by rw [HB.out]; simp [smallB, h1])
    go_enter Tryd.func43, Tryd.ntmps43
    go_wp2_with fail
    go_ret
    exact ⟨ret_bool HE.out.symm, rfl⟩
theorem digit_any (r : Int) (w : World) : Calls Tryd.prog 59 #[.int .i32 r] w fun e w' => e = .returned (.bool (digitB r)) ∧ w = w' := by
  obtain ⟨b, hb⟩ : ∃ b, b = digitB r := ⟨_, rfl⟩
  rw [← hb]
  have HB := Lib.hid hb
  clear hb
  by_cases h1 : 48 ≤ r
  · by_cases h2 : r ≤ 57
    · have HE := Lib.hid (show b = true from by rw [HB.out]; simp [digitB, h1, h2])
      go_enter Tryd.func59, Tryd.ntmps59
      go_wp2_with fail
      go_ret
      exact ⟨ret_bool HE.out.symm, rfl⟩
    · have h2d : decide (r ≤ 57) = false := by simpa using h2
      have HE := Lib.hid (show b = false from by rw [HB.out]; simp [digitB, h1, h2])
      go_enter Tryd.func59, Tryd.ntmps59
      go_wp2_with fail
      go_ret
      exact ⟨ret_bool HE.out.symm, rfl⟩
  · have h1d : decide (48 ≤ r) = false := by simpa using h1
    have HE := Lib.hid (show b = false from by rw [HB.out]; simp [digitB, h1])
    go_enter Tryd.func59, Tryd.ntmps59
    go_wp2_with fail
    go_ret
    exact ⟨ret_bool HE.out.symm, rfl⟩
theorem named_any (r : Int) (w : World) : Calls Tryd.prog 40 #[.int .i32 r] w fun e w' => e = .returned (.bool (namedB r)) ∧ w = w' := by
  by_cases h1 : r = 955
  · subst h1
    go_enter Tryd.func40, Tryd.ntmps40
    go_wp2_with fail
    go_ret
    exact ⟨rfl, rfl⟩
  · have q1 : (r == 955) = false := by simpa using h1
    have HE := Lib.hid (show (r == 960) = namedB r from by unfold namedB; rw [q1]; rfl)
    clear h1
    go_enter Tryd.func40, Tryd.ntmps40
    go_wp2_with fail
    go_ret
    exact ⟨ret_bool HE.out, rfl⟩
set_option maxHeartbeats 1000000 in
set_option maxRecDepth 100000 in
theorem valid_any (r : Int) (w : World) : Calls Tryd.prog 44 #[.int .i32 r] w fun e w' => e = .returned (.bool (validB r)) ∧ w = w' := by
  obtain ⟨b, hb⟩ : ∃ b, b = validB r := ⟨_, rfl⟩
  rw [← hb]
  have HB := Lib.hid hb
  clear hb
  rcases Int.lt_or_le r 0 with h | h
  · have d1 : decide (0 ≤ r) = false := by simp; omega
    have d2 : decide (57343 < r) = false := by simp; omega
    have HE := Lib.hid (show b = false from by rw [HB.out]; simp [validB]; omega)
    go_enter Tryd.func44, Tryd.ntmps44
    go_wp2_with fail
    go_ret
    exact ⟨ret_bool HE.out.symm, rfl⟩
  · rcases Int.lt_or_le r 55296 with h2 | h2
    · skip
      have HE := Lib.hid (show b = true from by rw [HB.out]; simp [validB]; omega)
      go_enter Tryd.func44, Tryd.ntmps44
      go_wp2_with fail
      go_ret
      exact ⟨ret_bool HE.out.symm, rfl⟩
    · have d1 : decide (r < 55296) = false := by simp; omega
      rcases Int.lt_or_le 57343 r with h3 | h3
      · rcases Int.lt_or_le 1114111 r with h4 | h4
        · have d2 : decide (r ≤ 1114111) = false := by simp; omega
          have HE := Lib.hid (show b = false from by rw [HB.out]; simp [validB]; omega)
          go_enter Tryd.func44, Tryd.ntmps44
          go_wp2_with fail
          go_ret
          exact ⟨ret_bool HE.out.symm, rfl⟩
        · skip
          have HE := Lib.hid (show b = true from by rw [HB.out]; simp [validB]; omega)
          go_enter Tryd.func44, Tryd.ntmps44
          go_wp2_with fail
          go_ret
          exact ⟨ret_bool HE.out.symm, rfl⟩
      · have d2 : decide (57343 < r) = false := by simp; omega
        have HE := Lib.hid (show b = false from by rw [HB.out]; simp [validB]; omega)
        go_enter Tryd.func44, Tryd.ntmps44
        go_wp2_with fail
        go_ret
        exact ⟨ret_bool HE.out.symm, rfl⟩
theorem name_small {r : Int} (h : smallB r = true) : nameB r = true := by
  unfold smallB at h
  unfold nameB
  rw [h]; rfl
theorem name_valid {r : Int} (h : smallB r = false) (h2 : 255 < r) : nameB r = (validB r && (r != 65533)) := by
  unfold smallB at h
  unfold nameB validB
  rw [h]
  have e1 : decide (255 < r) = true := by simpa using h2
  have e2 : decide (0 ≤ r) = true := by simp; omega
  rw [e1, e2]
  cases hq : (r != 65533) <;> simp
  · rcases Int.lt_or_le r 55296 with h3 | h3
    · have : decide (r ≤ 1114111) = true := by simp; omega
      have : decide (r < 55296) = true := by simp; omega
      simp_all
    · have : decide (r < 55296) = false := by simp; omega
      rw [this]; simp [Bool.and_comm]
theorem name_low {r : Int} (h : smallB r = false) (h2 : ¬ 255 < r) : nameB r = false := by
  unfold smallB at h
  unfold nameB
  have e1 : decide (255 < r) = false := by simpa using h2
  rw [h, e1]; rfl
set_option maxHeartbeats 1000000 in
set_option maxRecDepth 100000 in
theorem gname_any (r : Int) (w : World) : Calls Tryd.prog 22 #[.int .i32 r] w fun e w' => e = .returned (.bool (nameB r)) ∧ w = w' := by
  cases hs : smallB r with
  | true =>
    have HE := Lib.hid (name_small hs)
    have HS := Lib.hid hs
    clear hs
    go_enter Tryd.func22, Tryd.ntmps22
    go_wp2_with fail
    refine (small_any r _).mono ?_
    rw [HS.out]
    rintro e w' ⟨rfl, rfl⟩
    go_wp2_with fail
    go_ret
    exact ⟨ret_bool HE.out.symm, rfl⟩
  | false =>
    by_cases h2 : 255 < r
    · cases hv : validB r with
      | true =>
        have HE := Lib.hid (show (r != 65533) = nameB r from by rw [name_valid hs h2, hv]; rfl)
        have HS := Lib.hid hs
        have HV := Lib.hid hv
        clear hs hv
        go_enter Tryd.func22, Tryd.ntmps22
        go_wp2_with fail
        refine (small_any r _).mono ?_
        rw [HS.out]
        rintro e w' ⟨rfl, rfl⟩
        go_wp2_with fail
        refine (valid_any r _).mono ?_
        rw [HV.out]
        rintro e w' ⟨rfl, rfl⟩
        go_wp2_with fail
        go_ret
        exact ⟨ret_bool HE.out, rfl⟩
      | false =>
        have HE := Lib.hid (show nameB r = false from by rw [name_valid hs h2, hv]; rfl)
        have HS := Lib.hid hs
        have HV := Lib.hid hv
        clear hs hv
        go_enter Tryd.func22, Tryd.ntmps22
        go_wp2_with fail
        refine (small_any r _).mono ?_
        rw [HS.out]
        rintro e w' ⟨rfl, rfl⟩
        go_wp2_with fail
        refine (valid_any r _).mono ?_
        rw [HV.out]
        rintro e w' ⟨rfl, rfl⟩
        go_wp2_with fail
        go_ret
        exact ⟨ret_bool HE.out.symm, rfl⟩
    · have HE := Lib.hid (name_low hs h2)
      have HS := Lib.hid hs
      have d2 : decide (255 < r) = false := by simpa using h2
      clear hs h2
      go_enter Tryd.func22, Tryd.ntmps22
      go_wp2_with fail
      refine (small_any r _).mono ?_
      rw [HS.out]
      rintro e w' ⟨rfl, rfl⟩
      go_wp2_with fail
      go_ret
      exact ⟨ret_bool HE.out.symm, rfl⟩
end Go.Proofs.YtodbeeodhekpeaaDoor
