/-
  PN: Gl1, Gl2.
-/
import Derived.Test.YtbkfhndmeljlcaaGreatDoorZPN7
namespace Go.Proofs.YtbkfhndmeljlcaaGreatDoor
open Go.RowKit
def smallB (r : Int) : Bool := decide (97 ≤ r) && decide (r ≤ 122)
def digitB (r : Int) : Bool := decide (48 ≤ r) && decide (r ≤ 57)
def namedB (r : Int) : Bool := (r == 955) || (r == 960)
def validB (r : Int) : Bool := (decide (0 ≤ r) && decide (r < 55296)) || (decide (57343 < r) && decide (r ≤ 1114111))
theorem small_any (r : Int) (w : World) : Calls Tryz.prog 106 #[.int .i32 r] w fun e w' => e = .returned (.bool (smallB r)) ∧ w = w' := by
  obtain ⟨b, hb⟩ : ∃ b, b = smallB r := ⟨_, rfl⟩
  rw [← hb]
  have HB := Lib.hid hb
  clear hb
  by_cases h1 : 97 ≤ r
  · by_cases h2 : r ≤ 122
    · have HE := Lib.hid (show b = true from by rw [HB.out]; simp [smallB, h1, h2])
      go_enter Tryz.func106, Tryz.ntmps106
      go_wp2_with fail
      go_ret
      exact ⟨ret_bool HE.out.symm, rfl⟩
    · have h2d : decide (r ≤ 122) = false := by simpa using h2
      have HE := Lib.hid (show b = false from by rw [HB.out]; simp [smallB, h1, h2])
      go_enter Tryz.func106, Tryz.ntmps106
      go_wp2_with fail
      go_ret
      exact ⟨ret_bool HE.out.symm, rfl⟩
  · have h1d : decide (97 ≤ r) = false := by simpa using h1
    have HE := Lib.hid (show b = false from by rw [HB.out]; simp [smallB, h1])
    go_enter Tryz.func106, Tryz.ntmps106
    go_wp2_with fail
    go_ret
    exact ⟨ret_bool HE.out.symm, rfl⟩
theorem digit_any (r : Int) (w : World) : Calls Tryz.prog 112 #[.int .i32 r] w fun e w' => e = .returned (.bool (digitB r)) ∧ w = w' := by
  obtain ⟨b, hb⟩ : ∃ b, b = digitB r := ⟨_, rfl⟩
  rw [← hb]
  have HB := Lib.hid hb
  clear hb
  by_cases h1 : 48 ≤ r
  · by_cases h2 : r ≤ 57
    · have HE := Lib.hid (show b = true from by rw [HB.out]; simp [digitB, h1, h2])
      go_enter Tryz.func112, Tryz.ntmps112
      go_wp2_with fail
      go_ret
      exact ⟨ret_bool HE.out.symm, rfl⟩
    · have h2d : decide (r ≤ 57) = false := by simpa using h2
      have HE := Lib.hid (show b = false from by rw [HB.out]; simp [digitB, h1, h2])
      go_enter Tryz.func112, Tryz.ntmps112
      go_wp2_with fail
      go_ret
      exact ⟨ret_bool HE.out.symm, rfl⟩
  · have h1d : decide (48 ≤ r) = false := by simpa using h1
    have HE := Lib.hid (show b = false from by rw [HB.out]; simp [digitB, h1])
    go_enter Tryz.func112, Tryz.ntmps112
    go_wp2_with fail
    go_ret
    exact ⟨ret_bool HE.out.symm, rfl⟩
theorem named_any (r : Int) (w : World) : Calls Tryz.prog 92 #[.int .i32 r] w fun e w' => e = .returned (.bool (namedB r)) ∧ w = w' := by
  by_cases h1 : r = 955
  · subst h1
    go_enter Tryz.func92, Tryz.ntmps92
    go_wp2_with fail
    go_ret
    exact ⟨rfl, rfl⟩
  · have q1 : (r == 955) = false := by simpa using h1
    have HE := Lib.hid (show (r == 960) = namedB r from by unfold namedB; rw [q1]; rfl)
    clear h1
    go_enter Tryz.func92, Tryz.ntmps92
    go_wp2_with fail
    go_ret
    exact ⟨ret_bool HE.out, rfl⟩
set_option maxHeartbeats 1000000 in
set_option maxRecDepth 100000 in
theorem valid_any (r : Int) (w : World) : Calls Tryz.prog 107 #[.int .i32 r] w fun e w' => e = .returned (.bool (validB r)) ∧ w = w' := by
  obtain ⟨b, hb⟩ : ∃ b, b = validB r := ⟨_, rfl⟩
  rw [← hb]
  have HB := Lib.hid hb
  clear hb
  rcases Int.lt_or_le r 0 with h | h
  · have d1 : decide (0 ≤ r) = false := by simp; omega
    have d2 : decide (57343 < r) = false := by simp; omega
    have HE := Lib.hid (show b = false from by rw [HB.out]; simp [validB]; omega)
    go_enter Tryz.func107, Tryz.ntmps107
    go_wp2_with fail
    go_ret
    exact ⟨ret_bool HE.out.symm, rfl⟩
  · rcases Int.lt_or_le r 55296 with h2 | h2
    · skip
      have HE := Lib.hid (show b = true from by rw [HB.out]; simp [validB]; omega)
      go_enter Tryz.func107, Tryz.ntmps107
      go_wp2_with fail
      go_ret
      exact ⟨ret_bool HE.out.symm, rfl⟩
    · have d1 : decide (r < 55296) = false := by simp; omega
      rcases Int.lt_or_le 57343 r with h3 | h3
      · rcases Int.lt_or_le 1114111 r with h4 | h4
        · have d2 : decide (r ≤ 1114111) = false := by simp; omega
          have HE := Lib.hid (show b = false from by rw [HB.out]; simp [validB]; omega)
          go_enter Tryz.func107, Tryz.ntmps107
          go_wp2_with fail
          go_ret
          exact ⟨ret_bool HE.out.symm, rfl⟩
        · skip
          have HE := Lib.hid (show b = true from by rw [HB.out]; simp [validB]; omega)
          go_enter Tryz.func107, Tryz.ntmps107
          go_wp2_with fail
          go_ret
          exact ⟨ret_bool HE.out.symm, rfl⟩
      · have d2 : decide (57343 < r) = false := by simp; omega
        have HE := Lib.hid (show b = false from by rw [HB.out]; simp [validB]; omega)
        go_enter Tryz.func107, Tryz.ntmps107
        go_wp2_with fail
        go_ret
        exact ⟨ret_bool HE.out.symm, rfl⟩
theorem name_small {r : Int} (h : smallB r = true) : nameB r = true := by
  unfold smallB at h
  unfold nameB
  rw [h]; rfl
theorem name_valid {r : Int} (h : smallB r = false) (h2 : 255 < r) : nameB r = (validB r && (r != 65533)) := by
  unfold smallB at h
  unfold nameB validB
  rw [h]
  have e1 : decide (255 < r) = true := by simpa using h2
  have e2 : decide (0 ≤ r) = true := by simp; omega
  rw [e1, e2]
  cases hq : (r != 65533) <;> simp
  · rcases Int.lt_or_le r 55296 with h3 | h3
    · have : decide (r ≤ 1114111) = true := by simp; omega
      have : decide (r < 55296) = true := by simp; omega
      simp_all
    · have : decide (r < 55296) = false := by simp; omega
      rw [this]; simp [Bool.and_comm]
theorem name_low {r : Int} (h : smallB r = false) (h2 : ¬ 255 < r) : nameB r = false := by
  unfold smallB at h
  unfold nameB
  have e1 : decide (255 < r) = false := by simpa using h2
  rw [h, e1]; rfl
set_option maxHeartbeats 1000000 in
set_option maxRecDepth 100000 in
theorem gname_any (r : Int) (w : World) : Calls Tryz.prog 81 #[.int .i32 r] w fun e w' => e = .returned (.bool (nameB r)) ∧ w = w' := by
  cases hs : smallB r with
  | true =>
    have HE := Lib.hid (name_small hs)
    have HS := Lib.hid hs
    clear hs
    go_enter Tryz.func81, Tryz.ntmps81
    go_wp2_with fail
    refine (small_any r _).mono ?_
    rw [HS.out]
    rintro e w' ⟨rfl, rfl⟩
    go_wp2_with fail
    go_ret
    exact ⟨ret_bool HE.out.symm, rfl⟩
  | false =>
    by_cases h2 : 255 < r
    · cases hv : validB r with
      | true =>
        have HE := Lib.hid (show (r != 65533) = nameB r from by rw [name_valid hs h2, hv]; rfl)
        have HS := Lib.hid hs
        have HV := Lib.hid hv
        clear hs hv
        go_enter Tryz.func81, Tryz.ntmps81
        go_wp2_with fail
        refine (small_any r _).mono ?_
        rw [HS.out]
        rintro e w' ⟨rfl, rfl⟩
        go_wp2_with fail
        refine (valid_any r _).mono ?_
        rw [HV.out]
        rintro e w' ⟨rfl, rfl⟩
        go_wp2_with fail
        go_ret
        exact ⟨ret_bool HE.out, rfl⟩
      | false =>
        have HE := Lib.hid (show nameB r = false from by rw [name_valid hs h2, hv]; rfl)
        have HS := Lib.hid hs
        have HV := Lib.hid hv
        clear hs hv
        go_enter Tryz.func81, Tryz.ntmps81
        go_wp2_with fail
        refine (small_any r _).mono ?_
        rw [HS.out]
        rintro e w' ⟨rfl, rfl⟩
        go_wp2_with fail
        refine (valid_any r _).mono ?_
        rw [HV.out]
        rintro e w' ⟨rfl, rfl⟩
        go_wp2_with fail
        go_ret
        exact ⟨ret_bool HE.out.symm, rfl⟩
    · have HE := Lib.hid (name_low hs h2)
      have HS := Lib.hid hs
      have d2 : decide (255 < r) = false := by simpa using h2
      clear hs h2
      go_enter Tryz.func81, Tryz.ntmps81
      go_wp2_with fail
      refine (small_any r _).mono ?_
      rw [HS.out]
      rintro e w' ⟨rfl, rfl⟩
      go_wp2_with fail
      go_ret
      exact ⟨ret_bool HE.out.symm, rfl⟩
end Go.Proofs.YtbkfhndmeljlcaaGreatDoor
namespace Go.Proofs.YtbkfhndmeljlcaaGreatDoor
open Go.RowKit
def signAt (f pos : Nat) (r : Int) : Bool := (runesAt signS f pos).any fun x => (x : Int) == r
theorem sign_at0 (r : Int) : signAt signS.size 0 r = signL.any fun x => (x : Int) == r := by
  unfold signAt
  rw [show runesAt signS signS.size 0 = runesL signS from rfl, sign_runes]
set_option maxHeartbeats 4000000 in
set_option maxRecDepth 100000 in
theorem gsign_walk (r : Int) (w : World) (h1 : smallB r = false) (h2 : (decide (65 ≤ r) && decide (r ≤ 90)) = false) : Calls Tryz.prog 91 #[.int .i32 r] w (BoolPost (signL.any fun x => (x : Int) == r) w) := by
  have hpick : decide (65 ≤ r) = false ∨ (decide (65 ≤ r) = true ∧ decide (r ≤ 90) = false) := by
    cases hq : decide (65 ≤ r) with
    | false => exact .inl rfl
    | true => rw [hq] at h2; exact .inr ⟨rfl, by simpa using h2⟩
  have HB := Lib.hid (sign_at0 r)
  generalize (signL.any fun x => (x : Int) == r) = b at HB ⊢
  obtain ⟨s, hs⟩ : ∃ s : ByteArray, s = ⟨#[43, 45, 42, 47, 37, 38, 124, 94, 60, 61, 33, 46, 44, 64, 36, 35, 63, 58, 59, 91, 93, 126, 194, 171, 194, 187, 194, 169, 194, 174, 194, 164, 194, 161, 206, 187, 207, 128]⟩ := ⟨_, rfl⟩
  have HSS := Lib.hid (show signS = s from hs.symm)
  have HS := Lib.hid hs
  have H1 := Lib.hid h1
  have hss : s.size = 38 := by rw [hs]; rfl
  have HZ := Lib.hid hss
  clear hs h1 h2 hss
  rcases hpick with hp | ⟨hp, hp2⟩
  all_goals
    go_enter Tryz.func91, Tryz.ntmps91
    go_wp2_with fail
    refine (small_any r _).mono ?_
    rw [H1.out]
    rintro e w' ⟨rfl, rfl⟩
    go_upto_region 4 with fail
    rw [← HS.out]
    have hI : (w.iter s 0).heap[w.heap.size]? = some (.stringIter s 0) := World.iter_heap w s 0
    have hc0 : Chg [] w (w.iter s 0) := (Chg.refl [] w).alloc _
    obtain ⟨kI, hkI⟩ : ∃ k, k = w.heap.size := ⟨_, rfl⟩
    rw [← hkI] at hI ⊢
    generalize w.iter s 0 = w1 at hI hc0 ⊢
    have HI := Lib.hid hI
    have HC0 := Lib.hid hc0
    have HK := Lib.hid hkI
    clear hI hc0 hkI
    go_loopw [4] (fun _ wr => (∃ pos f, Hid (wr.heap[kI]? = some (.stringIter s pos)) ∧ s.size - pos ≤ f ∧ Hid (b = signAt f pos r)) ∧ Hid (Chg [kI] w1 wr)) (fun _ wr => s.size - wr.iterPos kI)
    case atStart => exact ⟨⟨0, s.size, HI, by omega, Lib.hid (by rw [← HSS.out]; exact HB.out.symm)⟩, Lib.hid (Chg.refl _ _)⟩
    case round =>
      obtain ⟨⟨pos, f, HIr, hf, HR⟩, HCr⟩ := hrel
      have HCZ := Lib.hid (fun (W : World) (hW : Chg [kI] w1 W) => show Chg [] w W from HC0.out.then_ hW (fun i hi hl => by have := HK.out; simp only [List.mem_cons, List.not_mem_nil, or_false] at hi; omega))
      by_cases hlt : pos < s.size
      · obtain ⟨f', rfl⟩ : ∃ f', f = f' + 1 := ⟨f - 1, by omega⟩
        have hnx := fun ty => Lib.run_next_any_at (P := Tryz.prog) wr kI s pos ty HIr.out hlt
        go_upto_region 6 with fail
        obtain ⟨d, hd⟩ : ∃ d, d = (Utf8.decode s pos).2 := ⟨_, rfl⟩
        obtain ⟨x, hx⟩ : ∃ r, r = (Utf8.decode s pos).1 := ⟨_, rfl⟩
        have hw := width_pos s pos hlt
        rw [← hd] at hw
        have HR2 := Lib.hid (show b = (((x : Int) == r) || signAt f' (pos + d) r) from by rw [HR.out]; unfold signAt; rw [HSS.out, runesAt, if_pos hlt, ← hd, ← hx]; simp)
        have HI2 := Lib.hid (Lib.iterAt_heap wr kI s pos (pos + d) HIr.out)
        have HC2 := Lib.hid (show Chg [kI] w1 (wr.iterAt kI s (pos + d)) from HCr.out.trans ⟨rfl, rfl, rfl, by rw [Lib.iterAt_size]; exact Nat.le_refl _, fun i _ hn => Lib.iterAt_other wr kI i s (pos + d) (by simpa using hn)⟩)
        rw [← hd, ← hx]
        have HMP := Lib.hid (show wr.iterPos kI = pos from by unfold World.iterPos; rw [HIr.out])
        have HP2 := Lib.hid (show (wr.iterAt kI s (pos + d)).iterPos kI = pos + d from by unfold World.iterPos; rw [HI2.out])
        generalize wr.iterAt kI s (pos + d) = w3 at HI2 HC2 HP2 ⊢
        clear hx hd hnx
        by_cases hxr : (x : Int) = r
        · have hxd : ((x : Int) == r) = true := by simpa using hxr
          have HPO := Lib.hid (show BoolPost b w (.returned (.bool true)) w3 from ⟨by rw [HR2.out, hxd]; rfl, HCZ.out _ HC2.out⟩)
          clear hxr
          go_wp2_with fail
          go_ret
          exact HPO.out
        · have hxd : ((x : Int) == r) = false := by simpa using hxr
          have HR3 := Lib.hid (show b = signAt f' (pos + d) r from by rw [HR2.out, hxd]; rfl)
          go_wp2_with fail
          go_roundw
          case rel => exact ⟨⟨pos + d, f', HI2, by omega, HR3⟩, HC2⟩
          case measure => rw [HP2.out, HMP.out]; omega
      · have hnx := fun ty => Lib.run_next_end_at (P := Tryz.prog) wr kI s pos ty HIr.out hlt
        have HPO := Lib.hid (show BoolPost b w (.returned (.bool false)) wr from ⟨by rw [HR.out]; unfold signAt; rw [HSS.out]; cases f with
          | zero => simp [runesAt]
          | succ f => rw [runesAt, if_neg hlt]; simp, HCZ.out _ HCr.out⟩)
        go_wp2_with fail
        go_ret
        exact HPO.out
theorem gknown_any (r : Int) (w : World) : Calls Tryz.prog 91 #[.int .i32 r] w (BoolPost (knownB r) w) := by
  cases hs : smallB r with
  | true =>
    have HE := Lib.hid (show knownB r = true from by unfold knownB; unfold smallB at hs; rw [hs]; rfl)
    have HS := Lib.hid hs
    clear hs
    go_enter Tryz.func91, Tryz.ntmps91
    go_wp2_with fail
    refine (small_any r _).mono ?_
    rw [HS.out]
    rintro e w' ⟨rfl, rfl⟩
    go_wp2_with fail
    go_ret
    exact ⟨ret_bool HE.out.symm, Chg.refl _ _⟩
  | false =>
    cases hZ : (decide (65 ≤ r) && decide (r ≤ 90)) with
    | true =>
      have HE := Lib.hid (show knownB r = true from by unfold knownB; rw [hZ]; simp)
      have h3 : 65 ≤ r := by simp at hZ; omega
      have h4 : r ≤ 90 := by simp at hZ; omega
      have HS := Lib.hid hs
      clear hs hZ
      go_enter Tryz.func91, Tryz.ntmps91
      go_wp2_with fail
      refine (small_any r _).mono ?_
      rw [HS.out]
      rintro e w' ⟨rfl, rfl⟩
      go_wp2_with fail
      go_ret
      exact ⟨ret_bool HE.out.symm, Chg.refl _ _⟩
    | false =>
      have h := gsign_walk r w hs hZ
      have e : knownB r = signL.any fun x => (x : Int) == r := by
        unfold knownB
        unfold smallB at hs
        rw [hs, hZ]; simp
      rw [e]
      exact h
end Go.Proofs.YtbkfhndmeljlcaaGreatDoor
