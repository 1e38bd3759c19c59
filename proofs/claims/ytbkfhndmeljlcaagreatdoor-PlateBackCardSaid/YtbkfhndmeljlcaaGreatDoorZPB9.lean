/-
  PB: EndOk, MdRunes, Gl1, Gl2, GlPure, MdToks.
-/
import Derived.Test.YtbkfhndmeljlcaaGreatDoorZPB6
import Derived.Test.YtbkfhndmeljlcaaGreatDoorZPB7
import Derived.Test.YtbkfhndmeljlcaaGreatDoorZPB8
import Derived.Lib.DecodeN
import Derived.Lib.MapLaws
import Derived.Lib.FieldsU
namespace Go.Proofs.YtbkfhndmeljlcaaGreatDoor
open Go.RowKit
def okRev : List UInt8 → Bool
  | [] => false
  | b :: r => if b = 59 then okRev r else b != 58 && b != 93 && b != 126 && b != 161 && b != 32
def EndOk (s : ByteArray) : Prop := okRev s.data.toList.reverse = true
theorem okRev_add : ∀ (x y : List UInt8), okRev x = true → okRev (x ++ y) = true
  | [], _, h => by cases h
  | b :: r, y, h => by
    rw [List.cons_append, okRev]
    rw [okRev] at h
    by_cases hb : b = 59
    · rw [if_pos hb] at h ⊢; exact okRev_add r y h
    · rw [if_neg hb] at h ⊢; exact h
theorem data_app (a b : ByteArray) : (a ++ b).data.toList = a.data.toList ++ b.data.toList := by rw [ByteArray.data_append, Array.toList_append]
theorem EndOk.app (a : ByteArray) {b : ByteArray} (h : EndOk b) : EndOk (a ++ b) := by
  unfold EndOk at h ⊢
  rw [data_app, List.reverse_append]
  exact okRev_add _ _ h
end Go.Proofs.YtbkfhndmeljlcaaGreatDoor
namespace Go.Proofs.YtbkfhndmeljlcaaGreatDoor
open Go.RowKit
open Go.Lib
theorem get_out (s : ByteArray) (i : Nat) (h : s.size ≤ i) : s.get! i = 0 := by
  have h1 : s.data.size ≤ i := h
  show s.data[i]! = 0
  rw [getElem!_neg]
  · rfl
  · omega
theorem get_app_right (a t : ByteArray) (i : Nat) : (a ++ t).get! (a.size + i) = t.get! i := by
  by_cases h : i < t.size
  · have h1 : a.size + i < (a ++ t).size := by rw [ByteArray.size_append']; omega
    have e1 := get_at (a ++ t) (a.size + i) h1
    have e2 := get_at t i h
    rw [Nat.add_zero] at e1 e2
    rw [e1, e2, ByteArray.getElem_append_right (by omega)]
    congr 1
    omega
  · rw [get_out _ _ (by rw [ByteArray.size_append']; omega), get_out _ _ (by omega)]
theorem decode_shift (a t : ByteArray) (p : Nat) : Utf8.decode (a ++ t) (a.size + p) = Utf8.decode t p := by
  rw [decode_at, decode_at, ByteArray.size_append', show a.size + t.size - (a.size + p) = t.size - p from by omega,
    get_app_right, Nat.add_assoc a.size p 1, get_app_right, Nat.add_assoc a.size p 2, get_app_right, Nat.add_assoc a.size p 3, get_app_right]
theorem runesAt_shift (a t : ByteArray) : ∀ (f p : Nat), runesAt (a ++ t) f (a.size + p) = runesAt t f p
  | 0, _ => rfl
  | f + 1, p => by
    rw [runesAt, runesAt, decode_shift]
    by_cases h : p < t.size
    · rw [if_pos h, if_pos (by rw [ByteArray.size_append']; omega), Nat.add_assoc, runesAt_shift a t f _]
    · rw [if_neg h, if_neg (by rw [ByteArray.size_append']; omega)]
end Go.Proofs.YtbkfhndmeljlcaaGreatDoor
namespace Go.Proofs.YtbkfhndmeljlcaaGreatDoor
open Go.RowKit
def smallB (r : Int) : Bool := decide (97 ≤ r) && decide (r ≤ 122)
def digitB (r : Int) : Bool := decide (48 ≤ r) && decide (r ≤ 57)
def namedB (r : Int) : Bool := (r == 955) || (r == 960)
def validB (r : Int) : Bool := (decide (0 ≤ r) && decide (r < 55296)) || (decide (57343 < r) && decide (r ≤ 1114111))
theorem small_any (r : Int) (w : World) : Calls Tryz.prog 106 #[.int .i32 r] w fun e w' => e = .returned (.bool (smallB r)) ∧ w = w' := by
  obtain ⟨b, hb⟩ : ∃ b, b = smallB r := ⟨_, rfl⟩
  rw [← hb]
  have HB := Lib.hid hb
  clear hb
  by_cases h1 : 97 ≤ r
  · by_cases h2 : r ≤ 122
    · have HE := Lib.hid (show b = true from by rw [HB.out]; simp [smallB, h1, h2])
      go_enter Tryz.func106, Tryz.ntmps106
      go_wp2_with fail
      go_ret
      exact ⟨ret_bool HE.out.symm, rfl⟩
    · have h2d : decide (r ≤ 122) = false := by simpa using h2
      have HE := Lib.hid (show b = false from by rw [HB.out]; simp [smallB, h1, h2])
      go_enter Tryz.func106, Tryz.ntmps106
      go_wp2_with fail
      go_ret
      exact ⟨ret_bool HE.out.symm, rfl⟩
  · have h1d : decide (97 ≤ r) = false := by simpa using h1
    have HE := Lib.hid (show b = false from by rw [HB.out]; simp [smallB, h1])
    go_enter Tryz.func106, Tryz.ntmps106
    go_wp2_with fail
    go_ret
    exact ⟨ret_bool HE.out.symm, rfl⟩
theorem digit_any (r : Int) (w : World) : Calls Tryz.prog 112 #[.int .i32 r] w fun e w' => e = .returned (.bool (digitB r)) ∧ w = w' := by
  obtain ⟨b, hb⟩ : ∃ b, b = digitB r := ⟨_, rfl⟩
  rw [← hb]
  have HB := Lib.hid hb
  clear hb
  by_cases h1 : 48 ≤ r
  · by_cases h2 : r ≤ 57
    · have HE := Lib.hid (show b = true from by rw [HB.out]; simp [digitB, h1, h2])
      go_enter Tryz.func112, Tryz.ntmps112
      go_wp2_with fail
      go_ret
      exact ⟨ret_bool HE.out.symm, rfl⟩
    · have h2d : decide (r ≤ 57) = false := by simpa using h2
      have HE := Lib.hid (show b = false from by rw [HB.out]; simp [digitB, h1, h2])
      go_enter Tryz.func112, Tryz.ntmps112
      go_wp2_with fail
      go_ret
      exact ⟨ret_bool HE.out.symm, rfl⟩
  · have h1d : decide (48 ≤ r) = false := by simpa using h1
    have HE := Lib.hid (show b = false from by rw [HB.out]; simp [digitB, h1])
    go_enter Tryz.func112, Tryz.ntmps112
    go_wp2_with fail
    go_ret
    exact ⟨ret_bool HE.out.symm, rfl⟩
theorem named_any (r : Int) (w : World) : Calls Tryz.prog 92 #[.int .i32 r] w fun e w' => e = .returned (.bool (namedB r)) ∧ w = w' := by
  by_cases h1 : r = 955
  · subst h1
    go_enter Tryz.func92, Tryz.ntmps92
    go_wp2_with fail
    go_ret
    exact ⟨rfl, rfl⟩
  · have q1 : (r == 955) = false := by simpa using h1
    have HE := Lib.hid (show (r == 960) = namedB r from by unfold namedB; rw [q1]; rfl)
    clear h1
    go_enter Tryz.func92, Tryz.ntmps92
    go_wp2_with fail
    go_ret
    exact ⟨ret_bool HE.out, rfl⟩
set_option maxHeartbeats 1000000 in
set_option maxRecDepth 100000 in
theorem valid_any (r : Int) (w : World) : Calls Tryz.prog 107 #[.int .i32 r] w fun e w' => e = .returned (.bool (validB r)) ∧ w = w' := by
  obtain ⟨b, hb⟩ : ∃ b, b = validB r := ⟨_, rfl⟩
  rw [← hb]
  have HB := Lib.hid hb
  clear hb
  rcases Int.lt_or_le r 0 with h | h
  · have d1 : decide (0 ≤ r) = false := by simp; omega
    have d2 : decide (57343 < r) = false := by simp; omega
    have HE := Lib.hid (show b = false from by rw [HB.out]; simp [validB]; omega)
    go_enter Tryz.func107, Tryz.ntmps107
    go_wp2_with fail
    go_ret
    exact ⟨ret_bool HE.out.symm, rfl⟩
  · rcases Int.lt_or_le r 55296 with h2 | h2
    · skip
      have HE := Lib.hid (show b = true from by rw [HB.out]; simp [validB]; omega)
      go_enter Tryz.func107, Tryz.ntmps107
      go_wp2_with fail
      go_ret
      exact ⟨ret_bool HE.out.symm, rfl⟩
    · have d1 : decide (r < 55296) = false := by simp; omega
      rcases Int.lt_or_le 57343 r with h3 | h3
      · rcases Int.lt_or_le 1114111 r with h4 | h4
        · have d2 : decide (r ≤ 1114111) = false := by simp; omega
          have HE := Lib.hid (show b = false from by rw [HB.out]; simp [validB]; omega)
          go_enter Tryz.func107, Tryz.ntmps107
          go_wp2_with fail
          go_ret
          exact ⟨ret_bool HE.out.symm, rfl⟩
        · skip
          have HE := Lib.hid (show b = true from by rw [HB.out]; simp [validB]; omega)
          go_enter Tryz.func107, Tryz.ntmps107
          go_wp2_with fail
          go_ret
          exact ⟨ret_bool HE.out.symm, rfl⟩
      · have d2 : decide (57343 < r) = false := by simp; omega
        have HE := Lib.hid (show b = false from by rw [HB.out]; simp [validB]; omega)
        go_enter Tryz.func107, Tryz.ntmps107
        go_wp2_with fail
        go_ret
        exact ⟨ret_bool HE.out.symm, rfl⟩
theorem name_small {r : Int} (h : smallB r = true) : nameB r = true := by
  unfold smallB at h
  unfold nameB
  rw [h]; rfl
theorem name_valid {r : Int} (h : smallB r = false) (h2 : 255 < r) : nameB r = (validB r && (r != 65533)) := by
  unfold smallB at h
  unfold nameB validB
  rw [h]
  have e1 : decide (255 < r) = true := by simpa using h2
  have e2 : decide (0 ≤ r) = true := by simp; omega
  rw [e1, e2]
  cases hq : (r != 65533) <;> simp
  · rcases Int.lt_or_le r 55296 with h3 | h3
    · have : decide (r ≤ 1114111) = true := by simp; omega
      have : decide (r < 55296) = true := by simp; omega
      simp_all
    · have : decide (r < 55296) = false := by simp; omega
      rw [this]; simp [Bool.and_comm]
theorem name_low {r : Int} (h : smallB r = false) (h2 : ¬ 255 < r) : nameB r = false := by
  unfold smallB at h
  unfold nameB
  have e1 : decide (255 < r) = false := by simpa using h2
  rw [h, e1]; rfl
set_option maxHeartbeats 1000000 in
set_option maxRecDepth 100000 in
theorem gname_any (r : Int) (w : World) : Calls Tryz.prog 81 #[.int .i32 r] w fun e w' => e = .returned (.bool (nameB r)) ∧ w = w' := by
  cases hs : smallB r with
  | true =>
    have HE := Lib.hid (name_small hs)
    have HS := Lib.hid hs
    clear hs
    go_enter Tryz.func81, Tryz.ntmps81
    go_wp2_with fail
    refine (small_any r _).mono ?_
    rw [HS.out]
    rintro e w' ⟨rfl, rfl⟩
    go_wp2_with fail
    go_ret
    exact ⟨ret_bool HE.out.symm, rfl⟩
  | false =>
    by_cases h2 : 255 < r
    · cases hv : validB r with
      | true =>
        have HE := Lib.hid (show (r != 65533) = nameB r from by rw [name_valid hs h2, hv]; rfl)
        have HS := Lib.hid hs
        have HV := Lib.hid hv
        clear hs hv
        go_enter Tryz.func81, Tryz.ntmps81
        go_wp2_with fail
        refine (small_any r _).mono ?_
        rw [HS.out]
        rintro e w' ⟨rfl, rfl⟩
        go_wp2_with fail
        refine (valid_any r _).mono ?_
        rw [HV.out]
        rintro e w' ⟨rfl, rfl⟩
        go_wp2_with fail
        go_ret
        exact ⟨ret_bool HE.out, rfl⟩
      | false =>
        have HE := Lib.hid (show nameB r = false from by rw [name_valid hs h2, hv]; rfl)
        have HS := Lib.hid hs
        have HV := Lib.hid hv
        clear hs hv
        go_enter Tryz.func81, Tryz.ntmps81
        go_wp2_with fail
        refine (small_any r _).mono ?_
        rw [HS.out]
        rintro e w' ⟨rfl, rfl⟩
        go_wp2_with fail
        refine (valid_any r _).mono ?_
        rw [HV.out]
        rintro e w' ⟨rfl, rfl⟩
        go_wp2_with fail
        go_ret
        exact ⟨ret_bool HE.out.symm, rfl⟩
    · have HE := Lib.hid (name_low hs h2)
      have HS := Lib.hid hs
      have d2 : decide (255 < r) = false := by simpa using h2
      clear hs h2
      go_enter Tryz.func81, Tryz.ntmps81
      go_wp2_with fail
      refine (small_any r _).mono ?_
      rw [HS.out]
      rintro e w' ⟨rfl, rfl⟩
      go_wp2_with fail
      go_ret
      exact ⟨ret_bool HE.out.symm, rfl⟩
end Go.Proofs.YtbkfhndmeljlcaaGreatDoor
namespace Go.Proofs.YtbkfhndmeljlcaaGreatDoor
open Go.RowKit
def signAt (f pos : Nat) (r : Int) : Bool := (runesAt signS f pos).any fun x => (x : Int) == r
theorem sign_at0 (r : Int) : signAt signS.size 0 r = signL.any fun x => (x : Int) == r := by
  unfold signAt
  rw [show runesAt signS signS.size 0 = runesL signS from rfl, sign_runes]
set_option maxHeartbeats 4000000 in
set_option maxRecDepth 100000 in
theorem gsign_walk (r : Int) (w : World) (h1 : smallB r = false) (h2 : (decide (65 ≤ r) && decide (r ≤ 90)) = false) : Calls Tryz.prog 91 #[.int .i32 r] w (BoolPost (signL.any fun x => (x : Int) == r) w) := by
  have hpick : decide (65 ≤ r) = false ∨ (decide (65 ≤ r) = true ∧ decide (r ≤ 90) = false) := by
    cases hq : decide (65 ≤ r) with
    | false => exact .inl rfl
    | true => rw [hq] at h2; exact .inr ⟨rfl, by simpa using h2⟩
  have HB := Lib.hid (sign_at0 r)
  generalize (signL.any fun x => (x : Int) == r) = b at HB ⊢
  obtain ⟨s, hs⟩ : ∃ s : ByteArray, s = ⟨#[43, 45, 42, 47, 37, 38, 124, 94, 60, 61, 33, 46, 44, 64, 36, 35, 63, 58, 59, 91, 93, 126, 194, 171, 194, 187, 194, 169, 194, 174, 194, 164, 194, 161, 206, 187, 207, 128]⟩ := ⟨_, rfl⟩
  have HSS := Lib.hid (show signS = s from hs.symm)
  have HS := Lib.hid hs
  have H1 := Lib.hid h1
  have hss : s.size = 38 := by rw [hs]; rfl
  have HZ := Lib.hid hss
  clear hs h1 h2 hss
  rcases hpick with hp | ⟨hp, hp2⟩
  all_goals
    go_enter Tryz.func91, Tryz.ntmps91
    go_wp2_with fail
    refine (small_any r _).mono ?_
    rw [H1.out]
    rintro e w' ⟨rfl, rfl⟩
    go_upto_region 4 with fail
    rw [← HS.out]
    have hI : (w.iter s 0).heap[w.heap.size]? = some (.stringIter s 0) := World.iter_heap w s 0
    have hc0 : Chg [] w (w.iter s 0) := (Chg.refl [] w).alloc _
    obtain ⟨kI, hkI⟩ : ∃ k, k = w.heap.size := ⟨_, rfl⟩
    rw [← hkI] at hI ⊢
    generalize w.iter s 0 = w1 at hI hc0 ⊢
    have HI := Lib.hid hI
    have HC0 := Lib.hid hc0
    have HK := Lib.hid hkI
    clear hI hc0 hkI
    go_loopw [4] (fun _ wr => (∃ pos f, Hid (wr.heap[kI]? = some (.stringIter s pos)) ∧ s.size - pos ≤ f ∧ Hid (b = signAt f pos r)) ∧ Hid (Chg [kI] w1 wr)) (fun _ wr => s.size - wr.iterPos kI)
    case atStart => exact ⟨⟨0, s.size, HI, by omega, Lib.hid (by rw [← HSS.out]; exact HB.out.symm)⟩, Lib.hid (Chg.refl _ _)⟩
    case round =>
      obtain ⟨⟨pos, f, HIr, hf, HR⟩, HCr⟩ := hrel
      have HCZ := Lib.hid (fun (W : World) (hW : Chg [kI] w1 W) => show Chg [] w W from HC0.out.then_ hW (fun i hi hl => by have := HK.out; simp only [List.mem_cons, List.not_mem_nil, or_false] at hi; omega))
      by_cases hlt : pos < s.size
      · obtain ⟨f', rfl⟩ : ∃ f', f = f' + 1 := ⟨f - 1, by omega⟩
        have hnx := fun ty => Lib.run_next_any_at (P := Tryz.prog) wr kI s pos ty HIr.out hlt
        go_upto_region 6 with fail
        obtain ⟨d, hd⟩ : ∃ d, d = (Utf8.decode s pos).2 := ⟨_, rfl⟩
        obtain ⟨x, hx⟩ : ∃ r, r = (Utf8.decode s pos).1 := ⟨_, rfl⟩
        have hw := width_pos s pos hlt
        rw [← hd] at hw
        have HR2 := Lib.hid (show b = (((x : Int) == r) || signAt f' (pos + d) r) from by rw [HR.out]; unfold signAt; rw [HSS.out, runesAt, if_pos hlt, ← hd, ← hx]; simp)
        have HI2 := Lib.hid (Lib.iterAt_heap wr kI s pos (pos + d) HIr.out)
        have HC2 := Lib.hid (show Chg [kI] w1 (wr.iterAt kI s (pos + d)) from HCr.out.trans ⟨rfl, rfl, rfl, by rw [Lib.iterAt_size]; exact Nat.le_refl _, fun i _ hn => Lib.iterAt_other wr kI i s (pos + d) (by simpa using hn)⟩)
        rw [← hd, ← hx]
        have HMP := Lib.hid (show wr.iterPos kI = pos from by unfold World.iterPos; rw [HIr.out])
        have HP2 := Lib.hid (show (wr.iterAt kI s (pos + d)).iterPos kI = pos + d from by unfold World.iterPos; rw [HI2.out])
        generalize wr.iterAt kI s (pos + d) = w3 at HI2 HC2 HP2 ⊢
        clear hx hd hnx
        by_cases hxr : (x : Int) = r
        · have hxd : ((x : Int) == r) = true := by simpa using hxr
          have HPO := Lib.hid (show BoolPost b w (.returned (.bool true)) w3 from ⟨by rw [HR2.out, hxd]; rfl, HCZ.out _ HC2.out⟩)
          clear hxr
          go_wp2_with fail
          go_ret
          exact HPO.out
        · have hxd : ((x : Int) == r) = false := by simpa using hxr
          have HR3 := Lib.hid (show b = signAt f' (pos + d) r from by rw [HR2.out, hxd]; rfl)
          go_wp2_with fail
          go_roundw
          case rel => exact ⟨⟨pos + d, f', HI2, by omega, HR3⟩, HC2⟩
          case measure => rw [HP2.out, HMP.out]; omega
      · have hnx := fun ty => Lib.run_next_end_at (P := Tryz.prog) wr kI s pos ty HIr.out hlt
        have HPO := Lib.hid (show BoolPost b w (.returned (.bool false)) wr from ⟨by rw [HR.out]; unfold signAt; rw [HSS.out]; cases f with
          | zero => simp [runesAt]
          | succ f => rw [runesAt, if_neg hlt]; simp, HCZ.out _ HCr.out⟩)
        go_wp2_with fail
        go_ret
        exact HPO.out
theorem gknown_any (r : Int) (w : World) : Calls Tryz.prog 91 #[.int .i32 r] w (BoolPost (knownB r) w) := by
  cases hs : smallB r with
  | true =>
    have HE := Lib.hid (show knownB r = true from by unfold knownB; unfold smallB at hs; rw [hs]; rfl)
    have HS := Lib.hid hs
    clear hs
    go_enter Tryz.func91, Tryz.ntmps91
    go_wp2_with fail
    refine (small_any r _).mono ?_
    rw [HS.out]
    rintro e w' ⟨rfl, rfl⟩
    go_wp2_with fail
    go_ret
    exact ⟨ret_bool HE.out.symm, Chg.refl _ _⟩
  | false =>
    cases hZ : (decide (65 ≤ r) && decide (r ≤ 90)) with
    | true =>
      have HE := Lib.hid (show knownB r = true from by unfold knownB; rw [hZ]; simp)
      have h3 : 65 ≤ r := by simp at hZ; omega
      have h4 : r ≤ 90 := by simp at hZ; omega
      have HS := Lib.hid hs
      clear hs hZ
      go_enter Tryz.func91, Tryz.ntmps91
      go_wp2_with fail
      refine (small_any r _).mono ?_
      rw [HS.out]
      rintro e w' ⟨rfl, rfl⟩
      go_wp2_with fail
      go_ret
      exact ⟨ret_bool HE.out.symm, Chg.refl _ _⟩
    | false =>
      have h := gsign_walk r w hs hZ
      have e : knownB r = signL.any fun x => (x : Int) == r := by
        unfold knownB
        unfold smallB at hs
        rw [hs, hZ]; simp
      rw [e]
      exact h
end Go.Proofs.YtbkfhndmeljlcaaGreatDoor
namespace Go.Proofs.YtbkfhndmeljlcaaGreatDoor
open Go.RowKit
inductive GPh where
  | idle
  | num (m : Nat)
  | wait (q : Nat)
def pend : GPh → List TkV
  | .idle => []
  | .num m => [⟨48, (m : Int), 0⟩]
  | .wait q => [⟨(q : Int), 0, 0⟩]
def counts : GPh → Bool
  | .num _ => true
  | _ => false
def waits : GPh → Bool
  | .wait _ => true
  | _ => false
def gCount (ys : List TkV) (m x : Nat) : Option (List TkV × GPh) := if (9223372036854775807 - x) / 10 < m then none else some (ys, .num (m * 10 + x))
def gOther (bs : List TkV) (r : Nat) : Option (List TkV × GPh) :=
  if r = 32 then some (bs, .idle) else if knownB (r : Int) = true then (if namedB (r : Int) = true then some (bs, .wait r) else some (bs ++ [⟨(r : Int), 0, 0⟩], .idle)) else none
def gTake (ys : List TkV) : GPh → Nat → Option (List TkV × GPh)
  | .wait q, r => if nameB (r : Int) = true then some (ys ++ [⟨(q : Int), 0, (r : Int)⟩], .idle) else none
  | .num m, r => if 48 ≤ r ∧ r ≤ 57 then gCount ys m (r - 48) else gOther (ys ++ [⟨48, (m : Int), 0⟩]) r
  | .idle, r => if 48 ≤ r ∧ r ≤ 57 then gCount ys 0 (r - 48) else gOther ys r
def gEnd (ys : List TkV) : GPh → Option (List TkV)
  | .idle => some ys
  | .num m => some (ys ++ [⟨48, (m : Int), 0⟩])
  | .wait _ => none
def gRun : List Nat → List TkV → GPh → Option (List TkV)
  | [], ys, ph => gEnd ys ph
  | r :: rs, ys, ph => match gTake ys ph r with
    | none => none
    | some (ys', ph') => gRun rs ys' ph'
theorem gTake_len {ys ys' : List TkV} {ph ph' : GPh} {r : Nat} (h : gTake ys ph r = some (ys', ph')) : ys'.length + (pend ph').length ≤ ys.length + (pend ph).length + 1 := by
  have ho : ∀ bs : List TkV, gOther bs r = some (ys', ph') → ys'.length + (pend ph').length ≤ bs.length + 1 := fun bs h => by
    unfold gOther at h
    split at h
    · injection h with h; injection h with h1 h2; subst h1; subst h2; simp [pend]
    · split at h
      · split at h
        · injection h with h; injection h with h1 h2; subst h1; subst h2; simp [pend]
        · injection h with h; injection h with h1 h2; subst h1; subst h2; simp [pend]
      · cases h
  have hc : ∀ m x, gCount ys m x = some (ys', ph') → ys'.length + (pend ph').length ≤ ys.length + 1 := fun m x h => by
    unfold gCount at h
    split at h
    · cases h
    · injection h with h; injection h with h1 h2; subst h1; subst h2; simp [pend]
  cases ph with
  | wait q =>
    rw [gTake] at h
    split at h
    · injection h with h; injection h with h1 h2; subst h1; subst h2; simp [pend]
    · cases h
  | num m =>
    have e1 : (pend (.num m)).length = 1 := rfl
    rw [gTake] at h
    split at h
    · have := hc _ _ h; omega
    · have := ho _ h; rw [List.length_append, List.length_singleton] at this; omega
  | idle =>
    have e1 : (pend .idle).length = 0 := rfl
    rw [gTake] at h
    split at h
    · have := hc _ _ h; omega
    · have := ho _ h; omega
theorem drop_cons {L rs : List Nat} {i r : Nat} (h : L.drop i = r :: rs) : L[i]? = some r ∧ L.drop (i + 1) = rs := by
  have h1 : L[i]? = (L.drop i)[0]? := by rw [List.getElem?_drop]; rfl
  refine ⟨by rw [h1, h]; rfl, ?_⟩
  have : L.drop (i + 1) = (L.drop i).drop 1 := by rw [List.drop_drop]
  rw [this, h]; rfl
theorem drop_nil {L : List Nat} {i : Nat} (h : L.drop i = []) : L[i]? = none := by
  have := List.drop_eq_nil_iff.1 h
  exact List.getElem?_eq_none this
theorem gRun_num {L : List Nat} : ∀ (rs : List Nat) (i f m : Nat) (ys : List TkV), L.drop i = rs → rs.length ≤ f →
    (numAt L f i m = none ∧ gRun rs ys (.num m) = none) ∨ ∃ m' j, numAt L f i m = some (m', j) ∧ i ≤ j ∧ gRun rs ys (.num m) = gRun (L.drop j) (ys ++ [⟨48, (m' : Int), 0⟩]) .idle
  | [], i, f, m, ys, h, hf => by
    refine .inr ⟨m, i, ?_, Nat.le_refl _, by rw [h]; rfl⟩
    cases f with
    | zero => rfl
    | succ f => rw [numAt, drop_nil h]
  | r :: rs, i, f, m, ys, h, hf => by
    obtain ⟨h1, h2⟩ := drop_cons h
    obtain ⟨f, rfl⟩ : ∃ f', f = f' + 1 := ⟨f - 1, by simp at hf; omega⟩
    rw [numAt, h1]
    simp only
    by_cases hd : 48 ≤ r ∧ r ≤ 57
    · rw [if_pos hd]
      have hg : gTake ys (.num m) r = gCount ys m (r - 48) := by rw [gTake, if_pos hd]
      by_cases hb : (9223372036854775807 - (r - 48)) / 10 < m
      · left
        rw [if_pos hb, gRun, hg]
        unfold gCount
        rw [if_pos hb]
        exact ⟨rfl, rfl⟩
      · rw [if_neg hb, gRun, hg]
        unfold gCount
        rw [if_neg hb]
        simp only
        rcases gRun_num rs (i + 1) f (m * 10 + (r - 48)) ys h2 (by simp at hf; omega) with h3 | ⟨m', j, h3, h4, h5⟩
        · exact .inl h3
        · exact .inr ⟨m', j, h3, by omega, h5⟩
    · rw [if_neg hd]
      refine .inr ⟨m, i, rfl, Nat.le_refl _, ?_⟩
      rw [h, gRun, gRun]
      have e : gTake ys (.num m) r = gTake (ys ++ [⟨48, (m : Int), 0⟩]) .idle r := by
        rw [gTake, gTake, if_neg hd, if_neg hd]
      rw [e]
theorem named_iff (r : Nat) : namedB (r : Int) = true ↔ r = 955 ∨ r = 960 := by unfold namedB; simp; omega
theorem gRun_tok {L : List Nat} : ∀ (k : Nat) (i f : Nat) (ys : List TkV), L.length - i ≤ k → L.length - i < f → gRun (L.drop i) ys .idle = tokAt L f i ys
  | k, i, f, ys, hk, hf => by
    obtain ⟨f, rfl⟩ : ∃ f', f = f' + 1 := ⟨f - 1, by omega⟩
    rw [tokAt]
    cases hr : L.drop i with
    | nil => rw [drop_nil hr]; rfl
    | cons r rs =>
      obtain ⟨h1, h2⟩ := drop_cons hr
      have hil : i < L.length := (List.getElem?_eq_some_iff.1 h1).1
      have hrl : rs.length = L.length - (i + 1) := by rw [← h2, List.length_drop]
      obtain ⟨k, rfl⟩ : ∃ k', k = k' + 1 := ⟨k - 1, by omega⟩
      rw [h1]
      simp only
      rw [gRun]
      by_cases h32 : r = 32
      · subst h32
        rw [if_pos rfl, show gTake ys .idle 32 = some (ys, .idle) from rfl]
        simp only
        rw [← h2]
        exact gRun_tok k (i + 1) f ys (by omega) (by omega)
      rw [if_neg h32]
      by_cases hd : 48 ≤ r ∧ r ≤ 57
      · rw [if_pos hd]
        have hg : gTake ys .idle r = some (ys, .num (r - 48)) := by
          rw [gTake, if_pos hd]
          unfold gCount
          rw [if_neg (by omega)]
          simp
        have hn : numAt L L.length i 0 = numAt L (L.length - 1) (i + 1) (r - 48) := by
          obtain ⟨n, hn⟩ : ∃ n, L.length = n + 1 := ⟨L.length - 1, by omega⟩
          rw [hn, numAt, h1]
          simp only
          rw [if_pos hd, if_neg (by omega)]
          simp
        rw [hg, hn]
        simp only
        rcases gRun_num rs (i + 1) (L.length - 1) (r - 48) ys h2 (by omega) with ⟨h3, h4⟩ | ⟨m', j, h3, h4, h5⟩
        · rw [h3, h4]
        · rw [h3, h5]
          exact gRun_tok k j f _ (by omega) (by omega)
      rw [if_neg hd]
      have hgo : gTake ys .idle r = gOther ys r := by rw [gTake, if_neg hd]
      rw [hgo]
      unfold gOther
      rw [if_neg h32]
      by_cases hnm : r = 955 ∨ r = 960
      · rw [if_pos hnm]
        have hk : knownB (r : Int) = true := by rcases hnm with rfl | rfl <;> decide
        rw [if_pos hk, if_pos ((named_iff r).2 hnm)]
        simp only
        cases hrs : rs with
        | nil =>
          rw [hrs] at h2
          rw [drop_nil h2]
          rfl
        | cons x xs =>
          rw [hrs] at h2
          obtain ⟨h3, h4⟩ := drop_cons h2
          rw [h3]
          simp only
          rw [gRun]
          by_cases hnx : nameB (x : Int) = true
          · rw [if_pos hnx, show gTake ys (.wait r) x = some (ys ++ [⟨(r : Int), 0, (x : Int)⟩], .idle) from by rw [gTake, if_pos hnx]]
            simp only
            rw [← h4]
            exact gRun_tok k (i + 2) f _ (by omega) (by omega)
          · rw [if_neg hnx, show gTake ys (.wait r) x = none from by rw [gTake, if_neg hnx]]
      · rw [if_neg hnm]
        by_cases hk : knownB (r : Int) = true
        · rw [if_pos hk, if_pos hk, if_neg (fun h => hnm ((named_iff r).1 h))]
          simp only
          rw [← h2]
          exact gRun_tok k (i + 1) f _ (by omega) (by omega)
        · rw [if_neg hk, if_neg hk]
theorem gRun_is (s : ByteArray) (h : ¬ 512 < s.size) : tokR s = gRun (runesL s) [] .idle := by
  unfold tokR
  rw [if_neg h]
  have := gRun_tok (L := runesL s) (runesL s).length 0 ((runesL s).length + 1) [] (by omega) (by omega)
  rw [List.drop_zero] at this
  exact this.symm
end Go.Proofs.YtbkfhndmeljlcaaGreatDoor
namespace Go.Proofs.YtbkfhndmeljlcaaGreatDoor
open Go.RowKit
/-- Rune by rune, without the end. -/
def gSt : List Nat → List TkV → GPh → Option (List TkV × GPh)
  | [], ys, ph => some (ys, ph)
  | r :: rs, ys, ph => match gTake ys ph r with
    | none => none
    | some (ys', ph') => gSt rs ys' ph'
theorem gSt_app : ∀ (a b : List Nat) (ys : List TkV) (ph : GPh), gSt (a ++ b) ys ph = (gSt a ys ph).bind fun q => gSt b q.1 q.2
  | [], b, ys, ph => rfl
  | r :: a, b, ys, ph => by
    rw [List.cons_append, gSt, gSt]
    cases gTake ys ph r with
    | none => rfl
    | some q => exact gSt_app a b q.1 q.2
theorem gRun_st : ∀ (a : List Nat) (ys : List TkV) (ph : GPh), gRun a ys ph = (gSt a ys ph).bind fun q => gEnd q.1 q.2
  | [], ys, ph => rfl
  | r :: a, ys, ph => by
    rw [gRun, gSt]
    cases gTake ys ph r with
    | none => rfl
    | some q => exact gRun_st a q.1 q.2
theorem gTake_mark {ys : List TkV} {ph : GPh} {ts : List TkV} (h : gEnd ys ph = some ts) (r : Nat) (hr : ¬ (48 ≤ r ∧ r ≤ 57)) : gTake ys ph r = gOther ts r := by
  cases ph with
  | wait q => cases h
  | num m =>
    rw [gEnd] at h
    injection h with h
    rw [gTake, if_neg hr, h]
  | idle =>
    rw [gEnd] at h
    injection h with h
    rw [gTake, if_neg hr, h]
end Go.Proofs.YtbkfhndmeljlcaaGreatDoor
