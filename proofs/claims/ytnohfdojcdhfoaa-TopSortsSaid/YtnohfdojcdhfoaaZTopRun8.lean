/-
  TopRun, part 8: NestOf, Gl1, Gl2, GlPure, GlMem, GlTake, GlTok, EgCodes, WkFunc, URight, EgTop0.
-/
import Derived.Test.YtnohfdojcdhfoaaZTopRun1
import Derived.Test.YtnohfdojcdhfoaaZTopRun2
import Derived.Test.YtnohfdojcdhfoaaZTopRun3
import Derived.Test.YtnohfdojcdhfoaaZTopRun4
import Derived.Test.YtnohfdojcdhfoaaZTopRun5
import Derived.Test.YtnohfdojcdhfoaaZTopRun6
import Derived.StillTailTactics
namespace Go.Proofs.Ytnohfdojcdhfoaa
open Go.RowKit
def OfPost8 (n : Nat) (r : Option (List Int × Nat)) (W : World) (e : Ending) (w' : World) : Prop :=
  Chg [] W w' ∧ ((∃ t d g, r = some (t, d) ∧ t.length = n ∧ e = .returned (.tuple #[.slice (some ⟨g, 0, none⟩) n n, .int .i64 0]) ∧ Whole w' g 3 (nms t)) ∨
    (r = none ∧ e = .returned (.tuple #[.slice none 0 0, .int .i64 13])))
def deepI (r : Option (List Int × Nat)) : Int := match r with | some (_, d) => (d : Int) | none => -1
section
variable {W : World} {A : Option Addr} {n c : Nat} {l : List TkV}
set_option maxHeartbeats 1000000 in
theorem nof_any (h : Tks W A n c l) : Calls Try.prog 67 #[.slice A n c] W (OfPost8 n (nNest (signs l)) W) := by
  go_enter Try.func67, Try.ntmps67
  go_wp2_with fail
  refine (match_any h).mono ?_
  rintro e w1 ⟨hc, ⟨t, d, g, hr, htl, rfl, hT, _⟩ | ⟨hr, v, d, rfl⟩⟩
  · have HPO := Lib.hid (show OfPost8 n (nNest (signs l)) W (.returned (.tuple #[.slice (some ⟨g, 0, none⟩) n n, .int .i64 0])) w1 from ⟨hc, .inl ⟨t, d, g, hr, htl, rfl, hT⟩⟩)
    clear hr htl hT hc h
    go_wp2_with fail
    go_ret2
    exact HPO.out
  · have HPO := Lib.hid (show OfPost8 n (nNest (signs l)) W (.returned (.tuple #[.slice none 0 0, .int .i64 13])) w1 from ⟨hc, .inr ⟨hr, rfl⟩⟩)
    clear hr hc h
    go_wp2_with fail
    go_ret2
    exact HPO.out
end
end Go.Proofs.Ytnohfdojcdhfoaa
namespace Go.Proofs.Ytnohfdojcdhfoaa
open Go.RowKit
def smallB (r : Int) : Bool := decide (97 ≤ r) && decide (r ≤ 122)
def digitB (r : Int) : Bool := decide (48 ≤ r) && decide (r ≤ 57)
def namedB (r : Int) : Bool := (r == 955) || (r == 960)
def validB (r : Int) : Bool := (decide (0 ≤ r) && decide (r < 55296)) || (decide (57343 < r) && decide (r ≤ 1114111))
theorem small_any (r : Int) (w : World) : Calls Try.prog 81 #[.int .i32 r] w fun e w' => e = .returned (.bool (smallB r)) ∧ w = w' := by
  obtain ⟨b, hb⟩ : ∃ b, b = smallB r := ⟨_, rfl⟩
  rw [← hb]
  have HB := Lib.hid hb
  clear hb
  by_cases h1 : 97 ≤ r
  · by_cases h2 : r ≤ 122
    · have HE := Lib.hid (show b = true from by rw [HB.out]; simp [smallB, h1, h2])
      go_enter Try.func81, Try.ntmps81
      go_wp2_with fail
      go_ret
      exact ⟨ret_bool HE.out.symm, rfl⟩
    · have h2d : decide (r ≤ 122) = false := by simpa using h2
      have HE := Lib.hid (show b = false from by rw [HB.out]; simp [smallB, h1, h2])
      go_enter Try.func81, Try.ntmps81
      go_wp2_with fail
      go_ret
      exact ⟨ret_bool HE.out.symm, rfl⟩
  · have h1d : decide (97 ≤ r) = false := by simpa using h1
    have HE := Lib.hid (show b = false from by rw [HB.out]; simp [smallB, h1])
    go_enter Try.func81, Try.ntmps81
    go_wp2_with fail
    go_ret
    exact ⟨ret_bool HE.out.symm, rfl⟩
theorem digit_any (r : Int) (w : World) : Calls Try.prog 99 #[.int .i32 r] w fun e w' => e = .returned (.bool (digitB r)) ∧ w = w' := by
  obtain ⟨b, hb⟩ : ∃ b, b = digitB r := ⟨_, rfl⟩
  rw [← hb]
  have HB := Lib.hid hb
  clear hb
  by_cases h1 : 48 ≤ r
  · by_cases h2 : r ≤ 57
    · have HE := Lib.hid (show b = true from by rw [HB.out]; simp [digitB, h1, h2])
      go_enter Try.func99, Try.ntmps99
      go_wp2_with fail
      go_ret
      exact ⟨ret_bool HE.out.symm, rfl⟩
    · have h2d : decide (r ≤ 57) = false := by simpa using h2
      have HE := Lib.hid (show b = false from by rw [HB.out]; simp [digitB, h1, h2])
      go_enter Try.func99, Try.ntmps99
      go_wp2_with fail
      go_ret
      exact ⟨ret_bool HE.out.symm, rfl⟩
  · have h1d : decide (48 ≤ r) = false := by simpa using h1
    have HE := Lib.hid (show b = false from by rw [HB.out]; simp [digitB, h1])
    go_enter Try.func99, Try.ntmps99
    go_wp2_with fail
    go_ret
    exact ⟨ret_bool HE.out.symm, rfl⟩
theorem named_any (r : Int) (w : World) : Calls Try.prog 101 #[.int .i32 r] w fun e w' => e = .returned (.bool (namedB r)) ∧ w = w' := by
  by_cases h1 : r = 955
  · subst h1
    go_enter Try.func101, Try.ntmps101
    go_wp2_with fail
    go_ret
    exact ⟨rfl, rfl⟩
  · have q1 : (r == 955) = false := by simpa using h1
    have HE := Lib.hid (show (r == 960) = namedB r from by unfold namedB; rw [q1]; rfl)
    clear h1
    go_enter Try.func101, Try.ntmps101
    go_wp2_with fail
    go_ret
    exact ⟨ret_bool HE.out, rfl⟩
set_option maxHeartbeats 1000000 in
theorem valid_any (r : Int) (w : World) : Calls Try.prog 82 #[.int .i32 r] w fun e w' => e = .returned (.bool (validB r)) ∧ w = w' := by
  obtain ⟨b, hb⟩ : ∃ b, b = validB r := ⟨_, rfl⟩
  rw [← hb]
  have HB := Lib.hid hb
  clear hb
  rcases Int.lt_or_le r 0 with h | h
  · have d1 : decide (0 ≤ r) = false := by simp; omega
    have d2 : decide (57343 < r) = false := by simp; omega
    have HE := Lib.hid (show b = false from by rw [HB.out]; simp [validB]; omega)
    go_enter Try.func82, Try.ntmps82
    go_wp2_with fail
    go_ret
    exact ⟨ret_bool HE.out.symm, rfl⟩
  · rcases Int.lt_or_le r 55296 with h2 | h2
    · skip
      have HE := Lib.hid (show b = true from by rw [HB.out]; simp [validB]; omega)
      go_enter Try.func82, Try.ntmps82
      go_wp2_with fail
      go_ret
      exact ⟨ret_bool HE.out.symm, rfl⟩
    · have d1 : decide (r < 55296) = false := by simp; omega
      rcases Int.lt_or_le 57343 r with h3 | h3
      · rcases Int.lt_or_le 1114111 r with h4 | h4
        · have d2 : decide (r ≤ 1114111) = false := by simp; omega
          have HE := Lib.hid (show b = false from by rw [HB.out]; simp [validB]; omega)
          go_enter Try.func82, Try.ntmps82
          go_wp2_with fail
          go_ret
          exact ⟨ret_bool HE.out.symm, rfl⟩
        · skip
          have HE := Lib.hid (show b = true from by rw [HB.out]; simp [validB]; omega)
          go_enter Try.func82, Try.ntmps82
          go_wp2_with fail
          go_ret
          exact ⟨ret_bool HE.out.symm, rfl⟩
      · have d2 : decide (57343 < r) = false := by simp; omega
        have HE := Lib.hid (show b = false from by rw [HB.out]; simp [validB]; omega)
        go_enter Try.func82, Try.ntmps82
        go_wp2_with fail
        go_ret
        exact ⟨ret_bool HE.out.symm, rfl⟩
theorem name_small {r : Int} (h : smallB r = true) : nameB r = true := by
  unfold smallB at h
  unfold nameB
  rw [h]; rfl
theorem name_valid {r : Int} (h : smallB r = false) (h2 : 255 < r) : nameB r = (validB r && (r != 65533)) := by
  unfold smallB at h
  unfold nameB validB
  rw [h]
  have e1 : decide (255 < r) = true := by simpa using h2
  have e2 : decide (0 ≤ r) = true := by simp; omega
  rw [e1, e2]
  cases hq : (r != 65533) <;> simp
  · rcases Int.lt_or_le r 55296 with h3 | h3
    · have : decide (r ≤ 1114111) = true := by simp; omega
      have : decide (r < 55296) = true := by simp; omega
      simp_all
    · have : decide (r < 55296) = false := by simp; omega
      rw [this]; simp [Bool.and_comm]
theorem name_low {r : Int} (h : smallB r = false) (h2 : ¬ 255 < r) : nameB r = false := by
  unfold smallB at h
  unfold nameB
  have e1 : decide (255 < r) = false := by simpa using h2
  rw [h, e1]; rfl
set_option maxHeartbeats 1000000 in
theorem gname_any (r : Int) (w : World) : Calls Try.prog 69 #[.int .i32 r] w fun e w' => e = .returned (.bool (nameB r)) ∧ w = w' := by
  cases hs : smallB r with
  | true =>
    have HE := Lib.hid (name_small hs)
    have HS := Lib.hid hs
    clear hs
    go_enter Try.func69, Try.ntmps69
    go_wp2_with fail
    refine (small_any r _).mono ?_
    rw [HS.out]
    rintro e w' ⟨rfl, rfl⟩
    go_wp2_with fail
    go_ret
    exact ⟨ret_bool HE.out.symm, rfl⟩
  | false =>
    by_cases h2 : 255 < r
    · cases hv : validB r with
      | true =>
        have HE := Lib.hid (show (r != 65533) = nameB r from by rw [name_valid hs h2, hv]; rfl)
        have HS := Lib.hid hs
        have HV := Lib.hid hv
        clear hs hv
        go_enter Try.func69, Try.ntmps69
        go_wp2_with fail
        refine (small_any r _).mono ?_
        rw [HS.out]
        rintro e w' ⟨rfl, rfl⟩
        go_wp2_with fail
        refine (valid_any r _).mono ?_
        rw [HV.out]
        rintro e w' ⟨rfl, rfl⟩
        go_wp2_with fail
        go_ret
        exact ⟨ret_bool HE.out, rfl⟩
      | false =>
        have HE := Lib.hid (show nameB r = false from by rw [name_valid hs h2, hv]; rfl)
        have HS := Lib.hid hs
        have HV := Lib.hid hv
        clear hs hv
        go_enter Try.func69, Try.ntmps69
        go_wp2_with fail
        refine (small_any r _).mono ?_
        rw [HS.out]
        rintro e w' ⟨rfl, rfl⟩
        go_wp2_with fail
        refine (valid_any r _).mono ?_
        rw [HV.out]
        rintro e w' ⟨rfl, rfl⟩
        go_wp2_with fail
        go_ret
        exact ⟨ret_bool HE.out.symm, rfl⟩
    · have HE := Lib.hid (name_low hs h2)
      have HS := Lib.hid hs
      have d2 : decide (255 < r) = false := by simpa using h2
      clear hs h2
      go_enter Try.func69, Try.ntmps69
      go_wp2_with fail
      refine (small_any r _).mono ?_
      rw [HS.out]
      rintro e w' ⟨rfl, rfl⟩
      go_wp2_with fail
      go_ret
      exact ⟨ret_bool HE.out.symm, rfl⟩
end Go.Proofs.Ytnohfdojcdhfoaa
namespace Go.Proofs.Ytnohfdojcdhfoaa
open Go.RowKit
def signAt (f pos : Nat) (r : Int) : Bool := (runesAt signS f pos).any fun x => (x : Int) == r
theorem sign_at0 (r : Int) : signAt signS.size 0 r = signL.any fun x => (x : Int) == r := by
  unfold signAt
  rw [show runesAt signS signS.size 0 = runesL signS from rfl, sign_runes]
set_option maxHeartbeats 4000000 in
set_option maxRecDepth 100000 in
theorem gsign_walk (r : Int) (w : World) (h1 : smallB r = false) (h2 : (decide (65 ≤ r) && decide (r ≤ 90)) = false) : Calls Try.prog 102 #[.int .i32 r] w (BoolPost (signL.any fun x => (x : Int) == r) w) := by
  have hpick : decide (65 ≤ r) = false ∨ (decide (65 ≤ r) = true ∧ decide (r ≤ 90) = false) := by
    cases hq : decide (65 ≤ r) with
    | false => exact .inl rfl
    | true => rw [hq] at h2; exact .inr ⟨rfl, by simpa using h2⟩
  have HB := Lib.hid (sign_at0 r)
  generalize (signL.any fun x => (x : Int) == r) = b at HB ⊢
  obtain ⟨s, hs⟩ : ∃ s : ByteArray, s = ⟨#[43, 45, 42, 47, 37, 38, 124, 94, 60, 61, 33, 46, 44, 64, 36, 35, 63, 58, 59, 91, 93, 126, 194, 171, 194, 187, 194, 169, 194, 174, 194, 164, 194, 161, 206, 187, 207, 128]⟩ := ⟨_, rfl⟩
  have HSS := Lib.hid (show signS = s from hs.symm)
  have HS := Lib.hid hs
  have H1 := Lib.hid h1
  have hss : s.size = 38 := by rw [hs]; rfl
  have HZ := Lib.hid hss
  clear hs h1 h2 hss
  rcases hpick with hp | ⟨hp, hp2⟩
  all_goals
    go_enter Try.func102, Try.ntmps102
    go_wp2_with fail
    refine (small_any r _).mono ?_
    rw [H1.out]
    rintro e w' ⟨rfl, rfl⟩
    go_upto_region 4 with fail
    rw [← HS.out]
    have hI : (w.iter s 0).heap[w.heap.size]? = some (.stringIter s 0) := World.iter_heap w s 0
    have hc0 : Chg [] w (w.iter s 0) := (Chg.refl [] w).alloc _
    obtain ⟨kI, hkI⟩ : ∃ k, k = w.heap.size := ⟨_, rfl⟩
    rw [← hkI] at hI ⊢
    generalize w.iter s 0 = w1 at hI hc0 ⊢
    have HI := Lib.hid hI
    have HC0 := Lib.hid hc0
    have HK := Lib.hid hkI
    clear hI hc0 hkI
    go_loopw [4] (fun _ wr => (∃ pos f, Hid (wr.heap[kI]? = some (.stringIter s pos)) ∧ s.size - pos ≤ f ∧ Hid (b = signAt f pos r)) ∧ Hid (Chg [kI] w1 wr)) (fun _ wr => s.size - wr.iterPos kI)
    case atStart => exact ⟨⟨0, s.size, HI, by omega, Lib.hid (by rw [← HSS.out]; exact HB.out.symm)⟩, Lib.hid (Chg.refl _ _)⟩
    case round =>
      obtain ⟨⟨pos, f, HIr, hf, HR⟩, HCr⟩ := hrel
      have HCZ := Lib.hid (fun (W : World) (hW : Chg [kI] w1 W) => show Chg [] w W from HC0.out.then_ hW (fun i hi hl => by have := HK.out; simp only [List.mem_cons, List.not_mem_nil, or_false] at hi; omega))
      by_cases hlt : pos < s.size
      · obtain ⟨f', rfl⟩ : ∃ f', f = f' + 1 := ⟨f - 1, by omega⟩
        have hnx := fun ty => Lib.run_next_any_at (P := Try.prog) wr kI s pos ty HIr.out hlt
        go_upto_region 6 with fail
        obtain ⟨d, hd⟩ : ∃ d, d = (Utf8.decode s pos).2 := ⟨_, rfl⟩
        obtain ⟨x, hx⟩ : ∃ r, r = (Utf8.decode s pos).1 := ⟨_, rfl⟩
        have hw := width_pos s pos hlt
        rw [← hd] at hw
        have HR2 := Lib.hid (show b = (((x : Int) == r) || signAt f' (pos + d) r) from by rw [HR.out]; unfold signAt; rw [HSS.out, runesAt, if_pos hlt, ← hd, ← hx]; simp)
        have HI2 := Lib.hid (Lib.iterAt_heap wr kI s pos (pos + d) HIr.out)
        have HC2 := Lib.hid (show Chg [kI] w1 (wr.iterAt kI s (pos + d)) from HCr.out.trans ⟨rfl, rfl, rfl, by rw [Lib.iterAt_size]; exact Nat.le_refl _, fun i _ hn => Lib.iterAt_other wr kI i s (pos + d) (by simpa using hn)⟩)
        rw [← hd, ← hx]
        have HMP := Lib.hid (show wr.iterPos kI = pos from by unfold World.iterPos; rw [HIr.out])
        have HP2 := Lib.hid (show (wr.iterAt kI s (pos + d)).iterPos kI = pos + d from by unfold World.iterPos; rw [HI2.out])
        generalize wr.iterAt kI s (pos + d) = w3 at HI2 HC2 HP2 ⊢
        clear hx hd hnx
        by_cases hxr : (x : Int) = r
        · have hxd : ((x : Int) == r) = true := by simpa using hxr
          have HPO := Lib.hid (show BoolPost b w (.returned (.bool true)) w3 from ⟨by rw [HR2.out, hxd]; rfl, HCZ.out _ HC2.out⟩)
          clear hxr
          go_wp2_with fail
          go_ret
          exact HPO.out
        · have hxd : ((x : Int) == r) = false := by simpa using hxr
          have HR3 := Lib.hid (show b = signAt f' (pos + d) r from by rw [HR2.out, hxd]; rfl)
          go_wp2_with fail
          go_roundw
          case rel => exact ⟨⟨pos + d, f', HI2, by omega, HR3⟩, HC2⟩
          case measure => rw [HP2.out, HMP.out]; omega
      · have hnx := fun ty => Lib.run_next_end_at (P := Try.prog) wr kI s pos ty HIr.out hlt
        have HPO := Lib.hid (show BoolPost b w (.returned (.bool false)) wr from ⟨by rw [HR.out]; unfold signAt; rw [HSS.out]; cases f with
          | zero => simp [runesAt]
          | succ f => rw [runesAt, if_neg hlt]; simp, HCZ.out _ HCr.out⟩)
        go_wp2_with fail
        go_ret
        exact HPO.out
theorem gknown_any (r : Int) (w : World) : Calls Try.prog 102 #[.int .i32 r] w (BoolPost (knownB r) w) := by
  cases hs : smallB r with
  | true =>
    have HE := Lib.hid (show knownB r = true from by unfold knownB; unfold smallB at hs; rw [hs]; rfl)
    have HS := Lib.hid hs
    clear hs
    go_enter Try.func102, Try.ntmps102
    go_wp2_with fail
    refine (small_any r _).mono ?_
    rw [HS.out]
    rintro e w' ⟨rfl, rfl⟩
    go_wp2_with fail
    go_ret
    exact ⟨ret_bool HE.out.symm, Chg.refl _ _⟩
  | false =>
    cases hZ : (decide (65 ≤ r) && decide (r ≤ 90)) with
    | true =>
      have HE := Lib.hid (show knownB r = true from by unfold knownB; rw [hZ]; simp)
      have h3 : 65 ≤ r := by simp at hZ; omega
      have h4 : r ≤ 90 := by simp at hZ; omega
      have HS := Lib.hid hs
      clear hs hZ
      go_enter Try.func102, Try.ntmps102
      go_wp2_with fail
      refine (small_any r _).mono ?_
      rw [HS.out]
      rintro e w' ⟨rfl, rfl⟩
      go_wp2_with fail
      go_ret
      exact ⟨ret_bool HE.out.symm, Chg.refl _ _⟩
    | false =>
      have h := gsign_walk r w hs hZ
      have e : knownB r = signL.any fun x => (x : Int) == r := by
        unfold knownB
        unfold smallB at hs
        rw [hs, hZ]; simp
      rw [e]
      exact h
end Go.Proofs.Ytnohfdojcdhfoaa
namespace Go.Proofs.Ytnohfdojcdhfoaa
open Go.RowKit
inductive GPh where
  | idle
  | num (m : Nat)
  | wait (q : Nat)
def pend : GPh → List TkV
  | .idle => []
  | .num m => [⟨48, (m : Int), 0⟩]
  | .wait q => [⟨(q : Int), 0, 0⟩]
def counts : GPh → Bool
  | .num _ => true
  | _ => false
def waits : GPh → Bool
  | .wait _ => true
  | _ => false
def gCount (ys : List TkV) (m x : Nat) : Option (List TkV × GPh) := if (9223372036854775807 - x) / 10 < m then none else some (ys, .num (m * 10 + x))
def gOther (bs : List TkV) (r : Nat) : Option (List TkV × GPh) :=
  if r = 32 then some (bs, .idle) else if knownB (r : Int) = true then (if namedB (r : Int) = true then some (bs, .wait r) else some (bs ++ [⟨(r : Int), 0, 0⟩], .idle)) else none
def gTake (ys : List TkV) : GPh → Nat → Option (List TkV × GPh)
  | .wait q, r => if nameB (r : Int) = true then some (ys ++ [⟨(q : Int), 0, (r : Int)⟩], .idle) else none
  | .num m, r => if 48 ≤ r ∧ r ≤ 57 then gCount ys m (r - 48) else gOther (ys ++ [⟨48, (m : Int), 0⟩]) r
  | .idle, r => if 48 ≤ r ∧ r ≤ 57 then gCount ys 0 (r - 48) else gOther ys r
def gEnd (ys : List TkV) : GPh → Option (List TkV)
  | .idle => some ys
  | .num m => some (ys ++ [⟨48, (m : Int), 0⟩])
  | .wait _ => none
def gRun : List Nat → List TkV → GPh → Option (List TkV)
  | [], ys, ph => gEnd ys ph
  | r :: rs, ys, ph => match gTake ys ph r with
    | none => none
    | some (ys', ph') => gRun rs ys' ph'
theorem gTake_len {ys ys' : List TkV} {ph ph' : GPh} {r : Nat} (h : gTake ys ph r = some (ys', ph')) : ys'.length + (pend ph').length ≤ ys.length + (pend ph).length + 1 := by
  have ho : ∀ bs : List TkV, gOther bs r = some (ys', ph') → ys'.length + (pend ph').length ≤ bs.length + 1 := fun bs h => by
    unfold gOther at h
    split at h
    · injection h with h; injection h with h1 h2; subst h1; subst h2; simp [pend]
    · split at h
      · split at h
        · injection h with h; injection h with h1 h2; subst h1; subst h2; simp [pend]
        · injection h with h; injection h with h1 h2; subst h1; subst h2; simp [pend]
      · cases h
  have hc : ∀ m x, gCount ys m x = some (ys', ph') → ys'.length + (pend ph').length ≤ ys.length + 1 := fun m x h => by
    unfold gCount at h
    split at h
    · cases h
    · injection h with h; injection h with h1 h2; subst h1; subst h2; simp [pend]
  cases ph with
  | wait q =>
    rw [gTake] at h
    split at h
    · injection h with h; injection h with h1 h2; subst h1; subst h2; simp [pend]
    · cases h
  | num m =>
    have e1 : (pend (.num m)).length = 1 := rfl
    rw [gTake] at h
    split at h
    · have := hc _ _ h; omega
    · have := ho _ h; rw [List.length_append, List.length_singleton] at this; omega
  | idle =>
    have e1 : (pend .idle).length = 0 := rfl
    rw [gTake] at h
    split at h
    · have := hc _ _ h; omega
    · have := ho _ h; omega
theorem drop_cons {L rs : List Nat} {i r : Nat} (h : L.drop i = r :: rs) : L[i]? = some r ∧ L.drop (i + 1) = rs := by
  have h1 : L[i]? = (L.drop i)[0]? := by rw [List.getElem?_drop]; rfl
  refine ⟨by rw [h1, h]; rfl, ?_⟩
  have : L.drop (i + 1) = (L.drop i).drop 1 := by rw [List.drop_drop]
  rw [this, h]; rfl
theorem drop_nil {L : List Nat} {i : Nat} (h : L.drop i = []) : L[i]? = none := by
  have := List.drop_eq_nil_iff.1 h
  exact List.getElem?_eq_none this
theorem gRun_num {L : List Nat} : ∀ (rs : List Nat) (i f m : Nat) (ys : List TkV), L.drop i = rs → rs.length ≤ f →
    (numAt L f i m = none ∧ gRun rs ys (.num m) = none) ∨ ∃ m' j, numAt L f i m = some (m', j) ∧ i ≤ j ∧ gRun rs ys (.num m) = gRun (L.drop j) (ys ++ [⟨48, (m' : Int), 0⟩]) .idle
  | [], i, f, m, ys, h, hf => by
    refine .inr ⟨m, i, ?_, Nat.le_refl _, by rw [h]; rfl⟩
    cases f with
    | zero => rfl
    | succ f => rw [numAt, drop_nil h]
  | r :: rs, i, f, m, ys, h, hf => by
    obtain ⟨h1, h2⟩ := drop_cons h
    obtain ⟨f, rfl⟩ : ∃ f', f = f' + 1 := ⟨f - 1, by simp at hf; omega⟩
    rw [numAt, h1]
    simp only
    by_cases hd : 48 ≤ r ∧ r ≤ 57
    · rw [if_pos hd]
      have hg : gTake ys (.num m) r = gCount ys m (r - 48) := by rw [gTake, if_pos hd]
      by_cases hb : (9223372036854775807 - (r - 48)) / 10 < m
      · left
        rw [if_pos hb, gRun, hg]
        unfold gCount
        rw [if_pos hb]
        exact ⟨rfl, rfl⟩
      · rw [if_neg hb, gRun, hg]
        unfold gCount
        rw [if_neg hb]
        simp only
        rcases gRun_num rs (i + 1) f (m * 10 + (r - 48)) ys h2 (by simp at hf; omega) with h3 | ⟨m', j, h3, h4, h5⟩
        · exact .inl h3
        · exact .inr ⟨m', j, h3, by omega, h5⟩
    · rw [if_neg hd]
      refine .inr ⟨m, i, rfl, Nat.le_refl _, ?_⟩
      rw [h, gRun, gRun]
      have e : gTake ys (.num m) r = gTake (ys ++ [⟨48, (m : Int), 0⟩]) .idle r := by
        rw [gTake, gTake, if_neg hd, if_neg hd]
      rw [e]
theorem known955 : knownB 955 = true := by decide
theorem known960 : knownB 960 = true := by decide
theorem named_iff (r : Nat) : namedB (r : Int) = true ↔ r = 955 ∨ r = 960 := by unfold namedB; simp; omega
theorem gRun_tok {L : List Nat} : ∀ (k : Nat) (i f : Nat) (ys : List TkV), L.length - i ≤ k → L.length - i < f → gRun (L.drop i) ys .idle = tokAt L f i ys
  | k, i, f, ys, hk, hf => by
    obtain ⟨f, rfl⟩ : ∃ f', f = f' + 1 := ⟨f - 1, by omega⟩
    rw [tokAt]
    cases hr : L.drop i with
    | nil => rw [drop_nil hr]; rfl
    | cons r rs =>
      obtain ⟨h1, h2⟩ := drop_cons hr
      have hil : i < L.length := (List.getElem?_eq_some_iff.1 h1).1
      have hrl : rs.length = L.length - (i + 1) := by rw [← h2, List.length_drop]
      obtain ⟨k, rfl⟩ : ∃ k', k = k' + 1 := ⟨k - 1, by omega⟩
      rw [h1]
      simp only
      rw [gRun]
      by_cases h32 : r = 32
      · subst h32
        rw [if_pos rfl, show gTake ys .idle 32 = some (ys, .idle) from rfl]
        simp only
        rw [← h2]
        exact gRun_tok k (i + 1) f ys (by omega) (by omega)
      rw [if_neg h32]
      by_cases hd : 48 ≤ r ∧ r ≤ 57
      · rw [if_pos hd]
        have hg : gTake ys .idle r = some (ys, .num (r - 48)) := by
          rw [gTake, if_pos hd]
          unfold gCount
          rw [if_neg (by omega)]
          simp
        have hn : numAt L L.length i 0 = numAt L (L.length - 1) (i + 1) (r - 48) := by
          obtain ⟨n, hn⟩ : ∃ n, L.length = n + 1 := ⟨L.length - 1, by omega⟩
          rw [hn, numAt, h1]
          simp only
          rw [if_pos hd, if_neg (by omega)]
          simp
        rw [hg, hn]
        simp only
        rcases gRun_num rs (i + 1) (L.length - 1) (r - 48) ys h2 (by omega) with ⟨h3, h4⟩ | ⟨m', j, h3, h4, h5⟩
        · rw [h3, h4]
        · rw [h3, h5]
          exact gRun_tok k j f _ (by omega) (by omega)
      rw [if_neg hd]
      have hgo : gTake ys .idle r = gOther ys r := by rw [gTake, if_neg hd]
      rw [hgo]
      unfold gOther
      rw [if_neg h32]
      by_cases hnm : r = 955 ∨ r = 960
      · rw [if_pos hnm]
        have hk : knownB (r : Int) = true := by rcases hnm with rfl | rfl <;> decide
        rw [if_pos hk, if_pos ((named_iff r).2 hnm)]
        simp only
        cases hrs : rs with
        | nil =>
          rw [hrs] at h2
          rw [drop_nil h2]
          rfl
        | cons x xs =>
          rw [hrs] at h2
          obtain ⟨h3, h4⟩ := drop_cons h2
          rw [h3]
          simp only
          rw [gRun]
          by_cases hnx : nameB (x : Int) = true
          · rw [if_pos hnx, show gTake ys (.wait r) x = some (ys ++ [⟨(r : Int), 0, (x : Int)⟩], .idle) from by rw [gTake, if_pos hnx]]
            simp only
            rw [← h4]
            exact gRun_tok k (i + 2) f _ (by omega) (by omega)
          · rw [if_neg hnx, show gTake ys (.wait r) x = none from by rw [gTake, if_neg hnx]]
      · rw [if_neg hnm]
        by_cases hk : knownB (r : Int) = true
        · rw [if_pos hk, if_pos hk, if_neg (fun h => hnm ((named_iff r).1 h))]
          simp only
          rw [← h2]
          exact gRun_tok k (i + 1) f _ (by omega) (by omega)
        · rw [if_neg hk, if_neg hk]
theorem gRun_is (s : ByteArray) (h : ¬ 512 < s.size) : tokR s = gRun (runesL s) [] .idle := by
  unfold tokR
  rw [if_neg h]
  have := gRun_tok (L := runesL s) (runesL s).length 0 ((runesL s).length + 1) [] (by omega) (by omega)
  rw [List.drop_zero] at this
  exact this.symm
end Go.Proofs.Ytnohfdojcdhfoaa
namespace Go.Proofs.Ytnohfdojcdhfoaa
open Go.RowKit
abbrev glT : List TypeId := [121, 133]
structure Gl (W : World) (g : Nat) (v : Value) (ys : List TkV) (ph : GPh) : Prop where
  rec_ : Whole W g 133 [v, .bool (counts ph), .bool (waits ph)]
  own : W.ownsRow (g + 1) 121 3 v (ys.length + (pend ph).length) (tkCs (ys ++ pend ph))
  few : ys.length ≤ 1000
  big : ∀ m, ph = .num m → m ≤ 9223372036854775807
def GPost (W : World) (g : Nat) (o : Option (List TkV × GPh)) (e : Ending) (w' : World) : Prop :=
  Fr g glT W w' ∧ ((o = none ∧ e = .returned (.bool false)) ∨ ∃ ys' ph' v', o = some (ys', ph') ∧ e = .returned (.bool true) ∧ Gl w' g v' ys' ph')
theorem pend_len (ph : GPh) : (pend ph).length ≤ 1 := by cases ph <;> simp [pend]
section
variable {W W' : World} {g : Nat} {v : Value} {ys : List TkV} {ph : GPh}
theorem Gl.keep (h : Gl W g v ys ph) (hc : Chg [] W W') : Gl W' g v ys ph := ⟨h.rec_.keep hc, rown_keep h.own hc, h.few, h.big⟩
theorem Gl.away (h : Gl W g v ys ph) : v.ownBlock ≠ some g := fun e => by have := (h.own.lt g e).1; omega
theorem Gl.slice (h : Gl W g v ys ph) : ∃ A n c, v = .slice A n c ∧ n = ys.length + (pend ph).length := by
  obtain ⟨A, c, e, _⟩ := rown_slice h.own
  exact ⟨A, _, c, e, rfl⟩
/-- A digit's token begins. -/
theorem Gl.begin_ {W2 : World} {v' : Value} (h : Gl W g v ys .idle) {W1 : World} (hW1 : W1 = W.setCell ⟨g, 1, none⟩ (.bool true)) (hc : Chg [] W1 W2) {w3 : World} {n1 : Nat} (hn1 : n1 = ys.length + 1) (ho : w3.ownsRow (g + 1) 121 3 v' n1 (tkCs ys ++ [.int .i32 48, .int .i64 0, .int .i32 0])) (hg : W2.grownBy w3 v.ownBlock) :
    Gl (w3.setCell ⟨g, 0, none⟩ v') g v' ys (.num 0) ∧ Fr g glT W (w3.setCell ⟨g, 0, none⟩ v') := by
  subst hn1
  have hr1 : Whole W1 g 133 [v, .bool true, .bool false] := by subst hW1; have := h.rec_.set_ 1 (.bool true); simpa [counts, waits] using this
  have ho1 : W1.ownsRow (g + 1) 121 3 v ys.length (tkCs ys) := by subst hW1; have := rown_far (p := ⟨g, 1, none⟩) (u := .bool true) h.own (fun e => h.away e); simpa [pend] using this
  have hr3 := whole_grown (hr1.keep hc) (rown_keep ho1 hc) (by decide) hg
  refine ⟨⟨?_, ?_, h.few, fun m e => by injection e with e; omega⟩, ?_⟩
  · have := hr3.set_ 0 v'
    simpa [counts, waits] using this
  · have := rown_far (p := ⟨g, 0, none⟩) (u := v') ho (fun e => by have := (ho.lt g e).1; omega)
    simpa [pend, tkCs_app, tkCs, tkC] using this
  · subst hW1
    exact ((((Fr.refl g glT W).setw h.rec_ (Nat.le_refl _) (by simp [glT]) _).new hc).grown (rown_keep ho1 hc) (Nat.le_succ g) (by simp [glT]) hg).setw hr3 (Nat.le_refl _) (by simp [glT]) _
/-- Its number. -/
theorem Gl.number {gr c m : Nat} (h : Gl W g (.slice (some ⟨gr, 0, none⟩) (ys.length + 1) c) ys (.num m)) (m' : Nat) (hm : m' ≤ 9223372036854775807) :
    Gl (W.setCell ⟨gr, ys.length * 3 + 1, none⟩ (.int .i64 (m' : Int))) g (.slice (some ⟨gr, 0, none⟩) (ys.length + 1) c) ys (.num m') ∧ Fr g glT W (W.setCell ⟨gr, ys.length * 3 + 1, none⟩ (.int .i64 (m' : Int))) := by
  have hgr := (h.own.lt gr rfl).1
  refine ⟨⟨h.rec_.far (by simp only; omega) _, ?_, h.few, fun m e => by injection e with e; omega⟩, (Fr.refl g glT W).seto h.own (Nat.le_succ g) (by simp [glT]) _⟩
  have h2 := rown_set (j := ys.length * 3 + 1) (u := .int .i64 (m' : Int)) h.own
  have e : (tkCs (ys ++ pend (.num m))).set (ys.length * 3 + 1) (.int .i64 (m' : Int)) = tkCs (ys ++ pend (.num m')) := by
    rw [tkCs_app, tkCs_app, List.set_append_right _ _ (by rw [tkCs_len]; omega), tkCs_len, show ys.length * 3 + 1 - ys.length * 3 = 1 from by omega]
    rfl
  rw [e] at h2
  exact h2
end
section
variable {W : World} {g : Nat} {v : Value} {ys : List TkV} {ph : GPh}
def numOf : GPh → Nat
  | .num m => m
  | _ => 0
set_option maxHeartbeats 4000000 in
set_option maxRecDepth 100000 in
theorem gcount_any (h : Gl W g v ys ph) (hw : waits ph = false) (x : Nat) (hx : x ≤ 9) (hfew : ys.length ≤ 900) : Calls Try.prog 100 #[.pointer (some ⟨g, 0, none⟩), .int .i64 (x : Int)] W (GPost W g (gCount ys (numOf ph) x)) := by
  obtain ⟨i0, hi0, hz0, hz1, hz2⟩ := info_parts info_token
  obtain ⟨A, n, c, rfl, hn⟩ := h.slice
  have H := Lib.hid h
  have q0 := h.rec_.cell 0
  have q1 := h.rec_.cell 1
  have f0 := h.rec_.frozen 0
  have f1 := h.rec_.frozen 1
  have hnum := h.big
  have HN := Lib.hid hn
  clear h hn
  go_enter Try.func100, Try.ntmps100
  go_upto_if 11 with fail
  go_cut [] (fun wx => ∃ v2, Hid (Gl wx g v2 ys (.num (numOf ph))) ∧ Hid (Fr g glT W wx))
  case first =>
    cases ph with
    | wait q => cases hw
    | num m =>
      go_wp2_with fail
      go_meet
      exact ⟨_, H, Lib.hid (Fr.refl _ _ _)⟩
    | idle =>
      go_upto_region 3 with fail
      have hn : n = ys.length := by have := HN.out; simpa [pend] using this
      have hn9 : n ≤ 900 := by omega
      obtain ⟨w1, hw1⟩ : ∃ w1, w1 = W.setCell ⟨g, 1, none⟩ (.bool true) := ⟨_, rfl⟩
      have hr1 : Whole w1 g 133 [.slice A n c, .bool true, .bool false] := by subst hw1; have := H.out.rec_.set_ 1 (.bool true); simpa [counts, waits, pend] using this
      have ho1 : w1.ownsRow (g + 1) 121 3 (.slice A n c) n (tkCs ys) := by subst hw1; have := rown_far (p := ⟨g, 1, none⟩) (u := .bool true) H.out.own (fun e => H.out.away e); rw [← HN.out] at this; simpa [pend] using this
      rw [← hw1]
      have hal : Chg [] w1 (w1.alloc (.cells #[.int .i32 48, .int .i64 0, .int .i32 0] 121)) := (Chg.refl [] w1).alloc _
      have hsz : w1.heap.size = W.heap.size := by subst hw1; exact size_set _ _ _
      have hgz := H.out.rec_.lt
      have HW1 := Lib.hid hw1
      have HR1 := Lib.hid hr1
      have HO1 := Lib.hid ho1
      have HO2 := Lib.hid (rown_keep ho1 hal)
      have HR2 := Lib.hid (hr1.keep hal)
      have HAL := Lib.hid hal
      have c0 := hr1.cell 0
      have c2 := HR2.out.cell 0
      have HBZ := Lib.hid (show g + 1 ≤ (w1.alloc (.cells #[.int .i32 48, .int .i64 0, .int .i32 0] 121)).heap.size from by have := hal.size; omega)
      have HNN := Lib.hid hn
      clear hw1 hr1 ho1 hal hsz hgz q0 q1 f0 f1 hn
      go_upto_region 4 with (at_builtin
                             refine wpList_append_own _ rfl (.tmp 19) (.tmp 21) _ rfl (g + 1) 121 i0 _ 3 24 Try.underlying106 hi0 hz0 hz1 hz2 rfl (by decide) (.slice A n c) n (tkCs ys) rfl HO2.out ⟨w1.heap.size, 0, none⟩ 1 1 [.int .i32 48, .int .i64 0, .int .i32 0] rfl rfl (cells_page _ _ _) (by simp [Value.oneCell']) (by simp only [maxLen]; omega) (by omega) HBZ.out ?_
                             intro v' w3 ho3 hg3 _
                             have HO3 := Lib.hid ho3
                             have HG3 := Lib.hid hg3
                             have hr3 := whole_grown HR2.out HO2.out (by decide) hg3
                             have c3 := hr3.cell 0
                             have f3 := hr3.frozen 0
                             obtain ⟨A3, c3', rfl, _⟩ := rown_slice ho3
                             clear ho3 hg3 hr3)
      obtain ⟨hGl, hLow⟩ := H.out.begin_ HW1.out HAL.out (by have := HNN.out; omega) HO3.out HG3.out
      go_meet
      exact ⟨_, Lib.hid hGl, Lib.hid hLow⟩
  case rest =>
    obtain ⟨v2, HG, HL⟩ := hcut
    obtain ⟨w2, rfl⟩ : ∃ w2 : World, w2 = wc := ⟨_, rfl⟩
    obtain ⟨m, hme⟩ : ∃ m, m = numOf ph := ⟨_, rfl⟩
    rw [← hme] at HG
    have HME := Lib.hid hme
    clear hme
    have hm := HG.out.big m rfl
    clear H HN q0 q1 f0 f1 hnum hw
    obtain ⟨A2, n2, c2, rfl, hn2⟩ := HG.out.slice
    have hn2' : n2 = ys.length + 1 := hn2
    obtain ⟨gr, hgr, y1⟩ := rown_cell HG.out.own (j := ys.length * 3 + 1) (u := .int .i64 (m : Int)) (by rw [← hn2]) (by rw [tkCs_app, List.getElem?_append_right (by rw [tkCs_len]; omega), tkCs_len, show ys.length * 3 + 1 - ys.length * 3 = 1 from by omega]; rfl)
    subst hgr
    have hown := HG.out.own
    rw [← hn2] at hown
    have fy1 := rown_frozen (j := ys.length * 3 + 1) hown
    have r0 := HG.out.rec_.cell 0
    clear hown hn2
    obtain ⟨k, hk⟩ : ∃ k, k = ys.length := ⟨_, rfl⟩
    rw [← hk] at hn2' y1 fy1
    have HK := Lib.hid hk
    subst hn2'
    have hk9 : k ≤ 900 := by omega
    clear hk
    by_cases hbig : (9223372036854775807 - x) / 10 < m
    · have hbI : (9223372036854775807 - (x : Int)) / 10 < (m : Int) := by omega
      have hbd : decide ((9223372036854775807 - (x : Int)) / 10 < (m : Int)) = true := by simpa using hbI
      have HP := Lib.hid (show GPost W g (gCount ys (numOf ph) x) (.returned (.bool false)) w2 from ⟨HL.out, .inl ⟨by rw [← HME.out]; unfold gCount; rw [if_pos hbig], rfl⟩⟩)
      clear hbig
      go_wp2_with fail
      go_ret
      exact HP.out
    · have hbI : (m : Int) ≤ (9223372036854775807 - (x : Int)) / 10 := by omega
      have hbd : decide ((9223372036854775807 - (x : Int)) / 10 < (m : Int)) = false := by simp; omega
      have hmx : (m : Int) * 10 + (x : Int) ≤ 9223372036854775807 := by omega
      have HP := Lib.hid (show GPost W g (gCount ys (numOf ph) x) (.returned (.bool true)) (w2.setCell ⟨gr, k * 3 + 1, none⟩ (.int .i64 ((m : Int) * 10 + (x : Int)))) from by
        have hG2 := HG.out
        rw [HK.out] at hG2 ⊢
        obtain ⟨h1, h2⟩ := hG2.number (m * 10 + x) (by omega)
        rw [show ((m * 10 + x : Nat) : Int) = (m : Int) * 10 + (x : Int) from by omega] at h1 h2
        exact ⟨HL.out.trans h2, .inr ⟨ys, _, _, by rw [← HME.out]; unfold gCount; rw [if_neg hbig], rfl, h1⟩⟩)
      clear hbig
      go_wp2_with fail
      go_ret
      exact HP.out
end
end Go.Proofs.Ytnohfdojcdhfoaa
namespace Go.Proofs.Ytnohfdojcdhfoaa
open Go.RowKit
section
variable {W W' : World} {g : Nat} {v : Value} {ys : List TkV} {ph : GPh}
/-- No digit more. -/
theorem Gl.done_ (h : Gl W g v ys ph) (hw : waits ph = false) (hf : ys.length ≤ 900) : Gl (W.setCell ⟨g, 1, none⟩ (.bool false)) g v (ys ++ pend ph) .idle ∧ Fr g glT W (W.setCell ⟨g, 1, none⟩ (.bool false)) := by
  have hp := pend_len ph
  refine ⟨⟨?_, ?_, by rw [List.length_append]; omega, fun m e => by cases e⟩, (Fr.refl g glT W).setw h.rec_ (Nat.le_refl _) (by simp [glT]) _⟩
  · have := h.rec_.set_ 1 (.bool false)
    rw [hw] at this
    exact this
  · have := rown_far (p := ⟨g, 1, none⟩) (u := .bool false) h.own (fun e => h.away e)
    rw [List.length_append]
    simpa [pend] using this
/-- A sign more. -/
theorem Gl.more_ {W2 w3 : World} {v' : Value} {n1 : Nat} {t : TkV} (h : Gl W g v ys .idle) (hc : Chg [] W W2) (hn1 : n1 = ys.length + 1) (ho : w3.ownsRow (g + 1) 121 3 v' n1 (tkCs ys ++ tkC t)) (hg : W2.grownBy w3 v.ownBlock) (hf : ys.length ≤ 950) :
    Gl (w3.setCell ⟨g, 0, none⟩ v') g v' (ys ++ [t]) .idle ∧ Fr g glT W (w3.setCell ⟨g, 0, none⟩ v') := by
  subst hn1
  have ho1 : W.ownsRow (g + 1) 121 3 v ys.length (tkCs ys) := by have := h.own; simpa [pend] using this
  have hr3 := whole_grown (h.rec_.keep hc) (rown_keep ho1 hc) (by decide) hg
  refine ⟨⟨?_, ?_, by rw [List.length_append]; simp; omega, fun m e => by cases e⟩, ?_⟩
  · have := hr3.set_ 0 v'
    simpa [counts, waits] using this
  · have := rown_far (p := ⟨g, 0, none⟩) (u := v') ho (fun e => by have := (ho.lt g e).1; omega)
    rw [List.append_assoc, tkCs_app, show tkCs ([t] ++ pend .idle) = tkC t from by simp [pend, tkCs], List.length_append]
    exact this
  · exact (((Fr.of_chg hc : Fr g glT W W2)).grown (rown_keep ho1 hc) (Nat.le_succ g) (by simp [glT]) hg).setw hr3 (Nat.le_refl _) (by simp [glT]) _
/-- The sign waits for its name, or not. -/
theorem Gl.waits_ {q : Nat} (h : Gl W g v (ys ++ [⟨(q : Int), 0, 0⟩]) .idle) : Gl (W.setCell ⟨g, 2, none⟩ (.bool true)) g v ys (.wait q) := by
  refine ⟨?_, ?_, by have := h.few; rw [List.length_append] at this; omega, fun m e => by cases e⟩
  · have := h.rec_.set_ 2 (.bool true)
    simpa [counts, waits] using this
  · have := rown_far (p := ⟨g, 2, none⟩) (u := .bool true) h.own (fun e => h.away e)
    simpa [pend] using this
theorem Gl.not_ (h : Gl W g v ys .idle) : Gl (W.setCell ⟨g, 2, none⟩ (.bool false)) g v ys .idle := by
  refine ⟨?_, ?_, h.few, fun m e => by cases e⟩
  · have := h.rec_.set_ 2 (.bool false)
    simpa [counts, waits] using this
  · exact rown_far (p := ⟨g, 2, none⟩) (u := .bool false) h.own (fun e => h.away e)
/-- A name comes. -/
theorem Gl.name_ {gr c q : Nat} (h : Gl W g (.slice (some ⟨gr, 0, none⟩) (ys.length + 1) c) ys (.wait q)) {W1 : World} (hW : Chg [] (W.setCell ⟨g, 2, none⟩ (.bool false)) W1) (r : Int) (hf : ys.length ≤ 900) :
    Gl (W1.setCell ⟨gr, ys.length * 3 + 2, none⟩ (.int .i32 r)) g (.slice (some ⟨gr, 0, none⟩) (ys.length + 1) c) (ys ++ [⟨(q : Int), 0, r⟩]) .idle ∧ Fr g glT W (W1.setCell ⟨gr, ys.length * 3 + 2, none⟩ (.int .i32 r)) := by
  have hgr := (h.own.lt gr rfl).1
  have h0 : Whole (W.setCell ⟨g, 2, none⟩ (.bool false)) g 133 [.slice (some ⟨gr, 0, none⟩) (ys.length + 1) c, .bool false, .bool false] := by have := h.rec_.set_ 2 (.bool false); simpa [counts, waits] using this
  have h1 := h0.keep hW
  have h2 := rown_keep (rown_far (p := ⟨g, 2, none⟩) (u := .bool false) h.own (fun e => h.away e)) hW
  have hL0 : Fr g glT W (W.setCell ⟨g, 2, none⟩ (.bool false)) := (Fr.refl g glT W).setw h.rec_ (Nat.le_refl _) (by simp [glT]) _
  refine ⟨⟨h1.far (by simp only; omega) _, ?_, by rw [List.length_append]; simp; omega, fun m e => by cases e⟩, (hL0.new hW).seto h2 (Nat.le_succ g) (by simp [glT]) _⟩
  have h3 := rown_set (j := ys.length * 3 + 2) (u := .int .i32 r) h2
  have e : (tkCs (ys ++ pend (.wait q))).set (ys.length * 3 + 2) (.int .i32 r) = tkCs (ys ++ [⟨(q : Int), 0, r⟩] ++ pend .idle) := by
    rw [tkCs_app, tkCs_app, tkCs_app, List.set_append_right _ _ (by rw [tkCs_len]; omega), tkCs_len, show ys.length * 3 + 2 - ys.length * 3 = 2 from by omega]
    simp [pend, tkCs, tkC]
  rw [e] at h3
  have e2 : (ys ++ [(⟨(q : Int), 0, r⟩ : TkV)]).length + (pend .idle).length = ys.length + (pend (.wait q)).length := by simp [pend]
  rw [e2]
  exact h3
end
section
variable {W : World} {g : Nat} {v : Value} {ys : List TkV}
set_option maxHeartbeats 4000000 in
set_option maxRecDepth 100000 in
theorem gtake_wait {q : Nat} (h : Gl W g v ys (.wait q)) (r : Nat) (hfew : ys.length ≤ 900) : Calls Try.prog 78 #[.pointer (some ⟨g, 0, none⟩), .int .i32 (r : Int)] W (GPost W g (gTake ys (.wait q) r)) := by
  obtain ⟨A, n, c, rfl, hn⟩ := h.slice
  have hn2 : n = ys.length + 1 := hn
  obtain ⟨gr, hgr, y2⟩ := rown_cell h.own (j := ys.length * 3 + 2) (u := .int .i32 0) (by rw [← hn]) (by rw [tkCs_app, List.getElem?_append_right (by rw [tkCs_len]; omega), tkCs_len, show ys.length * 3 + 2 - ys.length * 3 = 2 from by omega]; rfl)
  subst hgr
  have hown := h.own
  rw [← hn] at hown
  have fy2 := rown_frozen (j := ys.length * 3 + 2) hown
  have hgr := (hown.lt gr rfl).1
  have r2 := h.rec_.cell 2
  have f2 := h.rec_.frozen 2
  clear hn hown
  subst hn2
  have H := Lib.hid h
  clear h
  obtain ⟨k, hk⟩ : ∃ k, k = ys.length := ⟨_, rfl⟩
  have HK := Lib.hid hk
  rw [← hk] at y2 fy2 hfew r2
  rw [← hk] at H
  have HNM := Lib.hid (fun (W1 : World) (hW : Chg [] (W.setCell ⟨g, 2, none⟩ (.bool false)) W1) => show Gl (W1.setCell ⟨gr, k * 3 + 2, none⟩ (.int .i32 (r : Int))) g (.slice (some ⟨gr, 0, none⟩) (k + 1) c) (ys ++ [⟨(q : Int), 0, (r : Int)⟩]) .idle ∧ Fr g glT W (W1.setCell ⟨gr, k * 3 + 2, none⟩ (.int .i32 (r : Int))) from by
    have h := H.out
    rw [hk] at h ⊢
    exact h.name_ hW (r : Int) (by omega))
  clear hk
  go_enter Try.func78, Try.ntmps78
  go_upto_region 3 with fail
  have hr1 : Whole (W.setCell ⟨g, 2, none⟩ (.bool false)) g 133 [.slice (some ⟨gr, 0, none⟩) (k + 1) c, .bool false, .bool false] := by have := H.out.rec_.set_ 2 (.bool false); simpa [counts, waits] using this
  have z2 : (W.setCell ⟨g, 2, none⟩ (.bool false)).cell? ⟨gr, k * 3 + 2, none⟩ = some (.int .i32 0) := by rw [← y2]; exact World.cell?_of_block (w := W) (Below.heap_setCell W _ _ _ (by simp only; omega))
  have fz2 : (W.setCell ⟨g, 2, none⟩ (.bool false)).frozen? ⟨gr, k * 3 + 2, none⟩ = false := by rw [← fy2]; exact World.frozen?_of_block (w := W) (Below.heap_setCell W _ _ _ (by simp only; omega))
  generalize W.setCell ⟨g, 2, none⟩ (.bool false) = w1 at HNM hr1 z2 fz2 ⊢
  have hdw : Chg [] (w1.setCell ⟨gr, k * 3 + 2, none⟩ (.int .i32 (r : Int))) (w1.setCell ⟨gr, k * 3 + 2, none⟩ (.int .i32 (r : Int))).drew := (Chg.refl [] _).drew
  have HG1 := Lib.hid (And.intro ((HNM.out _ (Chg.refl [] w1)).1.keep hdw) ((HNM.out _ (Chg.refl [] w1)).2.new hdw))
  clear hdw
  have hk1 : IntKind.i64.wrap ((k : Int) + 1 - 1) = (k : Int) := by rw [show (k : Int) + 1 - 1 = (k : Int) from by omega]; exact IntWalk.i64_in _ (by omega)
  have hk2 : IntKind.i64.wrap (k : Int) = (k : Int) := IntWalk.i64_in _ (by omega)
  have hk3 : (k : Int).toNat = k := Int.toNat_natCast _
  have hk4 : (0 : Int) ≤ (k : Int) := by omega
  have hk5 : (k : Int) < (k : Int) + 1 := by omega
  have d0 : w1.drew.cell? ⟨g, 0, none⟩ = some (.slice (some ⟨gr, 0, none⟩) (k + 1) c) := hr1.drew.cell 0
  have c0 := hr1.cell 0
  clear y2 fy2 r2 f2
  go_still_tail 13, (by kernel_rfl)
  change wpList _ _ _ _ _ w1.drew
  go_wp2_with fail
  generalize (w1.setCell ⟨gr, k * 3 + 2, none⟩ (.int .i32 (r : Int))).drew = w2 at HG1 ⊢
  refine (gname_any (r : Int) _).mono ?_
  rintro e w3 ⟨rfl, rfl⟩
  have HP := Lib.hid (show GPost W g (gTake ys (.wait q) r) (.returned (.bool (nameB (r : Int)))) w2 from ⟨HG1.out.2, by
    cases hb : nameB (r : Int) with
    | false => exact .inl ⟨by rw [gTake, if_neg (by rw [hb]; decide)], rfl⟩
    | true => exact .inr ⟨_, _, _, by rw [gTake, if_pos hb], rfl, HG1.out.1⟩⟩)
  go_wp2_with fail
  go_ret
  exact HP.out
set_option maxHeartbeats 4000000 in
set_option maxRecDepth 100000 in
theorem gtake_digit {ph : GPh} (h : Gl W g v ys ph) (hw : waits ph = false) (r : Nat) (hr : 48 ≤ r ∧ r ≤ 57) (hfew : ys.length ≤ 900) : Calls Try.prog 78 #[.pointer (some ⟨g, 0, none⟩), .int .i32 (r : Int)] W (GPost W g (gTake ys ph r)) := by
  have e : gTake ys ph r = gCount ys (numOf ph) (r - 48) := by
    cases ph with
    | wait q => cases hw
    | num m => rw [gTake, if_pos hr]; rfl
    | idle => rw [gTake, if_pos hr]; rfl
  rw [e]
  have hd : digitB (r : Int) = true := by unfold digitB; simp; omega
  have HD := Lib.hid hd
  have HC := Lib.hid (gcount_any h hw (r - 48) (by omega) hfew)
  rw [show ((r - 48 : Nat) : Int) = (r : Int) - 48 from by omega] at HC
  have r2 : W.cell? ⟨g, 2, none⟩ = some (.bool false) := by have := h.rec_.cell 2; rw [hw] at this; exact this
  obtain ⟨hr1, hr2⟩ := hr
  have hr1I : (48 : Int) ≤ (r : Int) := by omega
  have hr2I : (r : Int) ≤ 57 := by omega
  clear h hd e hw
  go_enter Try.func78, Try.ntmps78
  go_wp2_with fail
  refine (digit_any (r : Int) _).mono ?_
  rw [HD.out]
  rintro e w3 ⟨rfl, rfl⟩
  go_wp2_with fail
  refine HC.out.mono ?_
  rintro e w2 ⟨hl, hp⟩
  rcases hp with ⟨ho, rfl⟩ | ⟨ys', ph', v', ho, rfl, hG⟩
  · have HP := Lib.hid (show GPost W g (gCount ys (numOf ph) (r - 48)) (.returned (.bool false)) w2 from ⟨hl, .inl ⟨ho, rfl⟩⟩)
    clear ho hl
    go_wp2_with fail
    go_ret
    exact HP.out
  · have HP := Lib.hid (show GPost W g (gCount ys (numOf ph) (r - 48)) (.returned (.bool true)) w2 from ⟨hl, .inr ⟨ys', ph', v', ho, rfl, hG⟩⟩)
    clear ho hl hG
    go_wp2_with fail
    go_ret
    exact HP.out
set_option maxHeartbeats 8000000 in
set_option maxRecDepth 100000 in
theorem gtake_other {ph : GPh} (h : Gl W g v ys ph) (hw : waits ph = false) (r : Nat) (hr : ¬ (48 ≤ r ∧ r ≤ 57)) (hrm : r ≤ 2147483647) (hfew : ys.length ≤ 900) : Calls Try.prog 78 #[.pointer (some ⟨g, 0, none⟩), .int .i32 (r : Int)] W (GPost W g (gTake ys ph r)) := by
  obtain ⟨i0, hi0, hz0, hz1, hz2⟩ := info_parts info_token
  have e : gTake ys ph r = gOther (ys ++ pend ph) r := by
    cases ph with
    | wait q => cases hw
    | num m => rw [gTake, if_neg hr]; rfl
    | idle => rw [gTake, if_neg hr, pend, List.append_nil]
  rw [e]
  have hd : digitB (r : Int) = false := by unfold digitB; simp; omega
  have HD := Lib.hid hd
  have r2 : W.cell? ⟨g, 2, none⟩ = some (.bool false) := by have := h.rec_.cell 2; rw [hw] at this; exact this
  have r1 := h.rec_.cell 1
  have f1 := h.rec_.frozen 1
  have HG := Lib.hid (h.done_ hw hfew)
  have hbl : (ys ++ pend ph).length ≤ 901 := by rw [List.length_append]; have := pend_len ph; omega
  generalize ys ++ pend ph = bs at HG hbl ⊢
  clear h hd e hw hr hfew
  go_enter Try.func78, Try.ntmps78
  go_wp2_with fail
  refine (digit_any (r : Int) _).mono ?_
  rw [HD.out]
  rintro e w3 ⟨rfl, rfl⟩
  go_upto_region 8 with fail
  generalize W.setCell ⟨g, 1, none⟩ (.bool false) = w1 at HG ⊢
  clear r1 r2 f1
  by_cases h32 : r = 32
  · subst h32
    have HP := Lib.hid (show GPost W g (gOther bs 32) (.returned (.bool true)) w1 from ⟨HG.out.2, .inr ⟨bs, .idle, v, rfl, rfl, HG.out.1⟩⟩)
    go_wp2_with fail
    go_ret
    exact HP.out
  · have q32 : ((r : Int) == 32) = false := by simp; omega
    obtain ⟨A, n, c, rfl, hn⟩ := HG.out.1.slice
    have hn2 : n = bs.length := by simpa [pend] using hn
    have c0 := HG.out.1.rec_.cell 0
    have hal : Chg [] w1 (w1.alloc (.cells #[.int .i32 (r : Int), .int .i64 0, .int .i32 0] 121)) := (Chg.refl [] w1).alloc _
    have ho1 : w1.ownsRow (g + 1) 121 3 (.slice A n c) n (tkCs bs) := by have := HG.out.1.own; rw [← hn] at this; simpa [pend] using this
    have HO2 := Lib.hid (rown_keep ho1 hal)
    have HAL := Lib.hid hal
    have HR2 := Lib.hid (HG.out.1.rec_.keep hal)
    have HBZ := Lib.hid (show g + 1 ≤ (w1.alloc (.cells #[.int .i32 (r : Int), .int .i64 0, .int .i32 0] 121)).heap.size from by have := hal.size; have := HG.out.1.rec_.lt; omega)
    have HN := Lib.hid hn2
    have hn9 : n ≤ 901 := by omega
    clear hn hn2 ho1 hal h32
    go_upto_region 11 with (at_builtin
                            refine wpList_append_own _ rfl (.tmp 43) (.tmp 46) _ rfl (g + 1) 121 i0 _ 3 24 Try.underlying106 hi0 hz0 hz1 hz2 rfl (by decide) (.slice A n c) n (tkCs bs) rfl HO2.out ⟨w1.heap.size, 0, none⟩ 1 1 [.int .i32 (r : Int), .int .i64 0, .int .i32 0] rfl rfl (cells_page _ _ _) (by simp [Value.oneCell']) (by simp only [maxLen]; omega) (by omega) HBZ.out ?_
                            intro v' w3 ho3 hg3 _
                            have HO3 := Lib.hid ho3
                            have HG3 := Lib.hid hg3
                            have hr3 := whole_grown HR2.out HO2.out (by decide) hg3
                            have c3 := hr3.cell 0
                            have f3 := hr3.frozen 0
                            obtain ⟨A3, c3', rfl, _⟩ := rown_slice ho3
                            clear ho3 hg3 hr3)
    obtain ⟨hm1, hm2⟩ := HG.out.1.more_ (t := ⟨(r : Int), 0, 0⟩) HAL.out (by have := HN.out; omega) HO3.out HG3.out (by omega)
    have HM := Lib.hid hm1
    have HL := Lib.hid (HG.out.2.trans hm2)
    generalize w3.setCell ⟨g, 0, none⟩ (.slice A3 (n + 1) c3') = w4 at HM HL ⊢
    clear hm1 hm2 c3 f3 c0 HO2 HO3 HG3 HAL HR2 HBZ
    have s2 := HM.out.rec_.cell 2
    have t2 := HM.out.rec_.frozen 2
    go_wp2_with fail
    refine (named_any (r : Int) _).mono ?_
    rintro e w5 ⟨rfl, rfl⟩
    cases hnm : namedB (r : Int) with
    | true =>
      have hkn : knownB (r : Int) = true := by rcases (named_iff r).1 hnm with rfl | rfl <;> decide
      have HP := Lib.hid (fun (W' : World) (hc : Chg [] (w4.setCell ⟨g, 2, none⟩ (.bool true)) W') => show GPost W g (gOther bs r) (.returned (.bool (knownB (r : Int)))) W' from
        ⟨(HL.out.setw HM.out.rec_ (Nat.le_refl _) (by simp [glT]) _).new hc, .inr ⟨bs, .wait r, _, by unfold gOther; rw [if_neg (by intro e; subst e; revert hnm; decide), if_pos hkn, if_pos hnm], by rw [hkn], HM.out.waits_.keep hc⟩⟩)
      clear hnm hkn
      go_wp2_with fail
      refine (gknown_any (r : Int) _).mono ?_
      rintro e w6 ⟨rfl, hc6⟩
      have HQ := Lib.hid (HP.out w6 hc6)
      clear hc6
      go_wp2_with fail
      go_ret
      exact HQ.out
    | false =>
      have h32 : ¬ r = 32 := by intro e; subst e; revert q32; decide
      have HP := Lib.hid (fun (W' : World) (hc : Chg [] (w4.setCell ⟨g, 2, none⟩ (.bool false)) W') => show GPost W g (gOther bs r) (.returned (.bool (knownB (r : Int)))) W' from
        ⟨(HL.out.setw HM.out.rec_ (Nat.le_refl _) (by simp [glT]) _).new hc, by
          cases hkn : knownB (r : Int) with
          | true => exact .inr ⟨_, .idle, _, by unfold gOther; rw [if_neg h32, if_pos hkn, if_neg (by rw [hnm]; decide)], rfl, HM.out.not_.keep hc⟩
          | false => exact .inl ⟨by unfold gOther; rw [if_neg h32, if_neg (by rw [hkn]; decide)], rfl⟩⟩)
      clear hnm h32
      go_wp2_with fail
      refine (gknown_any (r : Int) _).mono ?_
      rintro e w6 ⟨rfl, hc6⟩
      have HQ := Lib.hid (HP.out w6 hc6)
      clear hc6
      go_wp2_with fail
      go_ret
      exact HQ.out
theorem gtake_any {ph : GPh} (h : Gl W g v ys ph) (r : Nat) (hrm : r ≤ 2147483647) (hfew : ys.length ≤ 900) : Calls Try.prog 78 #[.pointer (some ⟨g, 0, none⟩), .int .i32 (r : Int)] W (GPost W g (gTake ys ph r)) := by
  cases hw : waits ph with
  | true =>
    cases ph with
    | wait q => exact gtake_wait h r hfew
    | num m => cases hw
    | idle => cases hw
  | false =>
    by_cases hr : 48 ≤ r ∧ r ≤ 57
    · exact gtake_digit h hw r hr hfew
    · exact gtake_other h hw r hr hrm hfew
end
end Go.Proofs.Ytnohfdojcdhfoaa
namespace Go.Proofs.Ytnohfdojcdhfoaa
open Go.RowKit
theorem gRun_next {rs : List Nat} {r : Nat} {ys ys' : List TkV} {ph ph' : GPh} (h : gTake ys ph r = some (ys', ph')) : gRun (r :: rs) ys ph = gRun rs ys' ph' := by rw [gRun, h]
theorem gRun_stop {rs : List Nat} {r : Nat} {ys : List TkV} {ph : GPh} (h : gTake ys ph r = none) : gRun (r :: rs) ys ph = none := by rw [gRun, h]
theorem rown_apart {w w' : World} {B n k : Nat} {e : TypeId} {v : Value} {xs : List Value} {T : List Nat} (h : w.ownsRow B e k v n xs) (hc : Chg T w w') (hT : ∀ g, v.ownBlock = some g → g ∉ T) : w'.ownsRow B e k v n xs := by
  refine ⟨h.1, ?_⟩
  rcases h.2 with h1 | ⟨g, cap, cur, rfl, hb, hg, r⟩
  · exact .inl h1
  · refine .inr ⟨g, cap, cur, rfl, hb, ?_, r⟩
    have hlt : g < w.heap.size := by
      rcases Nat.lt_or_ge g w.heap.size with h | h
      · exact h
      · rw [Array.getElem?_eq_none h] at hg; cases hg
    exact (hc.block g hlt (hT g rfl)).trans hg
theorem own_not_iter {w : World} {B n k b : Nat} {e : TypeId} {v : Value} {xs : List Value} {s : ByteArray} {pos : Nat} (h : w.ownsRow B e k v n xs) (hb : w.heap[b]? = some (.stringIter s pos)) : v.ownBlock ≠ some b := by
  intro hv
  rcases h.2 with ⟨rfl, _⟩ | ⟨g, cap, cur, rfl, _, hg, _⟩
  · simp [Value.ownBlock] at hv
  · simp [Value.ownBlock] at hv
    subst hv
    rw [hg] at hb
    injection hb with hb
    cases hb
theorem Gl.chg {W W' : World} {g : Nat} {v : Value} {ys : List TkV} {ph : GPh} {T : List Nat} (h : Gl W g v ys ph) (hc : Chg T W W') (hg : g ∉ T) (hv : ∀ b, v.ownBlock = some b → b ∉ T) : Gl W' g v ys ph := ⟨h.rec_.chg hc hg, rown_apart h.own hc hv, h.few, h.big⟩
section
variable {w : World}
set_option maxHeartbeats 4000000 in
set_option maxRecDepth 100000 in
theorem gtokens_any (s : ByteArray) (hs : s.size ≤ 9223372036854775807) : Calls Try.prog 66 #[.string s] w (TokPost s w) := by
  by_cases hlong : 512 < s.size
  · have hlI : (512 : Int) < (s.size : Int) := by omega
    have HPO := Lib.hid (show TokPost s w (.returned (.tuple #[.slice none 0 0, .int .i64 3])) w from ⟨Chg.refl _ _, .inr ⟨by unfold tokR; rw [if_pos hlong], by unfold tokE; rw [if_pos hlong]⟩⟩)
    go_enter Try.func66, Try.ntmps66
    go_wp2_with fail
    go_ret2
    exact HPO.out
  have hlI : ¬ (512 : Int) < (s.size : Int) := by omega
  have HRT := Lib.hid (gRun_is s hlong)
  have HE := Lib.hid (show tokE s = 12 from by unfold tokE; rw [if_neg hlong])
  have hsz : s.size ≤ 512 := by omega
  clear hlong
  go_enter Try.func66, Try.ntmps66
  go_upto_region 5 with fail
  have hr1 := Whole.new w 133 [.slice none 0 0, .bool false, .bool false]
  have hc1 := (Chg.refl [] w).alloc (.cells #[.slice none 0 0, .bool false, .bool false] 133)
  have hz1 : (w.alloc (.cells #[.slice none 0 0, .bool false, .bool false] 133)).heap.size = w.heap.size + 1 := Array.size_push _
  obtain ⟨g, hg⟩ : ∃ g, g = w.heap.size := ⟨_, rfl⟩
  rw [← hg] at hr1 hz1 ⊢
  generalize w.alloc (.cells #[.slice none 0 0, .bool false, .bool false] 133) = w1 at hr1 hc1 hz1 ⊢
  have hI : (w1.iter s 0).heap[w1.heap.size]? = some (.stringIter s 0) := World.iter_heap w1 s 0
  have hc0 : Chg [] w1 (w1.iter s 0) := (Chg.refl [] w1).alloc _
  rw [hz1] at hI
  obtain ⟨kI, hkI⟩ : ∃ k, k = g + 1 := ⟨_, rfl⟩
  have HK := Lib.hid (show g < kI from by omega)
  have HGW := Lib.hid (show w.heap.size = g from hg.symm)
  have HG1 := Lib.hid (show Gl (w1.iter s 0) g (.slice none 0 0) [] .idle from ⟨hr1.keep hc0, World.ownsRow_nil _ _ _ _, by simp, fun m e => by cases e⟩)
  rw [← hkI] at hI ⊢
  have HC0 := Lib.hid (hc1.new hc0)
  generalize w1.iter s 0 = w2 at hI hc0 HG1 HC0 ⊢
  have HI := Lib.hid hI
  clear hI hc0 hkI hr1 hc1 hz1 hg
  go_loopw [6] (fun _ wr => (∃ (pos f : Nat) (v : Value) (ys : List TkV) (ph : GPh), Hid (wr.heap[kI]? = some (.stringIter s pos)) ∧ s.size - pos ≤ f ∧ Hid (Gl wr g v ys ph) ∧ Hid (tokR s = gRun (runesAt s f pos) ys ph) ∧ ys.length + (pend ph).length + f ≤ s.size) ∧ Hid (Chg [] w wr)) (fun _ wr => s.size - wr.iterPos kI)
  case atStart => exact ⟨⟨0, s.size, _, _, _, HI, by omega, HG1, Lib.hid (by rw [HRT.out]; rfl), by simp [pend]⟩, HC0⟩
  case round =>
    obtain ⟨⟨pos, f, v, ys, ph, HIr, hf, HG, HR, hyl⟩, HC⟩ := hrel
    by_cases hlt : pos < s.size
    · obtain ⟨f', rfl⟩ : ∃ f', f = f' + 1 := ⟨f - 1, by omega⟩
      have hnx := fun ty => Lib.run_next_any_at (P := Try.prog) wr kI s pos ty HIr.out hlt
      go_upto_region 7 with fail
      obtain ⟨d, hd⟩ : ∃ d, d = (Utf8.decode s pos).2 := ⟨_, rfl⟩
      obtain ⟨x, hx⟩ : ∃ r, r = (Utf8.decode s pos).1 := ⟨_, rfl⟩
      have hw := width_pos s pos hlt
      have hxm : x ≤ 2147483647 := by rw [hx]; exact decode_le s pos
      rw [← hd] at hw
      have HR2 := Lib.hid (show tokR s = gRun (x :: runesAt s f' (pos + d)) ys ph from by rw [HR.out, runesAt, if_pos hlt, ← hd, ← hx])
      have hci : Chg [kI] wr (wr.iterAt kI s (pos + d)) := ⟨rfl, rfl, rfl, by rw [Lib.iterAt_size]; exact Nat.le_refl _, fun i _ hn => Lib.iterAt_other wr kI i s (pos + d) (by simpa using hn)⟩
      have HI2 := Lib.hid (Lib.iterAt_heap wr kI s pos (pos + d) HIr.out)
      have HC2 := Lib.hid (show Chg [] w (wr.iterAt kI s (pos + d)) from HC.out.then_ hci (fun i hi hl => by have := HK.out; have := HGW.out; simp only [List.mem_cons, List.not_mem_nil, or_false] at hi; omega))
      have HG2 := Lib.hid (show Gl (wr.iterAt kI s (pos + d)) g v ys ph from HG.out.chg hci (by have := HK.out; simp; omega) (fun b hb => by
        have := own_not_iter HG.out.own HIr.out
        intro hm
        simp only [List.mem_cons, List.not_mem_nil, or_false] at hm
        subst hm
        exact this hb))
      rw [← hd, ← hx]
      have HMP := Lib.hid (show wr.iterPos kI = pos from by unfold World.iterPos; rw [HIr.out])
      have HP2 := Lib.hid (show (wr.iterAt kI s (pos + d)).iterPos kI = pos + d from by unfold World.iterPos; rw [HI2.out])
      generalize wr.iterAt kI s (pos + d) = w3 at HI2 HC2 HP2 HG2 ⊢
      clear hx hd hnx hci
      go_wp2_with fail
      refine (gtake_any HG2.out x hxm (by omega)).mono ?_
      rintro e w4 ⟨hfr, ho⟩
      have HI4 := Lib.hid (hfr.obj HI2.out (by intro _ _ _ h; cases h))
      have HP4 := Lib.hid (show w4.iterPos kI = pos + d from by unfold World.iterPos; rw [HI4.out])
      have HC4 := Lib.hid (show Chg [] w w4 from (Fr.chg (B := g) (TS := glT) ((Fr.of_chg HC2.out).trans hfr) (by have := HGW.out; omega)))
      clear hfr
      rcases ho with ⟨ho, rfl⟩ | ⟨ys', ph', v', ho, rfl, hG⟩
      · have HPO := Lib.hid (show TokPost s w (.returned (.tuple #[.slice none 0 0, .int .i64 12])) w4 from ⟨HC4.out, .inr ⟨by rw [HR2.out, gRun_stop ho], by rw [HE.out]⟩⟩)
        clear ho
        go_wp2_with fail
        go_ret2
        exact HPO.out
      · have hyl' : ys'.length + (pend ph').length + f' ≤ s.size := by have := gTake_len ho; omega
        have HR4 := Lib.hid (show tokR s = gRun (runesAt s f' (pos + d)) ys' ph' from by rw [HR2.out, gRun_next ho])
        have HG4 := Lib.hid hG
        clear ho hG
        go_wp2_with fail
        go_roundw
        case rel => exact ⟨⟨pos + d, f', v', ys', ph', HI4, by omega, HG4, HR4, hyl'⟩, HC4⟩
        case measure => rw [HP4.out, HMP.out]; omega
    · have hnx := fun ty => Lib.run_next_end_at (P := Try.prog) wr kI s pos ty HIr.out hlt
      have HRE := Lib.hid (show tokR s = gEnd ys ph from by
        rw [HR.out]
        cases f with
        | zero => simp [runesAt, gRun]
        | succ f => rw [runesAt, if_neg hlt, gRun])
      have c2 := HG.out.rec_.cell 2
      have c0 := HG.out.rec_.cell 0
      cases hwt : waits ph with
      | true =>
        have HPO := Lib.hid (show TokPost s w (.returned (.tuple #[.slice none 0 0, .int .i64 12])) wr from ⟨HC.out, .inr ⟨(by
          rw [HRE.out]
          cases ph with
          | wait q => rfl
          | num m => cases hwt
          | idle => cases hwt), by rw [HE.out]⟩⟩)
        rw [hwt] at c2
        clear hwt
        go_wp2_with fail
        go_ret2
        exact HPO.out
      | false =>
        have HPO := Lib.hid (show TokPost s w (.returned (.tuple #[v, .int .i64 0])) wr from ⟨HC.out, .inl ⟨ys ++ pend ph, v, (by
          rw [HRE.out]
          cases ph with
          | wait q => cases hwt
          | num m => rfl
          | idle => rw [pend, List.append_nil]; rfl), by rw [List.length_append]; omega, rfl, by
          have := HG.out.own
          rw [List.length_append]
          exact own_more_n this (by have := HGW.out; omega)⟩⟩)
        rw [hwt] at c2
        obtain ⟨A5, n5, c5, rfl, hn5⟩ := HG.out.slice
        clear hwt hn5
        go_wp2_with fail
        go_ret2
        exact HPO.out
end
end Go.Proofs.Ytnohfdojcdhfoaa
namespace Go.Proofs.Ytnohfdojcdhfoaa
open Go.RowKit
theorem info_code : (Try.prog.info? 113).map (fun i => (i.zero, i.size, i.bytes)) = some (some (.agg #[.int .i64 0, .slice none 0 0, .slice none 0 0]), 3, 56) := by kernel_rfl
/-- Codes that can be read. -/
def Readable (l : List FnV) : Prop := ∀ f ∈ l, 0 ≤ f.args ∧ ∃ ts R, tokR f.code = some ts ∧ rNest (signs ts) = some R
theorem codeOf_is {f : FnV} {ts : List TkV} {R : List Int × Nat} (h1 : tokR f.code = some ts) (h2 : rNest (signs ts) = some R) : codeOf f = ⟨f.args.toNat, ts, R.1⟩ := by
  unfold codeOf
  rw [h1]
  simp only
  rw [h2]
/-- All but the row of codes itself. -/
structure Cdx (W : World) (xs : List CdV) : Prop where
  toks : ∀ x ∈ xs, W.ownsRow 0 121 3 x.tv x.c.ts.length (tkCs x.c.ts)
  gos : ∀ x ∈ xs, W.ownsRow 0 3 1 x.gv x.c.go.length (nms x.c.go)
  few : ∀ x ∈ xs, x.c.ts.length ≤ 512 ∧ x.c.go.length = x.c.ts.length
theorem Cdx.keep {W W' : World} {xs : List CdV} (h : Cdx W xs) (hc : Chg [] W W') : Cdx W' xs := ⟨fun x hx => rown_keep (h.toks x hx) hc, fun x hx => rown_keep (h.gos x hx) hc, h.few⟩
theorem Cdx.nil (W : World) : Cdx W [] := ⟨fun x hx => by simp at hx, fun x hx => by simp at hx, fun x hx => by simp at hx⟩
theorem Cdx.cons {W : World} {xs : List CdV} {x : CdV} (h : Cdx W xs) (h1 : W.ownsRow 0 121 3 x.tv x.c.ts.length (tkCs x.c.ts)) (h2 : W.ownsRow 0 3 1 x.gv x.c.go.length (nms x.c.go)) (h3 : x.c.ts.length ≤ 512 ∧ x.c.go.length = x.c.ts.length) : Cdx W (xs ++ [x]) := by
  refine ⟨fun y hy => ?_, fun y hy => ?_, fun y hy => ?_⟩ <;> rcases List.mem_append.1 hy with hy | hy
  · exact h.toks y hy
  · rw [List.mem_singleton] at hy; subst hy; exact h1
  · exact h.gos y hy
  · rw [List.mem_singleton] at hy; subst hy; exact h2
  · exact h.few y hy
  · rw [List.mem_singleton] at hy; subst hy; exact h3
theorem Cdx.grown {W W' : World} {B : Nat} {v : Value} {n : Nat} {ys : List Value} {xs : List CdV} (h : Cdx W xs) (ho : W.ownsRow B 113 3 v n ys) (hg : W.grownBy W' v.ownBlock) : Cdx W' xs :=
  ⟨fun x hx => rown_grown (h.toks x hx) ho (by decide) hg, fun x hx => rown_grown (h.gos x hx) ho (by decide) hg, h.few⟩
def CodesPost (W : World) (l : List FnV) (e : Ending) (w' : World) : Prop := ∃ v xs, e = .returned v ∧ w'.ownsRow W.heap.size 113 3 v xs.length (cdCs xs) ∧ Cdx w' xs ∧ xs.map (·.c) = l.map codeOf ∧ Chg [] W w'
section
variable {W : World} {A : Option Addr} {n c : Nat} {l : List FnV} {pages most : Int}
set_option maxHeartbeats 8000000 in
set_option maxRecDepth 100000 in
theorem codes_any (h : Fnr W A n c l) (hr : Readable l) (h32 : n ≤ 32) (hsz : ∀ f ∈ l, f.code.size ≤ 1000000) : Calls Try.prog 50 #[unitV pages most A n c] W (CodesPost W l) := by
  unfold unitV
  obtain ⟨i0, hi0, hz0, hz1, hz2⟩ := info_parts info_code
  have H := Lib.hid h
  have HRD := Lib.hid hr
  have HSZ := Lib.hid hsz
  clear h hr hsz
  go_enter Try.func50, Try.ntmps50
  go_upto_region 2 with fail
  have hN := Whole.new W 31 [.int .i64 pages, .int .i64 most, .slice A n c]
  have hal : Chg [] W (W.alloc (.cells #[.int .i64 pages, .int .i64 most, .slice A n c] 31)) := (Chg.refl [] W).alloc _
  have c2 := hN.cell 2
  have HC := Lib.hid hal
  obtain ⟨g, hg⟩ : ∃ g, g = W.heap.size := ⟨_, rfl⟩
  rw [← hg] at c2 ⊢
  have HG := Lib.hid (show W.heap.size = g from hg.symm)
  generalize W.alloc (.cells #[.int .i64 pages, .int .i64 most, .slice A n c] 31) = w1 at c2 HC ⊢
  clear hN hal hg
  go_wp2_with fail
  go_loopw [3, 13] (fun v i wr => ∃ k : Nat, i = .int .i64 (k : Int) ∧ k ≤ n ∧ ∃ xs : List CdV, ∃ m : Nat, m = k ∧ Hid (m = xs.length) ∧ wr.ownsRow g 113 3 v m (cdCs xs) ∧ Hid (Cdx wr xs) ∧ Hid (xs.map (·.c) = (l.take k).map codeOf) ∧ Hid (Chg [] W wr)) (fun _ i _ => n - (intOf i).toNat)
  case atStart => exact ⟨0, rfl, by omega, [], 0, rfl, Lib.hid rfl, World.ownsRow_nil _ _ _ _, Lib.hid (Cdx.nil _), Lib.hid rfl, HC⟩
  case round =>
    obtain ⟨k, rfl, hk, xs, m, hm, HXL, hown, HX, HM, HCr⟩ := hrel
    obtain rfl : k = m := hm.symm
    clear hm
    obtain ⟨Av, cv, rfl, _⟩ := rown_slice hown
    have HOW := Lib.hid hown
    clear hown
    by_cases hkn : k < n
    · have hkI : (k : Int) < (n : Int) := by omega
      obtain ⟨t, htk⟩ : ∃ t, l[k]? = some t := ⟨l[k]'(by rw [H.out.len]; exact hkn), by simp⟩
      have hmem : t ∈ l := List.mem_of_getElem? htk
      obtain ⟨ha0, ts, R, htok, hnest⟩ := HRD.out t hmem
      have hcs := HSZ.out t hmem
      have HT := Lib.hid htk
      have HTK := Lib.hid htok
      have HNE := Lib.hid hnest
      obtain ⟨fb, fo, rfl, hfbl, e0, e1, e2⟩ := (H.out.keep HCr.out).cell htk
      obtain ⟨tn, ta, tc⟩ := t
      simp only at e0 e1 e2 ha0 hcs htok
      have ha : (ta.toNat : Int) = ta := Int.toNat_of_nonneg ha0
      have HA := Lib.hid ha
      clear htk hmem htok hnest ha ha0
      go_upto_region 5 with fail
      have hX := Whole.new wr 28 [.int .i32 tn, .int .i64 ta, .string tc]
      have x1 := hX.cell 1
      have x2 := hX.cell 2
      have hc2 := (Chg.refl [] wr).alloc (.cells #[.int .i32 tn, .int .i64 ta, .string tc] 28)
      have HC2 := Lib.hid hc2
      have HO2 := Lib.hid (rown_keep HOW.out hc2)
      generalize wr.heap.size = gx at x1 x2 ⊢
      generalize wr.alloc (.cells #[.int .i32 tn, .int .i64 ta, .string tc] 28) = w3 at x1 x2 HC2 HO2 ⊢
      clear hX e0 e1 e2 hfbl hc2
      go_wp2_with fail
      refine (gtokens_any tc (by omega)).mono ?_
      rintro e w4 ⟨hc4, ⟨ts', tv, ht', htl, rfl, ho4⟩ | ⟨hno, _⟩⟩
      rotate_left
      · have := HTK.out; rw [this] at hno; cases hno
      obtain rfl : ts = ts' := by have := HTK.out; rw [this] at ht'; injection ht'
      obtain ⟨At, ct, rfl, hTk⟩ := Tks.of_own ho4 (by omega)
      have HO4 := Lib.hid (own_more_n ho4 (Nat.zero_le _))
      have HC4 := Lib.hid (HC2.out.new hc4)
      have y1 := cell_keep x1 hc4
      have HTS := Lib.hid hTk
      have HTL := Lib.hid htl
      clear hc4 x1 x2 ho4 hTk ht'
      go_wp2_with fail
      refine (nof_any HTS.out).mono ?_
      rintro e w5 ⟨hc5, ⟨tl, dd, gt, hto, htol, rfl, hW⟩ | ⟨hno, _⟩⟩
      rotate_left
      · rw [nest_same, HNE.out] at hno; cases hno
      have hRe : R.1 = tl := by rw [nest_same, HNE.out] at hto; injection hto with hto; rw [hto]
      have HW5 := Lib.hid hW
      have z1 := cell_keep y1 hc5
      have HC5 := Lib.hid (HC4.out.new hc5)
      have HO5 := Lib.hid (rown_keep HO4.out hc5)
      obtain ⟨N, hN⟩ : ∃ N, N = ts.length := ⟨_, rfl⟩
      rw [← hN] at HO5 htol htl ⊢
      have HTOK5 := Lib.hid (show w5.ownsRow 0 121 3 (.slice At N ct) N (tkCs ts) from HO5.out)
      obtain ⟨x, hx⟩ : ∃ x : CdV, x = ⟨⟨ta.toNat, ts, tl⟩, .slice At N ct, .slice (some ⟨gt, 0, none⟩) N N⟩ := ⟨_, rfl⟩
      have HCX := Lib.hid (show cdC x = [.int .i64 ta, .slice At N ct, .slice (some ⟨gt, 0, none⟩) N N] from by rw [hx]; simp only [cdC]; rw [HA.out])
      have HGO5 := Lib.hid (show w5.ownsRow 0 3 1 (.slice (some ⟨gt, 0, none⟩) N N) N (nms tl) from by
        have := own_of_whole (B := 0) (n := N) (c := N) HW5.out (Nat.zero_le _) (by rw [nms_len]; exact htol) (Nat.le_refl _) (by unfold maxLen; omega)
        rwa [List.take_of_length_le (by rw [nms_len]; omega)] at this)
      have HXC := Lib.hid (show x.c = codeOf ⟨tn, ta, tc⟩ from by rw [hx, codeOf_is HTK.out HNE.out, hRe])
      have HXX := Lib.hid (show w5.ownsRow 0 121 3 x.tv x.c.ts.length (tkCs x.c.ts) ∧ w5.ownsRow 0 3 1 x.gv x.c.go.length (nms x.c.go) ∧ (x.c.ts.length ≤ 512 ∧ x.c.go.length = x.c.ts.length) from by
        rw [hx]
        refine ⟨by rw [← hN]; exact HTOK5.out, by rw [htol]; exact HGO5.out, by rw [← hN]; exact htl, by rw [htol, hN]⟩)
      clear hc5 y1 hW hto hRe hN hx htol htl HO4 HTOK5 HGO5 HO5 HW5 HTS
      have hal : Chg [] w5 (w5.alloc (.cells #[.int .i64 ta, .slice At N ct, .slice (some ⟨gt, 0, none⟩) N N] 113)) := (Chg.refl [] w5).alloc _
      have hc35 : Chg [] wr w5 := HC5.out
      have HO6 := Lib.hid (rown_keep (rown_keep HOW.out hc35) hal)
      have HBZ := Lib.hid (show g ≤ (w5.alloc (.cells #[.int .i64 ta, .slice At N ct, .slice (some ⟨gt, 0, none⟩) N N] 113)).heap.size from by have := HG.out; have h1 := (HCr.out.new hc35).size; have h2 := hal.size; omega)
      have HAL := Lib.hid hal
      clear hal hc35
      go_wp2_with (at_builtin
                   refine wpList_append_own _ rfl (.tmp 28) (.tmp 34) _ rfl g 113 i0 _ 3 56 Try.underlying85 hi0 hz0 hz1 hz2 rfl (by decide) (.slice Av k cv) k (cdCs xs) rfl HO6.out ⟨w5.heap.size, 0, none⟩ 1 1 [.int .i64 ta, .slice At N ct, .slice (some ⟨gt, 0, none⟩) N N] rfl rfl (cells_new _ _ _) (by simp [Value.oneCell']) (by simp only [maxLen]; omega) (by omega) HBZ.out ?_
                   intro v' w6 ho hg _
                   have HO7 := Lib.hid ho
                   have HG7 := Lib.hid hg
                   obtain ⟨A7, c7, rfl, _⟩ := rown_slice ho
                   clear ho hg)
      go_roundw
      case rel =>
        have hcx := (HX.out.keep (HC5.out)).cons HXX.out.1 HXX.out.2.1 HXX.out.2.2
        refine ⟨k + 1, by go_num, by omega, xs ++ [x], k + 1, rfl, Lib.hid (by rw [List.length_append, List.length_singleton, ← HXL.out]), ?_, Lib.hid ((hcx.keep HAL.out).grown HO6.out HG7.out), Lib.hid ?_, Lib.hid ?_⟩
        · rw [cdCs_app, cdCs_one, HCX.out]; exact HO7.out
        · rw [List.map_append, HM.out, List.take_succ_eq_append_getElem (by rw [H.out.len]; exact hkn), List.map_append]
          congr 1
          have := HT.out
          simp only [List.map_cons, List.map_nil]
          rw [HXC.out]
          congr 2
          rw [List.getElem?_eq_getElem (by rw [H.out.len]; exact hkn)] at this
          injection this with this
          exact this.symm
        · exact chg_grown ((HCr.out.new HC5.out).new HAL.out) HG7.out fun q hq => by have := (HO6.out.lt q hq).1; have := HG.out; omega
      case measure => simp [intOf]; omega
    · have hkI : (n : Int) ≤ (k : Int) := by omega
      have HP := Lib.hid (show CodesPost W l (.returned (.slice Av k cv)) wr from ⟨_, xs, rfl, by rw [← HXL.out, HG.out]; exact HOW.out, HX.out, by rw [HM.out, List.take_of_length_le (by rw [H.out.len]; omega)], HCr.out⟩)
      go_wp2_with fail
      go_ret
      exact HP.out
end
end Go.Proofs.Ytnohfdojcdhfoaa
namespace Go.Proofs.Ytnohfdojcdhfoaa
open Go.RowKit
section
variable {A : Option Addr} {n c : Nat} {l : List FnV} {pages most : Int}
theorem Fr.whole' {B : Nat} {TS : List TypeId} {a b : World} (h : Fr B TS a b) {g t : Nat} {cs : List Value} (hW : Whole a g t cs) (ht : TS.contains t = false) : Whole b g t cs := h.whole hW (by simpa using ht)
set_option maxHeartbeats 16000000 in
set_option maxRecDepth 100000 in
theorem cfunc_any {w : World} (hF : Fnr w A n c l) (hcode : ∀ f ∈ l, f.code.size ≤ 1000000) (k : Int) : Calls Try.prog 68 #[unitV pages most A n c, .int .i64 k] w (FnPost (rFn l k) w) := by
  unfold unitV
  obtain ⟨i0, hi0, hz0, hz1, hz2⟩ := info_parts info_int
  obtain ⟨R, hR⟩ : ∃ R, R = rFn l k := ⟨_, rfl⟩
  rw [← hR]
  unfold rFn at hR
  rw [hF.len] at hR
  have HR := Lib.hid hR
  have H := Lib.hid hF
  have hmax := hF.max
  clear hF hR
  go_enter Try.func68, Try.ntmps68
  go_upto_region 1 with fail
  have hN := Whole.new w 31 [.int .i64 pages, .int .i64 most, .slice A n c]
  have hal : Chg [] w (w.alloc (.cells #[.int .i64 pages, .int .i64 most, .slice A n c] 31)) := (Chg.refl [] w).alloc _
  have HF1 := Lib.hid (H.out.keep hal)
  have HU1 := Lib.hid hN
  have HC1 := Lib.hid hal
  have HBW := Lib.hid (show w.heap.size ≤ w.heap.size from Nat.le_refl _)
  obtain ⟨gu, hgu⟩ : ∃ g, g = w.heap.size := ⟨_, rfl⟩
  rw [← hgu] at HU1 ⊢
  generalize w.alloc (.cells #[.int .i64 pages, .int .i64 most, .slice A n c] 31) = w1 at HF1 HU1 HC1 ⊢
  clear hN hal hgu
  have u2 := HU1.out.cell 2
  by_cases hk0 : k < 0
  · have qk : decide (k < 0) = true := by simpa using hk0
    have HP := Lib.hid (show FnPost R w (.returned (.tuple #[.slice none 0 0, .int .i64 23])) w1 from fn_no 23 (by rw [HR.out, if_pos (.inl hk0)]) HC1.out)
    clear hk0
    go_wp2_with fail
    go_ret2
    exact HP.out
  have qk : decide (k < 0) = false := by simpa using hk0
  by_cases hkn : (n : Int) ≤ k
  · have qn : decide ((n : Int) ≤ k) = true := by simpa using hkn
    have HP := Lib.hid (show FnPost R w (.returned (.tuple #[.slice none 0 0, .int .i64 23])) w1 from fn_no 23 (by rw [HR.out, if_pos (.inr hkn)]) HC1.out)
    clear hkn hk0
    go_wp2_with fail
    go_ret2
    exact HP.out
  have qn : decide ((n : Int) ≤ k) = false := by simpa using hkn
  obtain ⟨q, rfl⟩ : ∃ q : Nat, k = (q : Int) := ⟨k.toNat, by omega⟩
  have hqn : q < n := by omega
  obtain ⟨f, hfk⟩ : ∃ f, l[q]? = some f := ⟨l[q]'(by rw [HF1.out.len]; exact hqn), by simp⟩
  have HR1 := Lib.hid (show R = rFunc l f.code from by rw [HR.out, if_neg (by omega), show ((q : Int)).toNat = q from rfl, hfk])
  have hcd := hcode f (List.mem_of_getElem? hfk)
  obtain ⟨fb, fo, rfl, hfbl, e0, e1, e2⟩ := HF1.out.cell hfk
  have hqI : (q : Int) < (n : Int) := by omega
  clear hfk hk0 hkn hcode e0 e1 HR
  go_wp2_with fail
  refine (gtokens_any f.code (by omega)).mono ?_
  rintro e w2 ⟨hc2, hT⟩
  have HC2 := Lib.hid (HC1.out.new hc2)
  have HF2 := Lib.hid (HF1.out.keep hc2)
  have HU2 := Lib.hid (HU1.out.keep hc2)
  clear u2 e2 hfbl
  rcases hT with ⟨ts, v2, hts, htl, rfl, ho2⟩ | ⟨hts, rfl⟩
  rotate_left
  · have hE : tokE f.code = 3 ∨ tokE f.code = 12 := by unfold tokE; split <;> simp
    have HP := Lib.hid (show FnPost R w (.returned (.tuple #[.slice none 0 0, .int .i64 (tokE f.code)])) w2 from fn_no _ (by rw [HR1.out, rFunc, hts]) HC2.out)
    clear hts hc2
    generalize tokE f.code = te at hE HP ⊢
    have qe : (te != 0) = true := by simp; omega
    clear hE
    go_wp2_with fail
    go_ret2
    exact HP.out
  obtain ⟨TA, tc, rfl, hTk⟩ := Tks.of_own ho2 (by omega)
  have HT2 := Lib.hid hTk
  have HR2 := Lib.hid (show R = match rNest (signs ts) with | none => (13, []) | some _ => rWalk l ts 0 [] [] from by rw [HR1.out, rFunc, hts]; rfl)
  clear hts hc2 ho2 hTk HR1
  obtain ⟨tn, htn⟩ : ∃ tn, tn = ts.length := ⟨_, rfl⟩
  rw [← htn] at HT2 htl ⊢
  have HTN := Lib.hid htn
  clear htn
  go_wp2_with fail
  refine (nof_any HT2.out).mono ?_
  rintro e w3 ⟨hc3, hT⟩
  have HC3 := Lib.hid (HC2.out.new hc3)
  have HF3 := Lib.hid (HF2.out.keep hc3)
  have HU3 := Lib.hid (HU2.out.keep hc3)
  have HT3 := Lib.hid (HT2.out.keep hc3)
  clear hc3
  rw [nest_same] at hT
  rcases hT with ⟨t3, d3, g3, hn3, _, rfl, _⟩ | ⟨hn3, rfl⟩
  rotate_left
  · have HP := Lib.hid (show FnPost R w (.returned (.tuple #[.slice none 0 0, .int .i64 13])) w3 from fn_no 13 (by rw [HR2.out, hn3]) HC3.out)
    clear hn3
    go_wp2_with fail
    go_ret2
    exact HP.out
  have HR3 := Lib.hid (show R = rWalk l ts 0 [] [] from by rw [HR2.out, hn3])
  have HD := Lib.hid (sOk_nest hn3)
  clear hn3
  have hN4 := Whole.new w3 138 [.int .i64 0, .slice none 0 0]
  have hal4 : Chg [] w3 (w3.alloc (.cells #[.int .i64 0, .slice none 0 0] 138)) := (Chg.refl [] w3).alloc _
  have hsz4 : (w3.alloc (.cells #[.int .i64 0, .slice none 0 0] 138)).heap.size = w3.heap.size + 1 := Array.size_push _
  go_upto_region 10 with fail
  have HC4 := Lib.hid (HC3.out.new hal4)
  have HGS := Lib.hid (show w.heap.size ≤ w3.heap.size from HC3.out.size)
  generalize w3.alloc (.cells #[.int .i64 0, .slice none 0 0] 138) = w4 at hN4 hal4 hsz4 HC4 ⊢
  have HC34 := Lib.hid hal4
  obtain ⟨gs, hgs⟩ : ∃ g, g = w3.heap.size := ⟨_, rfl⟩
  rw [← hgs] at hN4 hsz4 HGS ⊢
  have HW4 := Lib.hid (show Wk w4 gs 0 (.slice none 0 0) [] from ⟨hN4, World.ownsRow_nil _ _ _ _, by simp, by omega, fun b hb => by simp at hb⟩)
  have HG3 := Lib.hid hgs
  have HZ4 := Lib.hid hsz4
  clear hN4 hal4 hsz4 hgs HC3 HC2 HF2 HU2 HT2 HC1 HF1 HU1
  have HTL := Lib.hid htl
  have hmk : ∀ W : World, (Instr.makeSlice 43 (.int .i64 0) (.int .i64 (tn : Int))).run Try.prog W = .ok (.slice (some ⟨W.heap.size, 0, none⟩) 0 tn) (W.alloc (.cells (List.replicate tn (.int .i64 0)).toArray 3)) := fun W =>
    run_make0 (P := Try.prog) 43 3 i0 _ rfl Try.underlying43 hi0 hz0 hz1 tn (by rw [hz2]; omega) (by omega) W
  go_upto_region 12 with fail
  have hM := Whole.new w4 3 (List.replicate tn (.int .i64 0))
  have hal5 : Chg [] w4 (w4.alloc (.cells (List.replicate tn (.int .i64 0)).toArray 3)) := (Chg.refl [] w4).alloc _
  have HO4 := Lib.hid (show (w4.alloc (.cells (List.replicate tn (.int .i64 0)).toArray 3)).ownsRow (gs + 1) 3 1 (.slice (some ⟨w4.heap.size, 0, none⟩) 0 tn) 0 (nms []) from by
    have h := own_of_whole (n := 0) hM (show gs + 1 ≤ w4.heap.size from by have := HZ4.out; omega) (by simp) (Nat.zero_le tn) (by unfold maxLen; omega)
    simpa [nms] using h)
  have HW5 := Lib.hid (HW4.out.keep hal5)
  have HC5' := Lib.hid (HC4.out.new hal5)
  have HC35 := Lib.hid (HC34.out.new hal5)
  rw [show (List.replicate tn (Value.int .i64 0)).toArray = Array.replicate tn (Value.int .i64 0) from by simp] at HO4 HW5 HC5' HC35
  generalize w4.heap.size = gm at HO4 ⊢
  generalize w4.alloc (.cells (Array.replicate tn (.int .i64 0)) 3) = w5' at HO4 HW5 HC5' HC35 ⊢
  clear hM hal5 hmk HW4 HC4 HC34
  go_loopw [9, 47] (fun v i wr => ∃ (j : Nat) (h : Int) (bs : List BkV) (vo : Value) (out : List Int), i = .int .i64 (j : Int) ∧ j ≤ tn ∧ Hid (Wk wr gs h vo bs) ∧ Hid (wr.ownsRow (gs + 1) 3 1 v j (nms out)) ∧
    Hid (SOk (signs (ts.drop j)) (bs.map (·.sign))) ∧ Hid (Bas h bs) ∧ Hid (bs.length ≤ 16) ∧ Hid (R = rWalk l (ts.drop j) h bs out) ∧ Hid (Chg [] w wr) ∧ Hid (Chg [] w3 wr)) (fun _ i _ => tn - (intOf i).toNat)
  case atStart => exact ⟨0, 0, [], _, [], rfl, by omega, HW5, HO4, HD, Lib.hid ⟨by simp, fun x hx => by simp at hx, fun _ x hx => by simp at hx⟩, Lib.hid (by simp), HR3, HC5', HC35⟩
  case round =>
    obtain ⟨j, h, bs, vo, out, rfl, hj, HS, HO, HDR, HBA, HB16, HRW, HC, HCW⟩ := hrel
    obtain ⟨AO, co, rfl, _⟩ := own_slice HO.out
    by_cases hjn : j < tn
    · have hjI : (j : Int) < (tn : Int) := by omega
      obtain ⟨t, htj⟩ : ∃ t, ts[j]? = some t := ⟨ts[j]'(by rw [← HTN.out]; exact hjn), by simp⟩
      have HDJ := Lib.hid (show ts.drop j = t :: ts.drop (j + 1) from List.drop_eq_getElem?_toList_append.trans (by rw [htj]; rfl))
      have HTr := Lib.hid (HT3.out.keep HCW.out)
      obtain ⟨b, o, rfl, hbl, t0, t1, t2⟩ := HTr.out.cell htj
      clear htj
      go_upto_region 14 with fail
      have hal5 : Chg [] wr (wr.alloc (.cells #[.int .i32 t.sign, .int .i64 t.n, .int .i32 t.name] 121)) := (Chg.refl [] wr).alloc _
      have HT5 := Lib.hid (Whole.new wr 121 [.int .i32 t.sign, .int .i64 t.n, .int .i32 t.name])
      have HS5 := Lib.hid (HS.out.keep hal5)
      have HO5 := Lib.hid (rown_keep HO.out hal5)
      have HU5 := Lib.hid (HU3.out.keep (HCW.out.new hal5))
      have HC5 := Lib.hid (HC.out.new hal5)
      have HCW5 := Lib.hid (HCW.out.new hal5)
      obtain ⟨gt, hgt⟩ : ∃ g, g = wr.heap.size := ⟨_, rfl⟩
      rw [← hgt] at HT5 ⊢
      generalize wr.alloc (.cells #[.int .i32 t.sign, .int .i64 t.n, .int .i32 t.name] 121) = w5 at hal5 HT5 HS5 HO5 HU5 HC5 HCW5 ⊢
      clear hal5 hgt t0 t1 t2 hbl HTr HC HCW HO HS
      have c0 := HS5.out.rec_.cell 0
      have HAL := Lib.hid (show Chg [] w5 (w5.alloc (.cells #[.int .i64 h] 3)) from (Chg.refl [] w5).alloc _)
      have HO6 := Lib.hid (rown_keep HO5.out HAL.out)
      have HRM := Lib.hid (show gs + 1 ≤ (w5.alloc (.cells #[.int .i64 h] 3)).heap.size from by have := HAL.out.size; have := HS5.out.rec_.lt; omega)
      have hjb := HTL.out
      clear htl
      have HDD := Lib.hid (show TopS t.sign (bs.map (·.sign)) ∧ SOk (signs (ts.drop (j + 1))) (sNext t.sign (bs.map (·.sign))) from by have := HDR.out; rw [HDJ.out] at this; exact this)
      obtain ⟨RT, hRT⟩ : ∃ RT, RT = rTok l h bs t.sign t.name := ⟨_, rfl⟩
      have HRW2 := Lib.hid (show R = if RT.1 = 0 then rWalk l (ts.drop (j + 1)) RT.2.1 RT.2.2 (out ++ [h]) else (RT.1, []) from by rw [HRW.out, HDJ.out, rWalk_next, hRT])
      have HLN := Lib.hid (show RT.1 = 0 → Bas RT.2.1 RT.2.2 ∧ RT.2.2.map (·.sign) = sNext t.sign (bs.map (·.sign)) from fun he => by rw [hRT] at he ⊢; exact rTok_ok HBA.out (fun x hx => (HS5.out.rb x hx).1) HS5.out.hr he)
      have HRT := Lib.hid hRT
      clear hRT
      go_wp2_with (at_builtin
                   refine wpList_append_own _ rfl (.tmp 51) (.tmp 54) _ rfl (gs + 1) 3 i0 _ 1 8 Try.underlying43 hi0 hz0 hz1 hz2 rfl (by decide) (.slice AO j co) j (nms out) rfl HO6.out ⟨w5.heap.size, 0, none⟩ 1 1 [.int .i64 h] rfl rfl (cells_page _ _ _) (by simp [Value.oneCell']) (by simp only [maxLen]; omega) (by omega) HRM.out ?_
                   intro v' w6 ho6 hg6 _
                   obtain ⟨A6, c6, rfl, _⟩ := own_slice ho6
                   have HO7 := Lib.hid ho6
                   have HG7 := Lib.hid hg6
                   have HU6 := Lib.hid (whole_grown (HU5.out.keep HAL.out) HO6.out (by decide) hg6)
                   have HT6 := Lib.hid (whole_grown (HT5.out.keep HAL.out) HO6.out (by decide) hg6)
                   have HC6 := Lib.hid (show Chg [] w w6 from chg_grown2 (HC5.out.new HAL.out) hg6 (fun g hg => by have := (HO6.out.lt g hg).1; have := HGS.out; omega))
                   have HCW6 := Lib.hid (show Chg [] w3 w6 from chg_grown2 (HCW5.out.new HAL.out) hg6 (fun g hg => by have := (HO6.out.lt g hg).1; have := HG3.out; omega))
                   have HS7 := Lib.hid (show Wk w6 gs h vo bs from ⟨whole_grown (HS5.out.keep HAL.out).rec_ HO6.out (by decide) HG7.out, rown_grown (HS5.out.keep HAL.out).own HO6.out (by decide) HG7.out, HS5.out.few, HS5.out.hr, HS5.out.rb⟩)
                   have u0 := HU6.out.cell 0
                   have u1 := HU6.out.cell 1
                   have u2 := HU6.out.cell 2
                   have t0 := HT6.out.cell 0
                   have t1 := HT6.out.cell 1
                   have t2 := HT6.out.cell 2
                   clear ho6 hg6)
      have HTK := Lib.hid (wstep_any (pages := pages) (most := most) HS7.out (HF3.out.keep HCW6.out) t HBA.out (topS_top HDD.out.1) (by have := HB16.out; omega))
      rw [← HRT.out] at HTK
      refine HTK.out.mono ?_
      rintro e w7 ⟨hfr, rfl, hS8⟩
      have HC7 := Lib.hid (show Chg [] w w7 from ((Fr.of_chg HC6.out).trans (hfr.sub HGS.out (fun _ h => h))).chg (Nat.le_refl _))
      have HCW7 := Lib.hid (show Chg [] w3 w7 from ((Fr.of_chg HCW6.out).trans (hfr.sub (show w3.heap.size ≤ gs from by have := HG3.out; omega) (fun _ h => h))).chg (Nat.le_refl _))
      have HO8 := Lib.hid (hfr.own HO7.out (by decide))
      have HU8 := Lib.hid (hfr.whole' HU6.out (by decide))
      clear hfr u0 u1 u2 t0 t1 t2 c0
      by_cases her : RT.1 = 0
      · obtain ⟨vo8, hS9⟩ := hS8 her
        have HS9 := Lib.hid hS9
        have HR9 := Lib.hid (HRW2.out.trans (if_pos her))
        have HD9 := Lib.hid (show SOk (signs (ts.drop (j + 1))) (RT.2.2.map (·.sign)) from by rw [(HLN.out her).2]; exact HDD.out.2)
        have HBA9 := Lib.hid (HLN.out her).1
        have HB9 := Lib.hid (show RT.2.2.length ≤ 16 from by
          have h1 := congrArg List.length (HLN.out her).2
          rw [List.length_map] at h1
          rw [h1]
          have h2 := HDD.out.1
          have h3 := HB16.out
          unfold sNext
          split
          · rename_i hs; have := h2.2.2.2.2 hs; simp at this ⊢; omega
          · split
            · rename_i hs
              obtain ⟨y, hy⟩ := h2.1 hs
              have h4 := congrArg List.length hy
              simp at h4 ⊢
              omega
            · split
              · simp; omega
              · simp; exact h3)
        rw [her]
        clear hS8 hS9 her
        go_wp2_with fail
        go_roundw
        case rel => exact ⟨j + 1, RT.2.1, RT.2.2, vo8, out ++ [h], by go_num, by omega, HS9, Lib.hid (by have := HO8.out; simpa [nms] using this), HD9, HBA9, HB9, HR9, HC7, HCW7⟩
        case measure => simp [intOf]; omega
      · have qe : (RT.1 != 0) = true := by simpa using her
        have HP := Lib.hid (show FnPost R w (.returned (.tuple #[.slice none 0 0, .int .i64 RT.1])) w7 from fn_no _ (HRW2.out.trans (if_neg her)) HC7.out)
        clear hS8 her
        go_wp2_with fail
        go_ret2
        exact HP.out
    · have hjI : (tn : Int) ≤ (j : Int) := by omega
      have HRZ := Lib.hid (show R = if h ≠ 1 ∧ 0 ≤ h then (14, []) else (0, out) from by rw [HRW.out, List.drop_eq_nil_of_le (by rw [← HTN.out]; omega), rWalk])
      have c0 := HS.out.rec_.cell 0
      have hhr := HS.out.hr
      have HOW := Lib.hid (own_more_n HO.out (show w.heap.size ≤ gs + 1 from by have := HGS.out; omega))
      have HJO := Lib.hid (show j = out.length from by have := HO.out.1; simpa [nms] using this.symm)
      by_cases h1 : h = 1
      · have q1 : (h != 1) = false := by simpa using h1
        have q2 : (h != -1) = true := by simp; omega
        have HP := Lib.hid (show FnPost R w (.returned (.tuple #[.slice AO j co, .int .i64 0])) wr from by
          rw [HRZ.out, if_neg (by omega)]
          exact ⟨_, rfl, by rw [← HJO.out]; exact HOW.out, HC.out⟩)
        clear h1
        go_wp2_with fail
        go_ret2
        exact HP.out
      · have q1 : (h != 1) = true := by simpa using h1
        by_cases h0 : 0 ≤ h
        · have q0 : (h != -1) = true := by simp; omega
          have HP := Lib.hid (show FnPost R w (.returned (.tuple #[.slice none 0 0, .int .i64 14])) wr from fn_no 14 (by rw [HRZ.out, if_pos ⟨h1, h0⟩]) HC.out)
          clear h1 h0
          go_wp2_with fail
          go_ret2
          exact HP.out
        · have q0 : (h != -1) = false := by simp; omega
          have HP := Lib.hid (show FnPost R w (.returned (.tuple #[.slice AO j co, .int .i64 0])) wr from by
            rw [HRZ.out, if_neg (by omega)]
            exact ⟨_, rfl, by rw [← HJO.out]; exact HOW.out, HC.out⟩)
          clear h1 h0
          go_wp2_with fail
          go_ret2
          exact HP.out
end
end Go.Proofs.Ytnohfdojcdhfoaa
namespace Go.Proofs.Ytnohfdojcdhfoaa
open Go.RowKit
structure RightU (pages most : Int) (l : List FnV) : Prop where
  p0 : 0 ≤ pages
  pm : pages ≤ most
  m64 : most ≤ 64
  few : l.length ≤ 32
  fn : ∀ (k : Nat) (f : FnV), l[k]? = some f → nameB f.name = true ∧ findI l f.name = (k : Int) ∧ 0 ≤ f.args ∧ f.args ≤ 4
  ok : ∀ k : Nat, k < l.length → (rFn l (k : Int)).1 = 0
  small : ∀ f ∈ l, f.code.size ≤ 1000000
def RightPost (W : World) (r : Int) (e : Ending) (w' : World) : Prop := e = .returned (.int .i64 r) ∧ Chg [] W w'
section
variable {W : World} {A : Option Addr} {n c : Nat} {l : List FnV} {pages most : Int}
set_option maxHeartbeats 8000000 in
set_option maxRecDepth 100000 in
theorem right_ok (h : Fnr W A n c l) (hr : RightU pages most l) : Calls Try.prog 47 #[unitV pages most A n c] W (RightPost W 0) := by
  have hn32 : n ≤ 32 := by rw [← h.len]; exact hr.few
  have hp0 := hr.p0
  have hpm := hr.pm
  have hm64 := hr.m64
  have H := Lib.hid h
  have HR := Lib.hid hr
  have HCF := Lib.hid (fun (w : World) (hc : Chg [] W w) (k : Int) => cfunc_any (pages := pages) (most := most) (h.keep hc) hr.small k)
  have HFI := Lib.hid (fun (w : World) (hc : Chg [] W w) (nm : Int) => cfind_any (pages := pages) (most := most) (h.keep hc) nm)
  unfold unitV at HCF HFI ⊢
  clear h hr
  have b1 : decide (pages < 0) = false := by simp; omega
  have b2 : decide (most < pages) = false := by simp; omega
  have b3 : decide (64 < most) = false := by simp; omega
  have b4 : decide (32 < (n : Int)) = false := by simp; omega
  go_enter Try.func47, Try.ntmps47
  go_upto_region 1 with fail
  have hN := Whole.new W 31 [.int .i64 pages, .int .i64 most, .slice A n c]
  have hal : Chg [] W (W.alloc (.cells #[.int .i64 pages, .int .i64 most, .slice A n c] 31)) := (Chg.refl [] W).alloc _
  obtain ⟨g, hg⟩ : ∃ g, g = W.heap.size := ⟨_, rfl⟩
  rw [← hg] at hN ⊢
  have HU := Lib.hid hN
  have HC := Lib.hid hal
  generalize W.alloc (.cells #[.int .i64 pages, .int .i64 most, .slice A n c] 31) = w1 at HU HC ⊢
  clear hN hal hg
  have u0 := HU.out.cell 0
  have u1 := HU.out.cell 1
  have u2 := HU.out.cell 2
  go_wp2_with fail
  go_loopw [30] (fun i wr => ∃ k : Nat, i = .int .i64 (k : Int) ∧ k ≤ n ∧ Hid (Chg [] w1 wr)) (fun i _ => n - (intOf i).toNat)
  case atStart => exact ⟨0, rfl, by omega, Lib.hid (Chg.refl [] _)⟩
  case round =>
    obtain ⟨k, rfl, hk, HCr⟩ := hrel
    have HUr := Lib.hid (HU.out.keep HCr.out)
    by_cases hkn : k < n
    · have hkI : (k : Int) < (n : Int) := by omega
      obtain ⟨t, htk⟩ : ∃ t, l[k]? = some t := ⟨l[k]'(by rw [H.out.len]; exact hkn), by simp⟩
      obtain ⟨hnm, hfi, ha0, ha4⟩ := HR.out.fn k t htk
      obtain ⟨fb, fo, rfl, hfbl, e0, e1, e2⟩ := (H.out.keep (HC.out.new HCr.out)).cell htk
      obtain ⟨tn, ta, tc⟩ := t
      simp only at e0 e1 e2 hnm hfi ha0 ha4
      clear htk
      go_upto_region 8 with fail
      have hX := Whole.new wr 28 [.int .i32 tn, .int .i64 ta, .string tc]
      have hc2 := (Chg.refl [] wr).alloc (.cells #[.int .i32 tn, .int .i64 ta, .string tc] 28)
      have HX2 := Lib.hid hX
      have HC2 := Lib.hid (HCr.out.new hc2)
      have HU2 := Lib.hid (HUr.out.keep hc2)
      generalize wr.heap.size = gx at HX2 ⊢
      generalize wr.alloc (.cells #[.int .i32 tn, .int .i64 ta, .string tc] 28) = w3 at HX2 HC2 HU2 ⊢
      clear hX e0 e1 e2 hfbl hc2
      have x0 := HX2.out.cell 0
      have x1 := HX2.out.cell 1
      have v0 := HU2.out.cell 0
      have v1 := HU2.out.cell 1
      have v2 := HU2.out.cell 2
      have q1 : decide (ta < 0) = false := by simp; omega
      have q2 : decide (4 < ta) = false := by simp; omega
      have HNM := Lib.hid (fun w => gname_any tn w)
      rw [hnm] at HNM
      have HFX := Lib.hid (HFI.out w3 (HC.out.new HC2.out) tn)
      rw [hfi] at HFX
      clear hnm hfi
      go_wp2_with (first
        | (go_at_call 69
           refine (HNM.out _).mono ?_
           rintro e w4 ⟨rfl, rfl⟩)
        | (go_at_call 49
           refine HFX.out.mono ?_
           rintro e w5 ⟨rfl, hc5⟩
           have y1 := cell_keep (by simpa using x1 : w3.cell? ⟨gx, 1, none⟩ = some (.int .i64 ta)) hc5
           have HC5 := Lib.hid (HC2.out.new hc5)
           clear hc5))
      exact ⟨⟨k + 1, by simp, by omega, HC5⟩, by simp [intOf]; omega⟩
    · have hkI : (n : Int) ≤ (k : Int) := by omega
      have v0 := HUr.out.cell 0
      have v1 := HUr.out.cell 1
      have v2 := HUr.out.cell 2
      go_wp2_with fail
      go_loopw [61] (fun i ws => ∃ k : Nat, i = .int .i64 (k : Int) ∧ k ≤ n ∧ Hid (Chg [] w1 ws)) (fun i _ => n - (intOf i).toNat)
      case atStart => exact ⟨0, rfl, by omega, HCr⟩
      case round =>
        obtain ⟨j, rfl, hj, HCs⟩ := hrel
        have HUs := Lib.hid (HU.out.keep HCs.out)
        by_cases hjn : j < n
        · have hjI : (j : Int) < (n : Int) := by omega
          have s0 := HUs.out.cell 0
          have s1 := HUs.out.cell 1
          have s2 := HUs.out.cell 2
          have HOK := Lib.hid (HR.out.ok j (by rw [H.out.len]; exact hjn))
          have HFN := Lib.hid (HCF.out wr (HC.out.new HCs.out) (j : Int))
          generalize rFn l (j : Int) = R at HOK HFN
          go_wp2_with fail
          refine HFN.out.mono ?_
          rintro e w5 ⟨v, rfl, ho, hc5⟩
          have HC5 := Lib.hid (HCs.out.new hc5)
          obtain ⟨Av, cv, rfl, _⟩ := own_slice ho
          rw [HOK.out]
          clear ho hc5
          go_wp2_with fail
          go_roundw
          case rel => exact ⟨j + 1, by go_num, by omega, HC5⟩
          case measure => simp [intOf]; omega
        · have hjI : (n : Int) ≤ (j : Int) := by omega
          have HP := Lib.hid (show RightPost W 0 (.returned (.int .i64 0)) wr from ⟨rfl, HC.out.new HCs.out⟩)
          go_wp2_with fail
          go_ret
          exact HP.out
end
end Go.Proofs.Ytnohfdojcdhfoaa
namespace Go.Proofs.Ytnohfdojcdhfoaa
open Go.RowKit
theorem readable_of {pages most : Int} {l : List FnV} (h : RightU pages most l) : Readable l := by
  intro f hf
  obtain ⟨k, hk⟩ := List.getElem?_of_mem hf
  have hkl := (List.getElem?_eq_some_iff.1 hk).1
  refine ⟨(h.fn k f hk).2.2.1, ?_⟩
  have h0 := h.ok k hkl
  unfold rFn at h0
  rw [if_neg (by omega), Int.toNat_natCast, hk] at h0
  simp only at h0
  unfold rFunc at h0
  cases ht : tokR f.code with
  | none => rw [ht] at h0; simp only [tokE] at h0; exfalso; revert h0; split <;> simp
  | some ts =>
    rw [ht] at h0
    simp only at h0
    cases hn : rNest (signs ts) with
    | none => rw [hn] at h0; simp at h0
    | some R => exact ⟨ts, R, rfl, hn⟩
/-- Asks as a slice. -/
def QSl (w : World) (v : Value) (qs : List (Int × Int)) : Prop := ∃ A c, v = .slice A qs.length c ∧ qs.length ≤ c ∧ Src w A (qsC qs) ∧ ∀ ad, A = some ad → ad.spot = none
theorem QSl.keep {w w' : World} {v : Value} {qs : List (Int × Int)} (h : QSl w v qs) (hc : Chg [] w w') : QSl w' v qs := by
  obtain ⟨A, c, e, h1, h2, h3⟩ := h
  exact ⟨A, c, e, h1, h2.keep hc, h3⟩
theorem rown_src {w : World} {B n k : Nat} {e : TypeId} {v : Value} {xs : List Value} (h : w.ownsRow B e k v n xs) : ∃ A c, v = .slice A n c ∧ n ≤ c ∧ Src w A xs ∧ ∀ ad, A = some ad → ad.spot = none := by
  have hx := h.1
  rcases h.2 with ⟨rfl, rfl⟩ | ⟨g, cap, cur, rfl, hb, hg, hn, hc, hs, ht⟩
  · exact ⟨none, 0, rfl, Nat.le_refl _, fun h0 => by rw [hx] at h0; simp at h0, fun ad h => by cases h⟩
  · refine ⟨_, cap, rfl, hn, fun h0 => ⟨_, rfl, ?_, fun j u hj => h.cells rfl j u hj⟩, fun ad h => by injection h with h; subst h; rfl⟩
    rcases Nat.lt_or_ge g w.heap.size with h | h
    · exact h
    · rw [Array.getElem?_eq_none h] at hg; cases hg
theorem qsC_drop (qs : List (Int × Int)) : ∀ n, qsC (qs.drop n) = (qsC qs).drop (n * 2) := by
  induction qs with
  | nil => intro n; simp [qsC]
  | cons x l ih =>
    intro n
    cases n with
    | zero => simp
    | succ n =>
      rw [List.drop_succ_cons, ih n, show (n + 1) * 2 = n * 2 + 1 + 1 from by omega]
      simp [qsC]
theorem qsl_drop {w : World} {B m c n : Nat} {A : Option Addr} {qs : List (Int × Int)} (h : w.ownsRow B 39 2 (.slice A m c) m (qsC qs)) (hm : m = qs.length) (hn : n ≤ m) : QSl w (.slice (if c = n then A else Option.map (fun x => x.add (n * 2)) A) (m - n) (c - n)) (qs.drop n) := by
  obtain ⟨A', c', e', hc, hs, hA⟩ := rown_src h
  injection e' with e1 _ e3
  subst e1
  subst e3
  refine ⟨_, c - n, by rw [List.length_drop, hm], by rw [List.length_drop]; omega, fun h0 => ?_, fun ad had => ?_⟩
  · rw [qsC_len, List.length_drop] at h0
    obtain ⟨ad, rfl, hlt, hx⟩ := hs (by rw [qsC_len]; omega)
    obtain ⟨b, o, sp⟩ := ad
    obtain rfl : sp = none := hA _ rfl
    rw [if_neg (by omega)]
    refine ⟨⟨b, o + n * 2, none⟩, by simp [add_plain], hlt, fun j u hj => ?_⟩
    have := hx (n * 2 + j) u (by rw [qsC_drop, List.getElem?_drop] at hj; exact hj)
    rw [add_plain] at this ⊢
    rw [Nat.add_assoc]
    exact this
  · split at had
    · exact hA ad had
    · cases A with
      | none => cases had
      | some x =>
        simp only [Option.map_some] at had
        injection had with had
        subst had
        obtain ⟨b, o, sp⟩ := x
        obtain rfl : sp = none := hA _ rfl
        simp [add_plain]
section
variable {w : World} {p : Nat} {rs : List (Option Int)} {qs : List (Int × Int)} {a q : Value}
set_option maxHeartbeats 2000000 in
set_option maxRecDepth 100000 in
theorem asks_every (h : Rq w p rs qs a q) (hq : qs.length ≤ 1000000000) : Calls Try.prog 33 #[.pointer (some ⟨p, 0, none⟩)] w (AsksPost w qs) := by
  by_cases h0 : 0 < qs.length
  · exact asks_any h hq h0
  · obtain rfl : qs = [] := List.eq_nil_of_length_eq_zero (by omega)
    obtain ⟨i0, hi, hz0, hz1, hz2⟩ := info_parts info_rask
    obtain ⟨A2, c2, rfl, _, hcm2, hsp⟩ := rown_slice h.asks
    have e1 := h.rec_.cell 1
    have HSP := Lib.hid hsp
    clear h h0 hsp
    have HP := Lib.hid (show AsksPost w [] (.returned (.slice none 0 0)) w from ⟨_, rfl, World.ownsRow_nil _ _ _ _, Chg.refl _ _⟩)
    rcases A2 with _ | ⟨g, o, sp⟩
    · go_enter Try.func33, Try.ntmps33
      go_wp2_with fail
      go_ret
      exact HP.out
    · obtain rfl : sp = none := (HSP.out _ rfl).1
      go_enter Try.func33, Try.ntmps33
      go_wp2_with fail
      go_ret
      exact HP.out
end
end Go.Proofs.Ytnohfdojcdhfoaa
