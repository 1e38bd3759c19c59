/-
  EF: Gl1, Gl2, MmGrow.
-/
import Derived.Test.YtfhgnoajfipjdaaZEF1
import Derived.Test.YtfhgnoajfipjdaaZEF2
import Derived.Test.YtfhgnoajfipjdaaZEF3
import Derived.Test.YtfhgnoajfipjdaaZEF5
import Derived.Test.YtfhgnoajfipjdaaZEF12
namespace Go.Proofs.Ytfhgnoajfipjdaa
open Go.RowKit
def smallB (r : Int) : Bool := decide (97 ≤ r) && decide (r ≤ 122)
def digitB (r : Int) : Bool := decide (48 ≤ r) && decide (r ≤ 57)
def namedB (r : Int) : Bool := (r == 955) || (r == 960)
def validB (r : Int) : Bool := (decide (0 ≤ r) && decide (r < 55296)) || (decide (57343 < r) && decide (r ≤ 1114111))
theorem small_any (r : Int) (w : World) : Calls Try.prog 102 #[.int .i32 r] w fun e w' => e = .returned (.bool (smallB r)) ∧ w = w' := by
  obtain ⟨b, hb⟩ : ∃ b, b = smallB r := ⟨_, rfl⟩
  rw [← hb]
  have HB := Lib.hid hb
  clear hb
  by_cases h1 : 97 ≤ r
  · by_cases h2 : r ≤ 122
    · have HE := Lib.hid (show b = true from by rw [HB.out]; simp [smallB, h1, h2])
      go_enter Try.func102, Try.ntmps102
      go_wp2_with fail
      go_ret
      exact ⟨ret_bool HE.out.symm, rfl⟩
    · have h2d : decide (r ≤ 122) = false := by simpa using h2
      have HE := Lib.hid (show b = false from by rw [HB.out]; simp [smallB, h1, h2])
      go_enter Try.func102, Try.ntmps102
      go_wp2_with fail
      go_ret
      exact ⟨ret_bool HE.out.symm, rfl⟩
  · have h1d : decide (97 ≤ r) = false := by simpa using h1
    have HE := Lib.hid (show b = false from by rw [HB.out]; simp [smallB, h1])
    go_enter Try.func102, Try.ntmps102
    go_wp2_with fail
    go_ret
    exact ⟨ret_bool HE.out.symm, rfl⟩
theorem digit_any (r : Int) (w : World) : Calls Try.prog 147 #[.int .i32 r] w fun e w' => e = .returned (.bool (digitB r)) ∧ w = w' := by
  obtain ⟨b, hb⟩ : ∃ b, b = digitB r := ⟨_, rfl⟩
  rw [← hb]
  have HB := Lib.hid hb
  clear hb
  by_cases h1 : 48 ≤ r
  · by_cases h2 : r ≤ 57
    · have HE := Lib.hid (show b = true from by rw [HB.out]; simp [digitB, h1, h2])
      go_enter Try.func147, Try.ntmps147
      go_wp2_with fail
      go_ret
      exact ⟨ret_bool HE.out.symm, rfl⟩
    · have h2d : decide (r ≤ 57) = false := by simpa using h2
      have HE := Lib.hid (show b = false from by rw [HB.out]; simp [digitB, h1, h2])
      go_enter Try.func147, Try.ntmps147
      go_wp2_with fail
      go_ret
      exact ⟨ret_bool HE.out.symm, rfl⟩
  · have h1d : decide (48 ≤ r) = false := by simpa using h1
    have HE := Lib.hid (show b = false from by rw [HB.out]; simp [digitB, h1])
    go_enter Try.func147, Try.ntmps147
    go_wp2_with fail
    go_ret
    exact ⟨ret_bool HE.out.symm, rfl⟩
theorem named_any (r : Int) (w : World) : Calls Try.prog 149 #[.int .i32 r] w fun e w' => e = .returned (.bool (namedB r)) ∧ w = w' := by
  by_cases h1 : r = 955
  · subst h1
    go_enter Try.func149, Try.ntmps149
    go_wp2_with fail
    go_ret
    exact ⟨rfl, rfl⟩
  · have q1 : (r == 955) = false := by simpa using h1
    have HE := Lib.hid (show (r == 960) = namedB r from by unfold namedB; rw [q1]; rfl)
    clear h1
    go_enter Try.func149, Try.ntmps149
    go_wp2_with fail
    go_ret
    exact ⟨ret_bool HE.out, rfl⟩
set_option maxHeartbeats 1000000 in
theorem valid_any (r : Int) (w : World) : Calls Try.prog 103 #[.int .i32 r] w fun e w' => e = .returned (.bool (validB r)) ∧ w = w' := by
  obtain ⟨b, hb⟩ : ∃ b, b = validB r := ⟨_, rfl⟩
  rw [← hb]
  have HB := Lib.hid hb
  clear hb
  rcases Int.lt_or_le r 0 with h | h
  · have d1 : decide (0 ≤ r) = false := by simp; omega
    have d2 : decide (57343 < r) = false := by simp; omega
    have HE := Lib.hid (show b = false from by rw [HB.out]; simp [validB]; omega)
    go_enter Try.func103, Try.ntmps103
    go_wp2_with fail
    go_ret
    exact ⟨ret_bool HE.out.symm, rfl⟩
  · rcases Int.lt_or_le r 55296 with h2 | h2
    · skip
      have HE := Lib.hid (show b = true from by rw [HB.out]; simp [validB]; omega)
      go_enter Try.func103, Try.ntmps103
      go_wp2_with fail
      go_ret
      exact ⟨ret_bool HE.out.symm, rfl⟩
    · have d1 : decide (r < 55296) = false := by simp; omega
      rcases Int.lt_or_le 57343 r with h3 | h3
      · rcases Int.lt_or_le 1114111 r with h4 | h4
        · have d2 : decide (r ≤ 1114111) = false := by simp; omega
          have HE := Lib.hid (show b = false from by rw [HB.out]; simp [validB]; omega)
          go_enter Try.func103, Try.ntmps103
          go_wp2_with fail
          go_ret
          exact ⟨ret_bool HE.out.symm, rfl⟩
        · skip
          have HE := Lib.hid (show b = true from by rw [HB.out]; simp [validB]; omega)
          go_enter Try.func103, Try.ntmps103
          go_wp2_with fail
          go_ret
          exact ⟨ret_bool HE.out.symm, rfl⟩
      · have d2 : decide (57343 < r) = false := by simp; omega
        have HE := Lib.hid (show b = false from by rw [HB.out]; simp [validB]; omega)
        go_enter Try.func103, Try.ntmps103
        go_wp2_with fail
        go_ret
        exact ⟨ret_bool HE.out.symm, rfl⟩
theorem name_small {r : Int} (h : smallB r = true) : nameB r = true := by
  unfold smallB at h
  unfold nameB
  rw [h]; rfl
theorem name_valid {r : Int} (h : smallB r = false) (h2 : 255 < r) : nameB r = (validB r && (r != 65533)) := by
  unfold smallB at h
  unfold nameB validB
  rw [h]
  have e1 : decide (255 < r) = true := by simpa using h2
  have e2 : decide (0 ≤ r) = true := by simp; omega
  rw [e1, e2]
  cases hq : (r != 65533) <;> simp
  · rcases Int.lt_or_le r 55296 with h3 | h3
    · have : decide (r ≤ 1114111) = true := by simp; omega
      have : decide (r < 55296) = true := by simp; omega
      simp_all
    · have : decide (r < 55296) = false := by simp; omega
      rw [this]; simp [Bool.and_comm]
theorem name_low {r : Int} (h : smallB r = false) (h2 : ¬ 255 < r) : nameB r = false := by
  unfold smallB at h
  unfold nameB
  have e1 : decide (255 < r) = false := by simpa using h2
  rw [h, e1]; rfl
set_option maxHeartbeats 1000000 in
theorem gname_any (r : Int) (w : World) : Calls Try.prog 62 #[.int .i32 r] w fun e w' => e = .returned (.bool (nameB r)) ∧ w = w' := by
  cases hs : smallB r with
  | true =>
    have HE := Lib.hid (name_small hs)
    have HS := Lib.hid hs
    clear hs
    go_enter Try.func62, Try.ntmps62
    go_wp2_with fail
    refine (small_any r _).mono ?_
    rw [HS.out]
    rintro e w' ⟨rfl, rfl⟩
    go_wp2_with fail
    go_ret
    exact ⟨ret_bool HE.out.symm, rfl⟩
  | false =>
    by_cases h2 : 255 < r
    · cases hv : validB r with
      | true =>
        have HE := Lib.hid (show (r != 65533) = nameB r from by rw [name_valid hs h2, hv]; rfl)
        have HS := Lib.hid hs
        have HV := Lib.hid hv
        clear hs hv
        go_enter Try.func62, Try.ntmps62
        go_wp2_with fail
        refine (small_any r _).mono ?_
        rw [HS.out]
        rintro e w' ⟨rfl, rfl⟩
        go_wp2_with fail
        refine (valid_any r _).mono ?_
        rw [HV.out]
        rintro e w' ⟨rfl, rfl⟩
        go_wp2_with fail
        go_ret
        exact ⟨ret_bool HE.out, rfl⟩
      | false =>
        have HE := Lib.hid (show nameB r = false from by rw [name_valid hs h2, hv]; rfl)
        have HS := Lib.hid hs
        have HV := Lib.hid hv
        clear hs hv
        go_enter Try.func62, Try.ntmps62
        go_wp2_with fail
        refine (small_any r _).mono ?_
        rw [HS.out]
        rintro e w' ⟨rfl, rfl⟩
        go_wp2_with fail
        refine (valid_any r _).mono ?_
        rw [HV.out]
        rintro e w' ⟨rfl, rfl⟩
        go_wp2_with fail
        go_ret
        exact ⟨ret_bool HE.out.symm, rfl⟩
    · have HE := Lib.hid (name_low hs h2)
      have HS := Lib.hid hs
      have d2 : decide (255 < r) = false := by simpa using h2
      clear hs h2
      go_enter Try.func62, Try.ntmps62
      go_wp2_with fail
      refine (small_any r _).mono ?_
      rw [HS.out]
      rintro e w' ⟨rfl, rfl⟩
      go_wp2_with fail
      go_ret
      exact ⟨ret_bool HE.out.symm, rfl⟩
end Go.Proofs.Ytfhgnoajfipjdaa
namespace Go.Proofs.Ytfhgnoajfipjdaa
open Go.RowKit
def signAt (f pos : Nat) (r : Int) : Bool := (runesAt signS f pos).any fun x => (x : Int) == r
theorem sign_at0 (r : Int) : signAt signS.size 0 r = signL.any fun x => (x : Int) == r := by
  unfold signAt
  rw [show runesAt signS signS.size 0 = runesL signS from rfl, sign_runes]
set_option maxHeartbeats 4000000 in
set_option maxRecDepth 100000 in
theorem gsign_walk (r : Int) (w : World) (h1 : smallB r = false) (h2 : (decide (65 ≤ r) && decide (r ≤ 90)) = false) : Calls Try.prog 150 #[.int .i32 r] w (BoolPost (signL.any fun x => (x : Int) == r) w) := by
  have hpick : decide (65 ≤ r) = false ∨ (decide (65 ≤ r) = true ∧ decide (r ≤ 90) = false) := by
    cases hq : decide (65 ≤ r) with
    | false => exact .inl rfl
    | true => rw [hq] at h2; exact .inr ⟨rfl, by simpa using h2⟩
  have HB := Lib.hid (sign_at0 r)
  generalize (signL.any fun x => (x : Int) == r) = b at HB ⊢
  obtain ⟨s, hs⟩ : ∃ s : ByteArray, s = ⟨#[43, 45, 42, 47, 37, 38, 124, 94, 60, 61, 33, 46, 44, 64, 36, 35, 63, 58, 59, 91, 93, 126, 194, 171, 194, 187, 194, 169, 194, 174, 194, 164, 194, 161, 206, 187, 207, 128]⟩ := ⟨_, rfl⟩
  have HSS := Lib.hid (show signS = s from hs.symm)
  have HS := Lib.hid hs
  have H1 := Lib.hid h1
  have hss : s.size = 38 := by rw [hs]; rfl
  have HZ := Lib.hid hss
  clear hs h1 h2 hss
  rcases hpick with hp | ⟨hp, hp2⟩
  all_goals
    go_enter Try.func150, Try.ntmps150
    go_wp2_with fail
    refine (small_any r _).mono ?_
    rw [H1.out]
    rintro e w' ⟨rfl, rfl⟩
    go_upto_region 4 with fail
    rw [← HS.out]
    have hI : (w.iter s 0).heap[w.heap.size]? = some (.stringIter s 0) := World.iter_heap w s 0
    have hc0 : Chg [] w (w.iter s 0) := (Chg.refl [] w).alloc _
    obtain ⟨kI, hkI⟩ : ∃ k, k = w.heap.size := ⟨_, rfl⟩
    rw [← hkI] at hI ⊢
    generalize w.iter s 0 = w1 at hI hc0 ⊢
    have HI := Lib.hid hI
    have HC0 := Lib.hid hc0
    have HK := Lib.hid hkI
    clear hI hc0 hkI
    go_loopw [4] (fun _ wr => (∃ pos f, Hid (wr.heap[kI]? = some (.stringIter s pos)) ∧ s.size - pos ≤ f ∧ Hid (b = signAt f pos r)) ∧ Hid (Chg [kI] w1 wr)) (fun _ wr => s.size - wr.iterPos kI)
    case atStart => exact ⟨⟨0, s.size, HI, by omega, Lib.hid (by rw [← HSS.out]; exact HB.out.symm)⟩, Lib.hid (Chg.refl _ _)⟩
    case round =>
      obtain ⟨⟨pos, f, HIr, hf, HR⟩, HCr⟩ := hrel
      have HCZ := Lib.hid (fun (W : World) (hW : Chg [kI] w1 W) => show Chg [] w W from HC0.out.then_ hW (fun i hi hl => by have := HK.out; simp only [List.mem_cons, List.not_mem_nil, or_false] at hi; omega))
      by_cases hlt : pos < s.size
      · obtain ⟨f', rfl⟩ : ∃ f', f = f' + 1 := ⟨f - 1, by omega⟩
        have hnx := fun ty => Lib.run_next_any_at (P := Try.prog) wr kI s pos ty HIr.out hlt
        go_upto_region 6 with fail
        obtain ⟨d, hd⟩ : ∃ d, d = (Utf8.decode s pos).2 := ⟨_, rfl⟩
        obtain ⟨x, hx⟩ : ∃ r, r = (Utf8.decode s pos).1 := ⟨_, rfl⟩
        have hw := width_pos s pos hlt
        rw [← hd] at hw
        have HR2 := Lib.hid (show b = (((x : Int) == r) || signAt f' (pos + d) r) from by rw [HR.out]; unfold signAt; rw [HSS.out, runesAt, if_pos hlt, ← hd, ← hx]; simp)
        have HI2 := Lib.hid (Lib.iterAt_heap wr kI s pos (pos + d) HIr.out)
        have HC2 := Lib.hid (show Chg [kI] w1 (wr.iterAt kI s (pos + d)) from HCr.out.trans ⟨rfl, rfl, rfl, by rw [Lib.iterAt_size]; exact Nat.le_refl _, fun i _ hn => Lib.iterAt_other wr kI i s (pos + d) (by simpa using hn)⟩)
        rw [← hd, ← hx]
        have HMP := Lib.hid (show wr.iterPos kI = pos from by unfold World.iterPos; rw [HIr.out])
        have HP2 := Lib.hid (show (wr.iterAt kI s (pos + d)).iterPos kI = pos + d from by unfold World.iterPos; rw [HI2.out])
        generalize wr.iterAt kI s (pos + d) = w3 at HI2 HC2 HP2 ⊢
        clear hx hd hnx
        by_cases hxr : (x : Int) = r
        · have hxd : ((x : Int) == r) = true := by simpa using hxr
          have HPO := Lib.hid (show BoolPost b w (.returned (.bool true)) w3 from ⟨by rw [HR2.out, hxd]; rfl, HCZ.out _ HC2.out⟩)
          clear hxr
          go_wp2_with fail
          go_ret
          exact HPO.out
        · have hxd : ((x : Int) == r) = false := by simpa using hxr
          have HR3 := Lib.hid (show b = signAt f' (pos + d) r from by rw [HR2.out, hxd]; rfl)
          go_wp2_with fail
          go_roundw
          case rel => exact ⟨⟨pos + d, f', HI2, by omega, HR3⟩, HC2⟩
          case measure => rw [HP2.out, HMP.out]; omega
      · have hnx := fun ty => Lib.run_next_end_at (P := Try.prog) wr kI s pos ty HIr.out hlt
        have HPO := Lib.hid (show BoolPost b w (.returned (.bool false)) wr from ⟨by rw [HR.out]; unfold signAt; rw [HSS.out]; cases f with
          | zero => simp [runesAt]
          | succ f => rw [runesAt, if_neg hlt]; simp, HCZ.out _ HCr.out⟩)
        go_wp2_with fail
        go_ret
        exact HPO.out
theorem gknown_any (r : Int) (w : World) : Calls Try.prog 150 #[.int .i32 r] w (BoolPost (knownB r) w) := by
  cases hs : smallB r with
  | true =>
    have HE := Lib.hid (show knownB r = true from by unfold knownB; unfold smallB at hs; rw [hs]; rfl)
    have HS := Lib.hid hs
    clear hs
    go_enter Try.func150, Try.ntmps150
    go_wp2_with fail
    refine (small_any r _).mono ?_
    rw [HS.out]
    rintro e w' ⟨rfl, rfl⟩
    go_wp2_with fail
    go_ret
    exact ⟨ret_bool HE.out.symm, Chg.refl _ _⟩
  | false =>
    cases hZ : (decide (65 ≤ r) && decide (r ≤ 90)) with
    | true =>
      have HE := Lib.hid (show knownB r = true from by unfold knownB; rw [hZ]; simp)
      have h3 : 65 ≤ r := by simp at hZ; omega
      have h4 : r ≤ 90 := by simp at hZ; omega
      have HS := Lib.hid hs
      clear hs hZ
      go_enter Try.func150, Try.ntmps150
      go_wp2_with fail
      refine (small_any r _).mono ?_
      rw [HS.out]
      rintro e w' ⟨rfl, rfl⟩
      go_wp2_with fail
      go_ret
      exact ⟨ret_bool HE.out.symm, Chg.refl _ _⟩
    | false =>
      have h := gsign_walk r w hs hZ
      have e : knownB r = signL.any fun x => (x : Int) == r := by
        unfold knownB
        unfold smallB at hs
        rw [hs, hZ]; simp
      rw [e]
      exact h
end Go.Proofs.Ytfhgnoajfipjdaa
namespace Go.Proofs.Ytfhgnoajfipjdaa
open Go.RowKit
theorem whole_of_own {w : World} {B g n cap : Nat} {e : TypeId} {xs : List Value} (h : w.ownsRow B e 1 (.slice (some ⟨g, 0, none⟩) n cap) n xs) : ∃ X : List Value, cap = n + X.length ∧ Whole w g e (xs ++ X) ∧ cap ≤ maxLen ∧ xs.length = n := by
  have hx := h.1
  rcases h.2 with ⟨h', _⟩ | ⟨g', cap', cur, h', hb, hg, hnc, hcm, hcs, htake⟩
  · simp at h'
  · simp only [Value.slice.injEq, Option.some.injEq, Addr.mk.injEq, and_true, true_and] at h'
    obtain ⟨rfl, rfl⟩ := h'
    rw [Nat.mul_one] at hcs htake hx
    have hl : cur.toList.length = cap := by rw [Array.length_toList]; exact hcs
    refine ⟨cur.toList.drop n, by rw [List.length_drop, hl]; omega, ?_, hcm, hx⟩
    unfold Whole
    rw [← htake, List.take_append_drop]
    exact hg
theorem own_mm {w : World} {g n : Nat} {e : TypeId} {xs X : List Value} (h : Whole w g e (xs ++ X)) (hx : xs.length = n) (hm : n + X.length ≤ maxLen) : w.ownsRow 0 e 1 (.slice (some ⟨g, 0, none⟩) n (n + X.length)) n xs := by
  have := own_of_whole (B := 0) (n := n) h (Nat.zero_le _) (c := n + X.length) (by rw [List.length_append, hx]) (by omega) hm
  rwa [List.take_left' hx] at this
/-- What is known of a memory while it grows. -/
structure Gm (w : World) (p gC gD : Nat) (nC cC nD cD most : Nat) (xs : List Value) (ys : List Value) : Prop where
  rec_ : Whole w p 109 [.slice (some ⟨gC, 0, none⟩) nC cC, .int .i64 (most : Int), .slice (some ⟨gD, 0, none⟩) nD cD]
  cel : w.ownsRow 0 5 1 (.slice (some ⟨gC, 0, none⟩) nC cC) nC xs
  dir : w.ownsRow 0 4 1 (.slice (some ⟨gD, 0, none⟩) nD cD) nD ys
theorem own_keepT {w w' : World} {T : List Nat} {B e g n cap : Nat} {xs : List Value} (h : w.ownsRow B e 1 (.slice (some ⟨g, 0, none⟩) n cap) n xs) (hc : Chg T w w') (hg : g ∉ T) : w'.ownsRow B e 1 (.slice (some ⟨g, 0, none⟩) n cap) n xs := by
  refine ⟨h.1, ?_⟩
  rcases h.2 with h' | ⟨g', cap', cur, h', hb, hgg, rest⟩
  · exact .inl h'
  · simp only [Value.slice.injEq, Option.some.injEq, Addr.mk.injEq, and_true, true_and] at h'
    obtain ⟨rfl, rfl⟩ := h'
    have hlt : g < w.heap.size := by
      rcases Nat.lt_or_ge g w.heap.size with hlt | hge
      · exact hlt
      · rw [Array.getElem?_eq_none hge] at hgg; cases hgg
    exact .inr ⟨g, cap, cur, rfl, hb, (hc.block g hlt hg).trans hgg, rest⟩
theorem mown_ne {w : World} {B B' e e' g g' n n' c c' : Nat} {xs ys : List Value} (h : w.ownsRow B e 1 (.slice (some ⟨g, 0, none⟩) n c) n xs) (h' : w.ownsRow B' e' 1 (.slice (some ⟨g', 0, none⟩) n' c') n' ys) (hne : e ≠ e') : g ≠ g' := by
  obtain ⟨X, _, hX, _⟩ := whole_of_own h
  obtain ⟨Y, _, hY, _⟩ := whole_of_own h'
  exact hX.ne_ hY hne
theorem own_rec_ne {w : World} {B e e' g p n c : Nat} {xs cs : List Value} (h : w.ownsRow B e 1 (.slice (some ⟨g, 0, none⟩) n c) n xs) (h' : Whole w p e' cs) (hne : e' ≠ e) : p ≠ g := by
  obtain ⟨X, _, hX, _⟩ := whole_of_own h
  exact h'.ne_ hX hne
section
variable {w w' : World} {p gC gD nC cC nD cD most : Nat} {xs ys : List Value}
theorem Gm.keep (h : Gm w p gC gD nC cC nD cD most xs ys) (hc : Chg [] w w') : Gm w' p gC gD nC cC nD cD most xs ys := ⟨h.rec_.keep hc, own_keep h.cel hc, own_keep h.dir hc⟩
/-- The bytes have grown, and the struct tells it. -/
theorem Gm.cells_set (h : Gm w p gC gD nC cC nD cD most xs ys) {g' n' c' : Nat} {zs : List Value} {w2 : World} (ho : w2.ownsRow 0 5 1 (.slice (some ⟨g', 0, none⟩) n' c') n' zs) (hg : w.grownBy w2 (some gC)) :
    Gm (w2.setCell ⟨p, 0, none⟩ (.slice (some ⟨g', 0, none⟩) n' c')) p g' gD n' c' nD cD most zs ys ∧ Whole w2 p 109 [.slice (some ⟨gC, 0, none⟩) nC cC, .int .i64 (most : Int), .slice (some ⟨gD, 0, none⟩) nD cD] ∧
      Chg [p, gC] w (w2.setCell ⟨p, 0, none⟩ (.slice (some ⟨g', 0, none⟩) n' c')) := by
  have d1 := own_rec_ne h.cel h.rec_ (by decide)
  have d2 := mown_ne h.cel h.dir (by decide)
  have hc : Chg [gC] w w2 := Chg.of_grown hg (fun g e _ => by simp only [Option.some.injEq] at e; simp [e])
  have hr := h.rec_.chg hc (by simpa using d1)
  have hd := own_keepT h.dir hc (by simpa using Ne.symm d2)
  have d3 := own_rec_ne ho hr (by decide)
  have d4 := own_rec_ne hd hr (by decide)
  have hs : Chg [p] w2 (w2.setCell ⟨p, 0, none⟩ (.slice (some ⟨g', 0, none⟩) n' c')) := (Chg.refl [p] w2).setCell (by simp) _
  refine ⟨⟨hr.set_ 0 _, own_keepT ho hs (by simpa using Ne.symm d3), own_keepT hd hs (by simpa using Ne.symm d4)⟩, hr, ?_⟩
  exact (hc.sub (T' := [p, gC]) (by simp)).setCell (by simp) _
theorem Gm.dirty_set (h : Gm w p gC gD nC cC nD cD most xs ys) {g' n' c' : Nat} {zs : List Value} {w2 : World} (ho : w2.ownsRow 0 4 1 (.slice (some ⟨g', 0, none⟩) n' c') n' zs) (hg : w.grownBy w2 (some gD)) :
    Gm (w2.setCell ⟨p, 2, none⟩ (.slice (some ⟨g', 0, none⟩) n' c')) p gC g' nC cC n' c' most xs zs ∧ Whole w2 p 109 [.slice (some ⟨gC, 0, none⟩) nC cC, .int .i64 (most : Int), .slice (some ⟨gD, 0, none⟩) nD cD] ∧
      Chg [p, gD] w (w2.setCell ⟨p, 2, none⟩ (.slice (some ⟨g', 0, none⟩) n' c')) := by
  have d1 := own_rec_ne h.dir h.rec_ (by decide)
  have d2 := mown_ne h.cel h.dir (by decide)
  have hc : Chg [gD] w w2 := Chg.of_grown hg (fun g e _ => by simp only [Option.some.injEq] at e; simp [e])
  have hr := h.rec_.chg hc (by simpa using d1)
  have hd := own_keepT h.cel hc (by simpa using d2)
  have d3 := own_rec_ne ho hr (by decide)
  have d4 := own_rec_ne hd hr (by decide)
  have hs : Chg [p] w2 (w2.setCell ⟨p, 2, none⟩ (.slice (some ⟨g', 0, none⟩) n' c')) := (Chg.refl [p] w2).setCell (by simp) _
  refine ⟨⟨hr.set_ 2 _, own_keepT hd hs (by simpa using Ne.symm d4), own_keepT ho hs (by simpa using Ne.symm d3)⟩, hr, ?_⟩
  exact (hc.sub (T' := [p, gD]) (by simp)).setCell (by simp) _
end
section
variable {w : World} {p gC gD : Nat} {L : List UInt8} {X : List Value} {V : List Bool} {Y : List Value} {most : Nat}
theorem Mm.gm (h : Mm w p gC gD L X V Y most) : Gm w p gC gD L.length (L.length + X.length) V.length (V.length + Y.length) most (bts L) (bls V) :=
  ⟨h.rec_, own_mm h.cel (bts_len L) h.capX, own_mm h.dir (bls_len V) h.capY⟩
theorem Gm.mm {nC cC nD cD : Nat} {xs ys : List Value} (h : Gm w p gC gD nC cC nD cD most xs ys) (hx : xs = bts L) (hy : ys = bls V) (h1 : L.length = 64 * V.length) (h2 : V.length ≤ most) (h3 : most ≤ 64) : ∃ X Y, Mm w p gC gD L X V Y most := by
  subst hx hy
  obtain ⟨X, eX, hX, mX, lX⟩ := whole_of_own h.cel
  obtain ⟨Y, eY, hY, mY, lY⟩ := whole_of_own h.dir
  rw [bts_len] at lX
  rw [bls_len] at lY
  subst lX lY eX eY
  exact ⟨X, Y, h.rec_, hX, hY, h1, h2, h3, mX, mY⟩
set_option maxHeartbeats 400000 in
theorem grow_no (h : Mm w p gC gD L X V Y most) (n : Int) (hn : n < 0 ∨ (most : Int) - V.length < n) :
    Calls Try.prog 169 #[.pointer (some ⟨p, 0, none⟩), .int .i64 n] w fun e w' => e = .returned (.int .i64 (-1)) ∧ w = w' := by
  have c1 := h.rec_.cell 1
  have b1 := h.le
  have b2 := h.top
  by_cases h0 : n < 0
  · have hd : decide (n < 0) = true := by simpa using h0
    clear hn
    go_enter Try.func169, Try.ntmps169
    go_wp2_with (go_at_call 168; refine (pages_any h).mono ?_; rintro e w' ⟨rfl, rfl⟩)
    go_ret
    exact ⟨rfl, rfl⟩
  · have hd : decide (n < 0) = false := by simpa using h0
    have hd2 : decide ((most : Int) - (V.length : Int) < n) = true := by simp; omega
    clear hn
    go_enter Try.func169, Try.ntmps169
    go_wp2_with (go_at_call 168; refine (pages_any h).mono ?_; rintro e w' ⟨rfl, rfl⟩)
    go_ret
    exact ⟨rfl, rfl⟩
def trs (k : Nat) : List Bool := List.replicate k true
/-- What Grow has done. -/
def GrowPost (w : World) (p gC gD : Nat) (L : List UInt8) (V : List Bool) (most k : Nat) (e : Ending) (w' : World) : Prop :=
  ∃ gC' gD' X' Y', e = .returned (.int .i64 (V.length : Int)) ∧ Mm w' p gC' gD' (L ++ zeros (64 * k)) X' (V ++ trs k) Y' most ∧ Chg [p, gC, gD] w w' ∧ (gC' = gC ∨ w.heap.size ≤ gC') ∧ (gD' = gD ∨ w.heap.size ≤ gD')
theorem trs_len (k : Nat) : (trs k).length = k := by simp [trs]
theorem trs_next (j : Nat) : bls (trs j) ++ [Value.bool true] = bls (trs (j + 1)) := by
  unfold trs bls; rw [List.map_replicate, List.map_replicate, List.replicate_succ', ]
theorem own_some {w : World} {B e n : Nat} {v : Value} {xs : List Value} (h : w.ownsRow B e 1 v (n + 1) xs) : ∃ g c, v = .slice (some ⟨g, 0, none⟩) (n + 1) c := by
  rcases h.2 with ⟨_, h'⟩ | ⟨g, c, _, h', _⟩
  · omega
  · exact ⟨g, c, h'⟩
theorem tn_int64 : Try.prog.underlying 2 = some (.int .i64) := by kernel_rfl
set_option maxHeartbeats 2000000 in
set_option maxRecDepth 100000 in
theorem grow_yes (h : Mm w p gC gD L X V Y most) (k : Nat) (hk : V.length + k ≤ most) :
    Calls Try.prog 169 #[.pointer (some ⟨p, 0, none⟩), .int .i64 (k : Int)] w (GrowPost w p gC gD L V most k) := by
  obtain ⟨i, hi, hz, hs1, hb⟩ := info_parts info_u8
  obtain ⟨i2, hi2, hz2, hs2, hb2⟩ := info_parts info_bool
  have c0 := h.rec_.cell 0
  have c1 := h.rec_.cell 1
  have b1 := h.small
  have b2 := h.smallV
  have b3 := h.top
  have hlen := h.len
  have hd2 : decide ((most : Int) - (V.length : Int) < (k : Int)) = false := by simp; omega
  obtain ⟨g', cap', w2, hr, ho2, hg2, hor⟩ := run_append_zeros (P := Try.prog) w 0 46 2 46 5 i _ 1 .i64 Try.underlying46 tn_int64 hi hz hs1 hb rfl rfl gC L.length (L.length + X.length) (bts L) h.gm.cel (k * 64) (by unfold maxLen; omega) (by omega) (Nat.zero_le _)
  obtain ⟨hG, hR2, hC2⟩ := h.gm.cells_set ho2 hg2
  have c2 := hR2.cell 0
  have f2 := hR2.frozen 0
  have ek : ((k * 64 : Nat) : Int) = (k : Int) * 64 := by omega
  rw [ek] at hr
  have HG := Lib.hid hG
  have HC := Lib.hid hC2
  have HR := Lib.hid hr
  have HL := Lib.hid hlen
  have HH := Lib.hid h
  have HO := Lib.hid hor
  clear hG hC2 hr ho2 hg2 hR2 hlen ek hor
  go_enter Try.func169, Try.ntmps169
  go_wp2_with (first
    | (go_at_call 168; refine (pages_any HH.out).mono ?_; rintro e w' ⟨rfl, rfl⟩)
    | (at_builtin; refine Lib.wpList_append_run w rfl (.tmp 24) (.tmp 26) 46 2 rfl _ _ rfl rfl _ _ HR.out ?_))
  go_loopw [31] (fun i wr => ∃ j : Nat, j ≤ k ∧ i = .int .i64 (j : Int) ∧ (∃ gD' n' c', n' = V.length + j ∧ Gm wr p g' gD' (L.length + k * 64) cap' n' c' most (bts L ++ List.replicate (k * 64) (.int .u8 0)) (bls V ++ bls (trs j)) ∧ (gD' = gD ∨ w.heap.size ≤ gD')) ∧ Chg [p, gC, gD] w wr) (fun i _ => k - (intOf i).toNat)
  case atStart => exact ⟨0, by omega, rfl, ⟨gD, _, _, rfl, by simpa [trs, bls] using HG.out, .inl rfl⟩, HC.out.sub (by simp)⟩
  case round =>
    obtain ⟨j, hj, rfl, ⟨gE, n', c', hn', hGm, hgE⟩, hCr⟩ := hrel
    have hn1 : n' ≤ V.length + j := by omega
    have HN := Lib.hid hn'
    have HGm := Lib.hid hGm
    have HCr := Lib.hid hCr
    have HE := Lib.hid hgE
    clear c0 c1 c2 f2 hn' hgE
    by_cases hlt : j < k
    · have c2 := hGm.rec_.cell 2
      have hGa := hGm.keep ((Chg.refl [] wr).alloc (.cells #[.bool true] 4))
      have HA := Lib.hid hGa
      have hs2' : Src (wr.alloc (.cells #[.bool true] 4)) (some ⟨wr.heap.size, 0, none⟩) [.bool true] := Src.of_all (Whole.new wr 4 [.bool true])
      have h1 : ∀ u ∈ [Value.bool true], u.oneCell' = true := by simp [Value.oneCell']
      have x1 := Lib.hid (show n' + 1 ≤ maxLen by unfold maxLen; omega)
      have x2 := Lib.hid (show (n' + 1) * 1 ≤ 140737488355328 by omega)
      have HX := Lib.hid hs2'
      clear hCr hGm hGa hs2'
      go_wp2_with (at_builtin
                   refine wpList_append_src rfl (.tmp 37) (.tmp 38) 107 rfl 0 4 i2 _ 1 Try.underlying107 hi2 hz2 hs2 hb2 rfl (.slice (some ⟨gE, 0, none⟩) n' c') n' (bls V ++ bls (trs j)) rfl HA.out.dir (some ⟨wr.heap.size, 0, none⟩) 1 1 [.bool true] rfl rfl HX.out h1 x1.out x2.out (Nat.zero_le _) ?_
                   intro v4 w4 ho4 hg4 hv4
                   obtain ⟨g4, c4, rfl⟩ := own_some ho4
                   obtain ⟨hG4, hR4, hC4⟩ := HA.out.dirty_set ho4 hg4
                   have HG4 := Lib.hid hG4
                   have HC4 := Lib.hid hC4
                   have HV4 := Lib.hid hv4
                   have c24 := hR4.cell 2
                   have f24 := hR4.frozen 2
                   clear hG4 hR4 hC4 ho4 hg4 hv4)
      go_roundw
      case rel =>
        have hsz := HCr.out.size
        refine ⟨j + 1, by omega, by go_num, ⟨g4, n' + 1, c4, by rw [HN.out]; omega, ?_, ?_⟩, ?_⟩
        · have := HG4.out
          rwa [List.append_assoc, trs_next] at this
        · have hv := HV4.out
          simp only [Value.ownBlock, Option.some.injEq, World.size_alloc] at hv
          rcases hv with hv | hv
          · rw [hv]; exact HE.out
          · right; omega
        · refine (HCr.out.alloc _).then_ HC4.out fun q hq hlt => ?_
          simp only [List.mem_cons, List.not_mem_nil, or_false] at hq ⊢
          rcases hq with rfl | rfl
          · exact .inl rfl
          · rcases HE.out with rfl | hE
            · exact .inr (.inr rfl)
            · omega
      case measure => simp [intOf] <;> omega
    · obtain rfl : j = k := by omega
      go_wp2_with fail
      go_ret
      have hn := HN.out
      have hO := HO.out
      have hL := HL.out
      obtain ⟨X', Y', hM⟩ := HGm.out.mm (L := L ++ zeros (64 * j)) (V := V ++ trs j) (by simp [bts, zeros, B8, Nat.mul_comm]) (by simp [bls]) (by rw [List.length_append, List.length_append, zeros_len, trs_len]; omega) (by rw [List.length_append, trs_len]; omega) b3
      exact ⟨g', gE, X', Y', rfl, hM, HCr.out, by omega, HE.out⟩
end
end Go.Proofs.Ytfhgnoajfipjdaa
