/-
  GL: LawGl, LawGlK.
-/
import Derived.Test.YtodbeeodhekpeaaDoorZGL11
import Derived.Test.YtodbeeodhekpeaaDoorZGL12
import Derived.Test.YtodbeeodhekpeaaDoorZGL13
import Derived.Test.YtodbeeodhekpeaaDoorZGL31
import Derived.Test.YtodbeeodhekpeaaDoorZGL37
import Derived.Test.YtodbeeodhekpeaaDoorZGL39
import Derived.Test.YtodbeeodhekpeaaDoorZGL41
namespace Go.Proofs.YtodbeeodhekpeaaDoor
open Go.RowKit
open Go.Lib (decDigits encodeRune)
def tokErr (s : ByteArray) : Int := match tokR s with | some _ => 0 | none => tokE s
theorem tokPost_use {s : ByteArray} {w w' : World} {e : Ending} (h : TokPost s w e w') : ∃ A n c, e = .returned (.tuple #[.slice A n c, .int .i64 (tokErr s)]) ∧ Tks w' A n c (toksOf s) ∧ n ≤ 512 ∧ Chg [] w w' := by
  obtain ⟨hc, ⟨ts, v, h1, h2, rfl, h4⟩ | ⟨h1, rfl⟩⟩ := h
  · obtain ⟨A, c, rfl, hT⟩ := Tks.of_own h4 (by omega)
    refine ⟨A, ts.length, c, by unfold tokErr; rw [h1], by unfold toksOf; rw [h1]; exact hT, h2, hc⟩
  · exact ⟨none, 0, 0, by unfold tokErr; rw [h1], by unfold toksOf; rw [h1]; exact Tks.nil _, by omega, hc⟩
theorem TkOk.rng {t : TkV} (h : TkOk t) : TkRng t := by
  rcases h with ⟨h1, h2, h3, h4⟩ | ⟨h1, h2, h3⟩ | ⟨h0, h1, h2, h3, h4⟩
  · exact ⟨by omega, by omega, by omega⟩
  · have a := (known_okR (named_known h1).1).1
    have b := (name_okR h3).1
    unfold okR at a b
    exact ⟨by omega, by omega, by omega⟩
  · have a := (known_okR h2).1
    unfold okR at a
    exact ⟨by omega, by omega, by omega⟩
theorem toksOf_ok (s : ByteArray) : ∀ t ∈ toksOf s, TkOk t := by
  intro t ht
  unfold toksOf at ht
  cases hs : tokR s with
  | none => rw [hs] at ht; simp at ht
  | some ts =>
    rw [hs] at ht
    have h5 : ¬ 512 < s.size := by
      intro hh
      unfold tokR at hs
      rw [if_pos hh] at hs
      cases hs
    have hr := gRun_is s h5
    rw [hs] at hr
    exact gRun_tk _ hr.symm (fun t ht => by simp at ht) trivial t ht
theorem PowB.here {w w' : World} (h : PowB w.heap.size w) (hc : Chg [] w w') : PowB w'.heap.size w' := (h.keep (Nat.le_refl _) hc).less hc.size
section
variable {w : World} {A B : Option Addr} {n c d : Nat} {l : List TkV}
set_option maxHeartbeats 2000000 in
set_option maxRecDepth 100000 in
theorem toks_same (ha : Tks w A n c l) (hb : Tks w B n d l) : Calls Tryd.prog 20 #[.slice A n c, .slice B n d] w (BoolPost true w) := by
  have HA := Lib.hid ha
  have HB := Lib.hid hb
  have HL := Lib.hid ha.len
  have hmax := ha.max
  clear ha hb
  go_enter Tryd.func20, Tryd.ntmps20
  go_wp2_with fail
  go_loopw [13] (fun i wr => ∃ k : Nat, i = .int .i64 (k : Int) ∧ k ≤ n ∧ Hid (Chg [] w wr)) (fun i _ => n - (intOf i).toNat)
  case atStart => exact ⟨0, rfl, by omega, Lib.hid (Chg.refl [] _)⟩
  case round =>
    obtain ⟨k, rfl, hk, HC⟩ := hrel
    by_cases hkn : k < n
    · have hkI : (k : Int) < (n : Int) := by omega
      have hk0 : (0 : Int) ≤ (k : Int) := by omega
      obtain ⟨t, htk⟩ : ∃ t, l[k]? = some t := ⟨l[k]'(by rw [HL.out]; exact hkn), by simp⟩
      obtain ⟨fa, oa, rfl, hal, a0, a1, a2⟩ := (HA.out.keep HC.out).cell htk
      obtain ⟨fb, ob, rfl, hbl, b0, b1, b2⟩ := (HB.out.keep HC.out).cell htk
      clear htk hal hbl
      obtain ⟨ts, tn, tm⟩ := t
      simp only at a0 a1 a2 b0 b1 b2
      go_wp2_with fail
      have HCD := Lib.hid (HC.out.drew)
      go_region
      all_goals
        go_wp2_with fail
        go_roundw
        case rel => exact ⟨k + 1, by go_num, by omega, HCD⟩
        case measure => simp [intOf]; omega
    · have hkI : ¬ (k : Int) < (n : Int) := by omega
      go_wp2_with fail
      go_ret
      exact ⟨rfl, HC.out⟩
set_option maxHeartbeats 4000000 in
set_option maxRecDepth 100000 in
theorem gsame_any (s : ByteArray) (hs : s.size ≤ 9223372036854775807) (hP : PowB w.heap.size w) : Calls Tryd.prog 14 #[.string s] w (BoolPost true w) := by
  have HP := Lib.hid hP
  clear hP
  have HG := Lib.hid (gtokens_any (w := w) s hs)
  go_enter Tryd.func14, Tryd.ntmps14
  go_wp2_with fail
  refine HG.out.mono ?_
  rintro e w1 h1
  obtain ⟨A1, n1, c1, rfl, hT1, hn1, hc1⟩ := tokPost_use h1
  have HT1 := Lib.hid hT1
  have HC1 := Lib.hid hc1
  clear h1 hT1 hc1
  go_wp2_with fail
  refine (tokens_any (w := w1) s hs).mono ?_
  rintro e w2 h2
  obtain ⟨A2, n2, c2, rfl, hT2, hn2, hc2⟩ := tokPost_use h2
  obtain rfl : n2 = n1 := by rw [← hT2.len, ← HT1.out.len]
  have HT2 := Lib.hid hT2
  have HC2 := Lib.hid (HC1.out.trans hc2)
  have HT3 := Lib.hid (HT1.out.keep hc2)
  clear h2 hT2 hc2
  have HR := Lib.hid (fun t ht => (toksOf_ok s t ht).rng)
  generalize toksOf s = L at *
  generalize tokErr s = te at *
  go_wp2_with (first
    | (go_at_call 20
       refine (toks_same HT3.out HT2.out).mono ?_
       rintro e w3 ⟨rfl, hc3⟩
       have HC3 := Lib.hid hc3
       clear hc3)
    | (go_at_call 17
       refine (gtext_any (HT3.out.keep HC3.out) HR.out (by omega) (HP.out.here (HC2.out.trans HC3.out))).mono ?_
       rintro e w4 ⟨rfl, hc4⟩
       have HC4 := Lib.hid (HC3.out.trans hc4)
       clear hc4)
    | (go_at_call 18
       refine (rtext_any (HT2.out.keep HC4.out) HR.out (by omega)).mono ?_
       rintro e w5 ⟨rfl, hc5⟩
       have HC5 := Lib.hid (HC2.out.trans (HC4.out.trans hc5))
       clear hc5))
  go_ret
  exact ⟨rfl, HC5.out⟩
set_option maxHeartbeats 2000000 in
set_option maxRecDepth 100000 in
theorem grune1_any (r : Int) : Calls Tryd.prog 13 #[.int .i32 r] w (BoolPost true w) := by
  have HG := Lib.hid (gname_any r w)
  have HN := Lib.hid (name_any r w)
  generalize nameB r = nb at *
  have HK := Lib.hid (gknown_any r w)
  have HK2 := Lib.hid (fun W => known_any r W)
  generalize knownB r = kb at *
  go_enter Tryd.func13, Tryd.ntmps13
  go_wp2_with (first
    | (go_at_call 22
       refine HG.out.mono ?_
       rintro e w1 ⟨rfl, rfl⟩)
    | (go_at_call 21
       refine HN.out.mono ?_
       rintro e w1 ⟨rfl, rfl⟩)
    | (go_at_call 35
       refine HK.out.mono ?_
       rintro e w3 ⟨rfl, hc3⟩
       have HC3 := Lib.hid hc3
       clear hc3)
    | (go_at_call 36
       refine (HK2.out _).mono ?_
       rintro e w4 ⟨rfl, hc4⟩
       have HC4 := Lib.hid (HC3.out.trans hc4)
       clear hc4))
  go_ret
  exact ⟨rfl, HC4.out⟩
end
end Go.Proofs.YtodbeeodhekpeaaDoor
namespace Go.Proofs.YtodbeeodhekpeaaDoor
open Go.RowKit
open Go.Lib (decDigits encodeRune)
def kc1 : ByteArray := ⟨#[49, 50, 32, 51, 43]⟩
def kc2 : ByteArray := ⟨#[206, 187]⟩
def kc3 : ByteArray := ⟨#[206, 187, 102, 32, 53]⟩
theorem kc1_tok : toksOf kc1 = [⟨48, 12, 0⟩, ⟨48, 3, 0⟩, ⟨43, 0, 0⟩] ∧ tokErr kc1 = 0 := by
  have h : tokR kc1 = some [⟨48, 12, 0⟩, ⟨48, 3, 0⟩, ⟨43, 0, 0⟩] := by rfl
  unfold toksOf tokErr
  rw [h]
  exact ⟨rfl, rfl⟩
theorem kc2_tok : toksOf kc2 = [] ∧ tokErr kc2 = 12 := by
  have h : tokR kc2 = none := by rfl
  unfold toksOf tokErr
  rw [h]
  exact ⟨rfl, rfl⟩
theorem kc3_tok : toksOf kc3 = [⟨955, 0, 102⟩, ⟨48, 5, 0⟩] ∧ tokErr kc3 = 0 := by
  have h : tokR kc3 = some [⟨955, 0, 102⟩, ⟨48, 5, 0⟩] := by rfl
  unfold toksOf tokErr
  rw [h]
  exact ⟨rfl, rfl⟩
theorem kc1_txt : strOf (txB false [⟨48, 12, 0⟩, ⟨48, 3, 0⟩, ⟨43, 0, 0⟩]) = ⟨#[49, 50, 32, 51, 43]⟩ := by
  have e12 : decDigits 12 = [49, 50] := by rw [Lib.decDigits_two (by omega) (by omega)]; rfl
  have e3 : decDigits 3 = [51] := by rw [Lib.decDigits_one (by omega)]; rfl
  have h : txB false [⟨48, 12, 0⟩, ⟨48, 3, 0⟩, ⟨43, 0, 0⟩] = [49, 50, 32, 51, 43] := by
    rw [txB_cons_num _ _ _ rfl, txB_cons_num _ _ _ rfl, txB_cons_known _ _ _ (by decide) (by decide) (by decide)]
    rw [show (12 : Int).toNat = 12 from rfl, show (3 : Int).toNat = 3 from rfl, e12, e3]
    rfl
  rw [h]
  rfl
section
variable {w : World}
set_option maxHeartbeats 8000000 in
set_option maxRecDepth 100000 in
theorem gl_known (hP : PowB w.heap.size w) : Calls Tryd.prog 15 #[] w (BoolPost true w) := by
  have HP := Lib.hid hP
  clear hP
  have HG1 := Lib.hid (gtokens_any (w := w) kc1 (by decide))
  have HG2 := Lib.hid (fun (W : World) => gtokens_any (w := W) kc2 (by decide))
  have HG3 := Lib.hid (fun (W : World) => gtokens_any (w := W) kc3 (by decide))
  unfold kc1 at HG1
  unfold kc2 at HG2
  unfold kc3 at HG3
  go_enter Tryd.func15, Tryd.ntmps15
  go_wp2_with fail
  refine HG1.out.mono ?_
  rintro e w1 h1
  obtain ⟨A1, n1, c1, rfl, hT1, hn1, hc1⟩ := tokPost_use (s := kc1) h1
  rw [kc1_tok.2]
  rw [kc1_tok.1] at hT1
  obtain rfl : n1 = 3 := by rw [← hT1.len]; rfl
  have HT1 := Lib.hid hT1
  have HC1 := Lib.hid hc1
  clear h1 hT1 hc1 hn1
  go_wp2_with fail
  refine (HG2.out w1).mono ?_
  rintro e w2 h2
  obtain ⟨A2, n2, c2, rfl, hT2, hn2, hc2⟩ := tokPost_use (s := kc2) h2
  rw [kc2_tok.2]
  have HC2 := Lib.hid (HC1.out.trans hc2)
  have HT1 := Lib.hid (HT1.out.keep hc2)
  clear h2 hT2 hc2 hn2
  go_wp2_with fail
  refine (HG3.out w2).mono ?_
  rintro e w3 h3
  obtain ⟨A3, n3, c3, rfl, hT3, hn3, hc3⟩ := tokPost_use (s := kc3) h3
  rw [kc3_tok.2]
  rw [kc3_tok.1] at hT3
  obtain rfl : n3 = 2 := by rw [← hT3.len]; rfl
  have HT3 := Lib.hid hT3
  have HC3 := Lib.hid (HC2.out.trans hc3)
  have HT1 := Lib.hid (HT1.out.keep hc3)
  clear h3 hT3 hc3 hn3
  obtain ⟨b1, o1, rfl, hl1, a0, a1, a2⟩ := HT1.out.cell (k := 0) rfl
  obtain ⟨b1', o1', e1, _, a3, a4, a5⟩ := HT1.out.cell (k := 1) rfl
  injection e1 with e1; injection e1 with e1 e2 _; subst e1; subst e2
  obtain ⟨b1', o1', e1, _, a6, a7, a8⟩ := HT1.out.cell (k := 2) rfl
  injection e1 with e1; injection e1 with e1 e2 _; subst e1; subst e2
  obtain ⟨b3, o3, rfl, hl3, d0, d1, d2⟩ := HT3.out.cell (k := 0) rfl
  simp only [Nat.zero_mul, Nat.one_mul, Nat.add_zero] at a0 a1 a2 a3 a4 a5 a6 a7 a8 d0 d1 d2
  clear hl1 hl3
  have HR := Lib.hid (show ∀ t ∈ ([⟨48, 12, 0⟩, ⟨48, 3, 0⟩, ⟨43, 0, 0⟩] : List TkV), TkRng t from fun t ht => by rw [← kc1_tok.1] at ht; exact (toksOf_ok kc1 t ht).rng)
  have HTX := Lib.hid kc1_txt
  have N1 := Lib.hid (show nameB 122 = true from rfl)
  have N2 := Lib.hid (show nameB 65 = false from rfl)
  have K1 := Lib.hid (fun W => gknown_any 126 W)
  rw [show knownB 126 = true from rfl] at K1
  go_wp2_with (first
    | (go_at_call 17
       refine (gtext_any HT1.out HR.out (by omega) (HP.out.here HC3.out)).mono ?_
       rintro e w4 ⟨rfl, hc4⟩
       rw [HTX.out]
       have HC4 := Lib.hid (HC3.out.trans hc4)
       clear hc4)
    | (go_at_call 22
       refine (gname_any _ _).mono ?_
       rintro e w5 ⟨rfl, rfl⟩
       first | rw [N1.out] | rw [N2.out])
    | (go_at_call 35
       refine (K1.out _).mono ?_
       rintro e w6 ⟨rfl, hc6⟩
       have HC6 := Lib.hid (HC4.out.trans hc6)
       clear hc6))
  go_ret
  exact ⟨rfl, HC6.out⟩
end
end Go.Proofs.YtodbeeodhekpeaaDoor
