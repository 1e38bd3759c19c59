/-
  GL: RTxt2.
-/
import Derived.Test.YtodbeeodhekpeaaDoorZGL39
import Derived.Test.YtodbeeodhekpeaaDoorZGL40
namespace Go.Proofs.YtodbeeodhekpeaaDoor
open Go.RowKit
open Go.Lib (decDigits encodeRune)
section
variable {w : World} {A : Option Addr} {n c : Nat} {l : List TkV}
set_option maxHeartbeats 8000000 in
set_option maxRecDepth 100000 in
theorem rtext_any (hT : Tks w A n c l) (hr : ∀ t ∈ l, TkRng t) (hn : n ≤ 1000) : Calls Tryd.prog 18 #[.slice A n c] w (StrPost (txB false l) w) := by
  have HT := Lib.hid hT
  have HR := Lib.hid hr
  have HNL := Lib.hid hT.len
  clear hT hr
  go_enter Tryd.func18, Tryd.ntmps18
  go_wp2_with fail
  go_loopw [3, 4, 9] (fun v b i wr => ∃ (k : Nat) (nb : Bool) (out : List UInt8), i = .int .i64 (k : Int) ∧ b = .bool nb ∧ v = .string (strOf out) ∧ k ≤ n ∧ Hid (out.length ≤ 25 * k) ∧ Hid (out ++ txB nb (l.drop k) = txB false l) ∧ Hid (Chg [] w wr)) (fun _ _ i _ => n - (intOf i).toNat)
  case atStart => exact ⟨0, false, [], rfl, rfl, rfl, by omega, Lib.hid (by simp), Lib.hid rfl, Lib.hid (Chg.refl [] _)⟩
  case round =>
    obtain ⟨k, nb, out, rfl, rfl, rfl, hk, HNO, HX, HC⟩ := hrel
    by_cases hkn : k < n
    · have hkI : (k : Int) < (n : Int) := by omega
      obtain ⟨t, htk⟩ : ∃ t, l[k]? = some t := ⟨l[k]'(by rw [HNL.out]; exact hkn), by simp⟩
      have htr := HR.out t (List.mem_of_getElem? htk)
      obtain ⟨fb, fo, rfl, hfbl, e0, e1, e2⟩ := (HT.out.keep HC.out).cell htk
      have HD := Lib.hid (show l.drop k = t :: l.drop (k + 1) from List.drop_eq_getElem?_toList_append.trans (by rw [htk]; rfl))
      have HS := Lib.hid (show out ++ txB nb (t :: l.drop (k + 1)) = txB false l from by rw [← HD.out]; exact HX.out)
      clear htk
      obtain ⟨ts, tn, tm⟩ := t
      have hts := htr.sign
      have htn := htr.n
      have htm := htr.name
      simp only at e0 e1 e2 hts htn htm
      clear htr
      have hol : out.length ≤ 25000 := by have := HNO.out; omega
      go_upto_region 6 with fail
      have hX := Whole.new wr 48 [.int .i32 ts, .int .i64 tn, .int .i32 tm]
      have hc2 := (Chg.refl [] wr).alloc (.cells #[.int .i32 ts, .int .i64 tn, .int .i32 tm] 48)
      have HX2 := Lib.hid hX
      have HC2 := Lib.hid (HC.out.new hc2)
      generalize wr.heap.size = gx at HX2 ⊢
      generalize wr.alloc (.cells #[.int .i32 ts, .int .i64 tn, .int .i32 tm] 48) = w3 at HX2 HC2 ⊢
      clear hX e0 e1 e2 hfbl hc2
      have x0 := HX2.out.cell 0
      have x1 := HX2.out.cell 1
      have x2 := HX2.out.cell 2
      by_cases h48 : ts = 48
      · subst h48
        have HDG := Lib.hid (rdigits_any tn htn.2 w3)
        obtain ⟨D, hD⟩ : ∃ D, D = decDigits tn.toNat := ⟨_, rfl⟩
        rw [← hD] at HDG
        have hDl : D.length ≤ 19 := by rw [hD]; exact dig_len19 _ (by omega)
        have HNX := Lib.hid (fun (o : List UInt8) (h : o = out ++ ((if nb then [32] else []) ++ D)) => show o ++ txB true (l.drop (k + 1)) = txB false l from by
          rw [h, ← HS.out, txB_cons_num _ _ _ rfl, hD]
          simp only [List.append_assoc])
        clear hD
        cases nb with
        | true =>
          have q1 := str_add out [32] (by simp; omega) w3
          rw [show strOf [32] = ⟨#[32]⟩ from rfl] at q1
          have q2 := str_add (out ++ [32]) D (by simp; omega) w3
          have hlb := Lib.hid (show (out ++ 32 :: D).length ≤ 25 * (k + 1) from by have := HNO.out; simp; omega)
          go_wp2_with (go_at_call 41
                       refine HDG.out.mono ?_
                       rintro e w7 ⟨rfl, rfl⟩)
          go_roundw
          case rel => exact ⟨k + 1, true, _, by go_num, rfl, rfl, by omega, hlb, Lib.hid (HNX.out _ (by simp)), HC2⟩
          case measure => simp [intOf]; omega
        | false =>
          have q2 := str_add out D (by omega) w3
          have hlb := Lib.hid (show (out ++ D).length ≤ 25 * (k + 1) from by have := HNO.out; simp; omega)
          go_wp2_with (go_at_call 41
                       refine HDG.out.mono ?_
                       rintro e w7 ⟨rfl, rfl⟩)
          go_roundw
          case rel => exact ⟨k + 1, true, _, by go_num, rfl, rfl, by omega, hlb, Lib.hid (HNX.out _ (by simp)), HC2⟩
          case measure => simp [intOf]; omega
      · have h48d : (ts == 48) = false := by simpa using h48
        have HSK := Lib.hid (fun (h : txB nb (⟨ts, tn, tm⟩ :: l.drop (k + 1)) = txB nb (l.drop (k + 1))) => show out ++ txB nb (l.drop (k + 1)) = txB false l from by rw [← h]; exact HS.out)
        have HLS := Lib.hid (show out.length ≤ 25 * (k + 1) from by have := HNO.out; omega)
        by_cases hnm : namedB ts = true
        · have h5 : ts = 955 ∨ ts = 960 := by unfold namedB at hnm; simpa using hnm
          have HNA := Lib.hid (name_any tm w3)
          by_cases hnb : nameB tm = true
          · rw [hnb] at HNA
            have HNX := Lib.hid (show (out ++ (encodeRune ts ++ encodeRune tm)) ++ txB false (l.drop (k + 1)) = txB false l from by
              rw [← HS.out, txB_cons_named _ _ _ h48 hnm hnb]
              simp only [List.append_assoc])
            have q1 := str_add_enc out ts (by omega) w3
            have q2 := str_add_enc (out ++ encodeRune ts) tm (by have := enc_le4 ts; rw [List.length_append]; omega) w3
            have hlb := Lib.hid (show (out ++ (encodeRune ts ++ encodeRune tm)).length ≤ 25 * (k + 1) from by have := HNO.out; have := enc_le4 ts; have := enc_le4 tm; rw [List.length_append, List.length_append]; omega)
            clear hnm hnb
            generalize encodeRune tm = E2 at *
            rcases h5 with rfl | rfl
            all_goals
              generalize encodeRune _ = E1 at *
              go_wp2_with (go_at_call 21
                           refine HNA.out.mono ?_
                           rintro e w7 ⟨rfl, rfl⟩)
              go_roundw
              case rel => exact ⟨k + 1, false, _, by go_num, rfl, rfl, by omega, hlb, HNX, HC2⟩
              case measure => simp [intOf]; omega
          · have hnbf : nameB tm = false := by simpa using hnb
            rw [hnbf] at HNA
            have HS2 := Lib.hid (HSK.out (txB_cons_none nb ⟨ts, tn, tm⟩ _ h48 hnm hnbf))
            clear hnm hnb hnbf
            rcases h5 with rfl | rfl
            all_goals
              go_wp2_with (go_at_call 21
                           refine HNA.out.mono ?_
                           rintro e w7 ⟨rfl, rfl⟩)
              go_roundw
              case rel => exact ⟨k + 1, nb, out, by go_num, rfl, rfl, by omega, HLS, HS2, HC2⟩
              case measure => simp [intOf]; omega
        · have hnmf : namedB ts = false := by simpa using hnm
          have h955 : (ts == 955) = false := by unfold namedB at hnmf; simp at hnmf; simpa using hnmf.1
          have h960 : (ts == 960) = false := by unfold namedB at hnmf; simp at hnmf; simpa using hnmf.2
          have HKN := Lib.hid (known_any ts w3)
          by_cases hkw : knownB ts = true
          · rw [hkw] at HKN
            have HNX := Lib.hid (show (out ++ encodeRune ts) ++ txB false (l.drop (k + 1)) = txB false l from by
              rw [← HS.out, txB_cons_known _ _ _ h48 hnmf hkw]
              simp only [List.append_assoc])
            have hlb := Lib.hid (show (out ++ encodeRune ts).length ≤ 25 * (k + 1) from by have := HNO.out; have := enc_le4 ts; rw [List.length_append]; omega)
            clear hnm hnmf hkw
            go_wp2_with (go_at_call 36
                         refine HKN.out.mono ?_
                         rintro e w7 ⟨rfl, hc7⟩
                         have HC7 := Lib.hid (HC2.out.new hc7)
                         have y0 := (HX2.out.keep hc7).cell 0
                         have q1 := str_add_enc out ts (by omega) w7
                         clear hc7)
            go_roundw
            case rel => exact ⟨k + 1, false, _, by go_num, rfl, rfl, by omega, hlb, HNX, HC7⟩
            case measure => simp [intOf]; omega
          · have hkf : knownB ts = false := by simpa using hkw
            rw [hkf] at HKN
            have HS2 := Lib.hid (HSK.out (txB_cons_not nb ⟨ts, tn, tm⟩ _ h48 hnmf hkf))
            clear hnm hnmf hkw hkf
            go_wp2_with (go_at_call 36
                         refine HKN.out.mono ?_
                         rintro e w7 ⟨rfl, hc7⟩
                         have HC7 := Lib.hid (HC2.out.new hc7)
                         clear hc7)
            go_roundw
            case rel => exact ⟨k + 1, nb, out, by go_num, rfl, rfl, by omega, HLS, HS2, HC7⟩
            case measure => simp [intOf]; omega
    · have hkI : ¬ (k : Int) < (n : Int) := by omega
      have HXE := Lib.hid (show out = txB false l from by
        have := HX.out
        rw [List.drop_eq_nil_of_le (by rw [HNL.out]; omega), show txB nb [] = [] from by cases nb <;> rfl, List.append_nil] at this
        exact this)
      go_wp2_with fail
      go_ret
      exact ⟨by rw [← HXE.out]; rfl, HC.out⟩
end
end Go.Proofs.YtodbeeodhekpeaaDoor
