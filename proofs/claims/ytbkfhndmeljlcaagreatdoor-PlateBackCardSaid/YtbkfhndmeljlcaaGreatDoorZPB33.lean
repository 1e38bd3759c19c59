/-
  PB: RTxt, RTxt2, LawGl, URef, UNum.
-/
import Derived.Test.YtbkfhndmeljlcaaGreatDoorZPB6
import Derived.Test.YtbkfhndmeljlcaaGreatDoorZPB8
import Derived.Test.YtbkfhndmeljlcaaGreatDoorZPB10
import Derived.Test.YtbkfhndmeljlcaaGreatDoorZPB16
import Derived.Test.YtbkfhndmeljlcaaGreatDoorZPB27
import Derived.Test.YtbkfhndmeljlcaaGreatDoorZPB30
import Derived.Test.YtbkfhndmeljlcaaGreatDoorZPB32
import Derived.Laws.Cover4
namespace Go.Proofs.YtbkfhndmeljlcaaGreatDoor
open Go.RowKit
open Go.Lib (decDigits encodeRune)
theorem enc_is (r : Int) : Utf8.encode r = strOf (encodeRune r) := by
  unfold strOf encodeRune
  by_cases hv : okR r
  · have hc : (0 ≤ r ∧ r ≤ 127) ∨ (128 ≤ r ∧ r ≤ 2047) ∨ ((2048 ≤ r ∧ r < 55296) ∨ (57343 < r ∧ r ≤ 65535)) ∨ (65536 ≤ r ∧ r ≤ 1114111) := by unfold okR at hv; omega
    have hval : Utf8.valid r = true := by unfold Utf8.valid; unfold okR at hv; simp; omega
    unfold Utf8.encode
    simp only [hval, if_true]
    have b : ∀ (z : Int) (n : Nat), z = (n : Int) → z.toNat.toUInt8 = UInt8.ofNat n := fun z n h => by subst h; rfl
    rcases hc with h | h | h | h
    · rw [if_pos (by omega), Lib.encodeRuneZ_one h.1 h.2]
      simp only [List.map_cons, List.map_nil]
    · rw [if_neg (by omega), if_pos (by omega), Lib.encodeRuneZ_two h.1 h.2]
      simp only [List.map_cons, List.map_nil]
      rw [b (192 + r / 64) (0xC0 + r.toNat / 64) (by omega), b (128 + r % 64) (0x80 + r.toNat % 64) (by omega)]
    · rw [if_neg (by omega), if_neg (by omega), if_pos (by omega), Lib.encodeRuneZ_three h]
      simp only [List.map_cons, List.map_nil]
      rw [b (224 + r / 4096) (0xE0 + r.toNat / 4096) (by omega), b (128 + r / 64 % 64) (0x80 + r.toNat / 64 % 64) (by omega), b (128 + r % 64) (0x80 + r.toNat % 64) (by omega)]
    · rw [if_neg (by omega), if_neg (by omega), if_neg (by omega), Lib.encodeRuneZ_four h.1 h.2]
      simp only [List.map_cons, List.map_nil]
      rw [b (240 + r / 262144) (0xF0 + r.toNat / 262144) (by omega), b (128 + r / 4096 % 64) (0x80 + r.toNat / 4096 % 64) (by omega), b (128 + r / 64 % 64) (0x80 + r.toNat / 64 % 64) (by omega), b (128 + r % 64) (0x80 + r.toNat % 64) (by omega)]
  · have hval : Utf8.valid r = false := by
      unfold Utf8.valid
      unfold okR at hv
      simp
      omega
    unfold Utf8.encode
    rw [Lib.encodeRuneZ_bad (by unfold okR at hv; omega)]
    simp only [hval, Bool.false_eq_true, if_false, Utf8.runeError]
    rfl
theorem strOf_cat (a b : List UInt8) : strOf a ++ strOf b = strOf (a ++ b) := by
  apply ByteArray.ext
  simp [strOf, ByteArray.data_append]
theorem strOf_len (a : List UInt8) : (strOf a).size = a.length := by
  show a.toArray.size = _
  simp
theorem str_add (a b : List UInt8) (h : a.length + b.length ≤ 1000000) (W : World) : (Op.stringOp .add (strOf a) (strOf b)).run Tryz.prog W = .ok (.string (strOf (a ++ b))) W := by
  rw [← strOf_cat]
  exact run_string_add_sum _ _ _ (by rw [strOf_len, strOf_len]; omega)
theorem str_add_enc (a : List UInt8) (r : Int) (h : a.length ≤ 900000) (W : World) : (Op.stringOp .add (strOf a) (Utf8.encode r)).run Tryz.prog W = .ok (.string (strOf (a ++ encodeRune r))) W := by
  rw [enc_is]
  exact str_add _ _ (by have := (Lib.encodeRuneZ_length r).2; unfold encodeRune; rw [List.length_map]; omega) W
theorem str_enc_add (a : List UInt8) (r : Int) (h : a.length ≤ 900000) (W : World) : (Op.stringOp .add (Utf8.encode r) (strOf a)).run Tryz.prog W = .ok (.string (strOf (encodeRune r ++ a))) W := by
  rw [enc_is]
  exact str_add _ _ (by have := (Lib.encodeRuneZ_length r).2; unfold encodeRune; rw [List.length_map]; omega) W
theorem enc_dig (r : Nat) (h : r < 10) : encodeRune (48 + (r : Int)) = [UInt8.ofNat (48 + r)] := by
  unfold encodeRune
  rw [Lib.encodeRuneZ_one (by omega) (by omega)]
  simp only [List.map_cons, List.map_nil]
  rw [show (48 + (r : Int)).toNat = 48 + r from by omega]
def dig0 (m : Nat) : List UInt8 := if m = 0 then [] else decDigits m
theorem dig0_step (m : Nat) (h : 0 < m) : dig0 m = dig0 (m / 10) ++ [UInt8.ofNat (48 + m % 10)] := by
  unfold dig0
  rw [if_neg (by omega)]
  by_cases h10 : m < 10
  · rw [if_pos (by omega), Lib.decDigits_one h10, show m % 10 = m from by omega, List.nil_append]
  · rw [if_neg (by omega), decDigits, dif_neg h10]
theorem dig_len19 (m : Nat) (h : m ≤ 9223372036854775807) : (decDigits m).length ≤ 19 := by
  have key : ∀ (k m : Nat), m < 10 ^ (k + 1) → (decDigits m).length ≤ k + 1 := by
    intro k
    induction k with
    | zero => intro m hm; rw [Lib.decDigits_one (by omega)]; simp
    | succ k ih =>
      intro m hm
      by_cases h10 : m < 10
      · rw [Lib.decDigits_one h10]; simp
      · rw [decDigits, dif_neg h10, List.length_append]
        have := ih (m / 10) (by rw [Nat.pow_succ] at hm; omega)
        simp; omega
  exact key 18 m (by omega)
set_option maxHeartbeats 2000000 in
set_option maxRecDepth 100000 in
theorem rdigits_any (z : Int) (hz : z ≤ 9223372036854775807) (w : World) : Calls Tryz.prog 79 #[.int .i64 z] w fun e w' => e = .returned (.string (strOf (decDigits z.toNat))) ∧ w = w' := by
  by_cases h0 : z ≤ 0
  · have HE := Lib.hid (show decDigits z.toNat = [48] from by rw [show z.toNat = 0 from by omega, Lib.decDigits_one (by omega)]; rfl)
    go_enter Tryz.func79, Tryz.ntmps79
    go_wp2_with fail
    go_ret
    exact ⟨by rw [HE.out]; rfl, rfl⟩
  · obtain ⟨N, rfl⟩ : ∃ N : Nat, z = (N : Int) := ⟨z.toNat, by omega⟩
    have hN : 0 < N := by omega
    have HNB := Lib.hid (dig_len19 N (by omega))
    have HE := Lib.hid (show dig0 N = decDigits ((N : Int)).toNat from by unfold dig0; rw [if_neg (by omega)]; rfl)
    obtain ⟨D, hD⟩ : ∃ D, D = decDigits ((N : Int)).toNat := ⟨_, rfl⟩
    rw [← hD] at HE ⊢
    have HDL := Lib.hid (show D.length ≤ 19 from by rw [hD]; exact HNB.out)
    clear hD HNB
    go_enter Tryz.func79, Tryz.ntmps79
    go_wp2_with fail
    go_loop [0, 3] (fun x s => ∃ (m : Nat) (out : List UInt8), x = .int .i64 (m : Int) ∧ s = .string (strOf out) ∧ m ≤ N ∧ Hid (dig0 m ++ out = D)) (fun x _ => (intOf x).toNat)
    case atStart => exact ⟨N, [], rfl, rfl, Nat.le_refl _, Lib.hid (by rw [List.append_nil]; exact HE.out)⟩
    case round =>
      obtain ⟨m, out, rfl, rfl, hm, HX⟩ := hrel
      by_cases hm0 : 0 < m
      · have hmI : (0 : Int) < (m : Int) := by omega
        have hq : (m : Int).tdiv 10 = ((m / 10 : Nat) : Int) := rfl
        have hr : (m : Int).tmod 10 = ((m % 10 : Nat) : Int) := rfl
        have HX2 := Lib.hid (show dig0 (m / 10) ++ (UInt8.ofNat (48 + m % 10) :: out) = D from by
          rw [← HX.out, dig0_step m hm0]; simp)
        have hol : out.length ≤ 19 := by have := HDL.out; rw [← HX.out, List.length_append] at this; omega
        have hr9 : m % 10 < 10 := by omega
        have hqm : m / 10 < m := by omega
        generalize m % 10 = r at hr HX2 hr9
        generalize m / 10 = q at hq HX2 hqm
        have hadd := str_enc_add out (48 + (r : Int)) (by omega)
        rw [enc_dig r hr9] at hadd
        generalize UInt8.ofNat (48 + r) = c at hadd HX2
        clear hm0
        go_wp2_with fail
        go_round
        case rel => exact ⟨q, _, rfl, rfl, by omega, HX2⟩
        case measure => simp [intOf]; omega
      · have hmI : ¬ (0 : Int) < (m : Int) := by omega
        have HX2 := Lib.hid (show out = D from by
          have := HX.out
          rw [show m = 0 from by omega] at this
          exact this)
        go_wp2_with fail
        go_ret
        exact ⟨by rw [← HX2.out]; rfl, rfl⟩
end Go.Proofs.YtbkfhndmeljlcaaGreatDoor
namespace Go.Proofs.YtbkfhndmeljlcaaGreatDoor
open Go.RowKit
open Go.Lib (decDigits encodeRune)
section
variable {w : World} {A : Option Addr} {n c : Nat} {l : List TkV}
set_option maxHeartbeats 8000000 in
set_option maxRecDepth 100000 in
theorem rtext_any (hT : Tks w A n c l) (hr : ∀ t ∈ l, TkRng t) (hn : n ≤ 1000) : Calls Tryz.prog 51 #[.slice A n c] w (StrPost (txB false l) w) := by
  have HT := Lib.hid hT
  have HR := Lib.hid hr
  have HNL := Lib.hid hT.len
  clear hT hr
  go_enter Tryz.func51, Tryz.ntmps51
  go_wp2_with fail
  go_loopw [3, 4, 9] (fun v b i wr => ∃ (k : Nat) (nb : Bool) (out : List UInt8), i = .int .i64 (k : Int) ∧ b = .bool nb ∧ v = .string (strOf out) ∧ k ≤ n ∧ Hid (out.length ≤ 25 * k) ∧ Hid (out ++ txB nb (l.drop k) = txB false l) ∧ Hid (Chg [] w wr)) (fun _ _ i _ => n - (intOf i).toNat)
  case atStart => exact ⟨0, false, [], rfl, rfl, rfl, by omega, Lib.hid (by simp), Lib.hid rfl, Lib.hid (Chg.refl [] _)⟩
  case round =>
    obtain ⟨k, nb, out, rfl, rfl, rfl, hk, HNO, HX, HC⟩ := hrel
    by_cases hkn : k < n
    · have hkI : (k : Int) < (n : Int) := by omega
      obtain ⟨t, htk⟩ : ∃ t, l[k]? = some t := ⟨l[k]'(by rw [HNL.out]; exact hkn), by simp⟩
      have htr := HR.out t (List.mem_of_getElem? htk)
      obtain ⟨fb, fo, rfl, hfbl, e0, e1, e2⟩ := (HT.out.keep HC.out).cell htk
      have HD := Lib.hid (show l.drop k = t :: l.drop (k + 1) from List.drop_eq_getElem?_toList_append.trans (by rw [htk]; rfl))
      have HS := Lib.hid (show out ++ txB nb (t :: l.drop (k + 1)) = txB false l from by rw [← HD.out]; exact HX.out)
      clear htk
      obtain ⟨ts, tn, tm⟩ := t
      have hts := htr.sign
      have htn := htr.n
      have htm := htr.name
      simp only at e0 e1 e2 hts htn htm
      clear htr
      have hol : out.length ≤ 25000 := by have := HNO.out; omega
      go_upto_region 6 with fail
      have hX := Whole.new wr 110 [.int .i32 ts, .int .i64 tn, .int .i32 tm]
      have hc2 := (Chg.refl [] wr).alloc (.cells #[.int .i32 ts, .int .i64 tn, .int .i32 tm] 110)
      have HX2 := Lib.hid hX
      have HC2 := Lib.hid (HC.out.new hc2)
      generalize wr.heap.size = gx at HX2 ⊢
      generalize wr.alloc (.cells #[.int .i32 ts, .int .i64 tn, .int .i32 tm] 110) = w3 at HX2 HC2 ⊢
      clear hX e0 e1 e2 hfbl hc2
      have x0 := HX2.out.cell 0
      have x1 := HX2.out.cell 1
      have x2 := HX2.out.cell 2
      by_cases h48 : ts = 48
      · subst h48
        have HDG := Lib.hid (rdigits_any tn htn.2 w3)
        obtain ⟨D, hD⟩ : ∃ D, D = decDigits tn.toNat := ⟨_, rfl⟩
        rw [← hD] at HDG
        have hDl : D.length ≤ 19 := by rw [hD]; exact dig_len19 _ (by omega)
        have HNX := Lib.hid (fun (o : List UInt8) (h : o = out ++ ((if nb then [32] else []) ++ D)) => show o ++ txB true (l.drop (k + 1)) = txB false l from by
          rw [h, ← HS.out, txB_cons_num _ _ _ rfl, hD]
          simp only [List.append_assoc])
        clear hD
        cases nb with
        | true =>
          have q1 := str_add out [32] (by simp; omega) w3
          rw [show strOf [32] = ⟨#[32]⟩ from rfl] at q1
          have q2 := str_add (out ++ [32]) D (by simp; omega) w3
          have hlb := Lib.hid (show (out ++ 32 :: D).length ≤ 25 * (k + 1) from by have := HNO.out; simp; omega)
          go_wp2_with (go_at_call 79
                       refine HDG.out.mono ?_
                       rintro e w7 ⟨rfl, rfl⟩)
          go_roundw
          case rel => exact ⟨k + 1, true, _, by go_num, rfl, rfl, by omega, hlb, Lib.hid (HNX.out _ (by simp)), HC2⟩
          case measure => simp [intOf]; omega
        | false =>
          have q2 := str_add out D (by omega) w3
          have hlb := Lib.hid (show (out ++ D).length ≤ 25 * (k + 1) from by have := HNO.out; simp; omega)
          go_wp2_with (go_at_call 79
                       refine HDG.out.mono ?_
                       rintro e w7 ⟨rfl, rfl⟩)
          go_roundw
          case rel => exact ⟨k + 1, true, _, by go_num, rfl, rfl, by omega, hlb, Lib.hid (HNX.out _ (by simp)), HC2⟩
          case measure => simp [intOf]; omega
      · have h48d : (ts == 48) = false := by simpa using h48
        have HSK := Lib.hid (fun (h : txB nb (⟨ts, tn, tm⟩ :: l.drop (k + 1)) = txB nb (l.drop (k + 1))) => show out ++ txB nb (l.drop (k + 1)) = txB false l from by rw [← h]; exact HS.out)
        have HLS := Lib.hid (show out.length ≤ 25 * (k + 1) from by have := HNO.out; omega)
        by_cases hnm : namedB ts = true
        · have h5 : ts = 955 ∨ ts = 960 := by unfold namedB at hnm; simpa using hnm
          have HNA := Lib.hid (name_any tm w3)
          by_cases hnb : nameB tm = true
          · rw [hnb] at HNA
            have HNX := Lib.hid (show (out ++ (encodeRune ts ++ encodeRune tm)) ++ txB false (l.drop (k + 1)) = txB false l from by
              rw [← HS.out, txB_cons_named _ _ _ h48 hnm hnb]
              simp only [List.append_assoc])
            have q1 := str_add_enc out ts (by omega) w3
            have q2 := str_add_enc (out ++ encodeRune ts) tm (by have := enc_le4 ts; rw [List.length_append]; omega) w3
            have hlb := Lib.hid (show (out ++ (encodeRune ts ++ encodeRune tm)).length ≤ 25 * (k + 1) from by have := HNO.out; have := enc_le4 ts; have := enc_le4 tm; rw [List.length_append, List.length_append]; omega)
            clear hnm hnb
            generalize encodeRune tm = E2 at *
            rcases h5 with rfl | rfl
            all_goals
              generalize encodeRune _ = E1 at *
              go_wp2_with (go_at_call 77
                           refine HNA.out.mono ?_
                           rintro e w7 ⟨rfl, rfl⟩)
              go_roundw
              case rel => exact ⟨k + 1, false, _, by go_num, rfl, rfl, by omega, hlb, HNX, HC2⟩
              case measure => simp [intOf]; omega
          · have hnbf : nameB tm = false := by simpa using hnb
            rw [hnbf] at HNA
            have HS2 := Lib.hid (HSK.out (txB_cons_none nb ⟨ts, tn, tm⟩ _ h48 hnm hnbf))
            clear hnm hnb hnbf
            rcases h5 with rfl | rfl
            all_goals
              go_wp2_with (go_at_call 77
                           refine HNA.out.mono ?_
                           rintro e w7 ⟨rfl, rfl⟩)
              go_roundw
              case rel => exact ⟨k + 1, nb, out, by go_num, rfl, rfl, by omega, HLS, HS2, HC2⟩
              case measure => simp [intOf]; omega
        · have hnmf : namedB ts = false := by simpa using hnm
          have h955 : (ts == 955) = false := by unfold namedB at hnmf; simp at hnmf; simpa using hnmf.1
          have h960 : (ts == 960) = false := by unfold namedB at hnmf; simp at hnmf; simpa using hnmf.2
          have HKN := Lib.hid (known_any ts w3)
          by_cases hkw : knownB ts = true
          · rw [hkw] at HKN
            have HNX := Lib.hid (show (out ++ encodeRune ts) ++ txB false (l.drop (k + 1)) = txB false l from by
              rw [← HS.out, txB_cons_known _ _ _ h48 hnmf hkw]
              simp only [List.append_assoc])
            have hlb := Lib.hid (show (out ++ encodeRune ts).length ≤ 25 * (k + 1) from by have := HNO.out; have := enc_le4 ts; rw [List.length_append]; omega)
            clear hnm hnmf hkw
            go_wp2_with (go_at_call 78
                         refine HKN.out.mono ?_
                         rintro e w7 ⟨rfl, hc7⟩
                         have HC7 := Lib.hid (HC2.out.new hc7)
                         have y0 := (HX2.out.keep hc7).cell 0
                         have q1 := str_add_enc out ts (by omega) w7
                         clear hc7)
            go_roundw
            case rel => exact ⟨k + 1, false, _, by go_num, rfl, rfl, by omega, hlb, HNX, HC7⟩
            case measure => simp [intOf]; omega
          · have hkf : knownB ts = false := by simpa using hkw
            rw [hkf] at HKN
            have HS2 := Lib.hid (HSK.out (txB_cons_not nb ⟨ts, tn, tm⟩ _ h48 hnmf hkf))
            clear hnm hnmf hkw hkf
            go_wp2_with (go_at_call 78
                         refine HKN.out.mono ?_
                         rintro e w7 ⟨rfl, hc7⟩
                         have HC7 := Lib.hid (HC2.out.new hc7)
                         clear hc7)
            go_roundw
            case rel => exact ⟨k + 1, nb, out, by go_num, rfl, rfl, by omega, HLS, HS2, HC7⟩
            case measure => simp [intOf]; omega
    · have hkI : ¬ (k : Int) < (n : Int) := by omega
      have HXE := Lib.hid (show out = txB false l from by
        have := HX.out
        rw [List.drop_eq_nil_of_le (by rw [HNL.out]; omega), show txB nb [] = [] from by cases nb <;> rfl, List.append_nil] at this
        exact this)
      go_wp2_with fail
      go_ret
      exact ⟨by rw [← HXE.out]; rfl, HC.out⟩
end
end Go.Proofs.YtbkfhndmeljlcaaGreatDoor
namespace Go.Proofs.YtbkfhndmeljlcaaGreatDoor
open Go.RowKit
open Go.Lib (decDigits encodeRune)
def tokErr (s : ByteArray) : Int := match tokR s with | some _ => 0 | none => tokE s
theorem tokPost_use {s : ByteArray} {w w' : World} {e : Ending} (h : TokPost s w e w') : ∃ A n c, e = .returned (.tuple #[.slice A n c, .int .i64 (tokErr s)]) ∧ Tks w' A n c (toksOf s) ∧ n ≤ 512 ∧ Chg [] w w' := by
  obtain ⟨hc, ⟨ts, v, h1, h2, rfl, h4⟩ | ⟨h1, rfl⟩⟩ := h
  · obtain ⟨A, c, rfl, hT⟩ := Tks.of_own h4 (by omega)
    refine ⟨A, ts.length, c, by unfold tokErr; rw [h1], by unfold toksOf; rw [h1]; exact hT, h2, hc⟩
  · exact ⟨none, 0, 0, by unfold tokErr; rw [h1], by unfold toksOf; rw [h1]; exact Tks.nil _, by omega, hc⟩
theorem TkOk.rng {t : TkV} (h : TkOk t) : TkRng t := by
  rcases h with ⟨h1, h2, h3, h4⟩ | ⟨h1, h2, h3⟩ | ⟨h0, h1, h2, h3, h4⟩
  · exact ⟨by omega, by omega, by omega⟩
  · have a := (known_okR (named_known h1).1).1
    have b := (name_okR h3).1
    unfold okR at a b
    exact ⟨by omega, by omega, by omega⟩
  · have a := (known_okR h2).1
    unfold okR at a
    exact ⟨by omega, by omega, by omega⟩
theorem toksOf_ok (s : ByteArray) : ∀ t ∈ toksOf s, TkOk t := by
  intro t ht
  unfold toksOf at ht
  cases hs : tokR s with
  | none => rw [hs] at ht; simp at ht
  | some ts =>
    rw [hs] at ht
    have h5 : ¬ 512 < s.size := by
      intro hh
      unfold tokR at hs
      rw [if_pos hh] at hs
      cases hs
    have hr := gRun_is s h5
    rw [hs] at hr
    exact gRun_tk _ hr.symm (fun t ht => by simp at ht) trivial t ht
theorem PowB.here {w w' : World} (h : PowB w.heap.size w) (hc : Chg [] w w') : PowB w'.heap.size w' := (h.keep (Nat.le_refl _) hc).less hc.size
end Go.Proofs.YtbkfhndmeljlcaaGreatDoor
namespace Go.Proofs.YtbkfhndmeljlcaaGreatDoor
open Go.RowKit
open Go.Lib (decDigits encodeRune)
set_option maxHeartbeats 1000000 in
set_option maxRecDepth 100000 in
theorem rnum_any : ∀ (k n : Nat), n < 10 ^ (k + 1) → k ≤ 10 → ∀ w : World, Calls Tryz.prog 53 #[.int .i64 (n : Int)] w (StrPost (decDigits n) w)
  | k, n, hn, hk, w => by
    have hp : 10 ^ (k + 1) ≤ 10 ^ 11 := Nat.pow_le_pow_right (by omega) (by omega)
    have hn2 : n < 100000000000 := Nat.lt_of_lt_of_le hn hp
    clear hp
    by_cases h10 : 10 ≤ n
    · match k, hn, hk with
      | 0, hn, hk => omega
      | k + 1, hn, hk =>
        have IH := Lib.hid (fun W => rnum_any k (n / 10) (by rw [Nat.pow_succ] at hn; omega) (by omega) W)
        have HE := Lib.hid (show decDigits n = decDigits (n / 10) ++ [UInt8.ofNat (48 + n % 10)] from by rw [decDigits, dif_neg (by omega)])
        have hq : (n : Int).tdiv 10 = ((n / 10 : Nat) : Int) := rfl
        have hr : (n : Int).tmod 10 = ((n % 10 : Nat) : Int) := rfl
        have hdl := dig_len19 (n / 10) (by omega)
        generalize decDigits n = D at HE ⊢
        generalize hgr : n % 10 = r at hr HE
        have hr9 : r < 10 := by omega
        have hq9 : n / 10 < 100000000000 := by omega
        generalize n / 10 = q at *
        clear hn hgr
        generalize decDigits q = E at IH HE hdl
        have hadd := str_add_enc E (48 + (r : Int)) (by omega)
        rw [enc_dig r hr9, ← HE.out] at hadd
        go_enter Tryz.func53, Tryz.ntmps53
        go_wp2_with fail
        refine (IH.out _).mono ?_
        rintro e w1 ⟨rfl, hc⟩
        have HC := Lib.hid hc
        clear hc
        go_wp2_with fail
        go_ret
        exact ⟨rfl, HC.out⟩
    · have HE := Lib.hid (show Utf8.encode (48 + (n : Int)) = strOf (decDigits n) from by
        rw [enc_is, enc_dig n (by omega), Lib.decDigits_one (by omega)])
      unfold StrPost
      generalize strOf (decDigits n) = D at HE ⊢
      have hn9 : n < 10 := by omega
      have hd : decide ((10 : Int) ≤ (n : Int)) = false := decide_eq_false (by omega)
      clear hn hk hn2
      go_enter Tryz.func53, Tryz.ntmps53
      go_wp2_with fail
      go_ret
      exact ⟨by simp; exact HE.out, Chg.refl _ _⟩
end Go.Proofs.YtbkfhndmeljlcaaGreatDoor
namespace Go.Proofs.YtbkfhndmeljlcaaGreatDoor
open Go.RowKit
theorem strOf_toList (l : List UInt8) : (strOf l).data.toList = l := by simp [strOf]
theorem strOf_ext (l : List UInt8) (a b : Nat) : (strOf l).extract a b = strOf ((l.drop a).take (b - a)) := by
  apply ByteArray.ext
  rw [ByteArray.data_extract]
  apply Array.toList_inj.1
  rw [Array.toList_extract]
  simp [strOf, List.extract]
theorem cut_idx : ∀ l : List UInt8, Lib.indexByte l 32 = (match cut1 l with | none => -1 | some (a, _) => (a.length : Int))
  | [] => rfl
  | b :: l => by
    rw [Lib.indexByte, cut1, cut_idx l]
    by_cases h : b = 32
    · subst h
      simp
    · rw [if_neg (by simpa using h), if_neg h]
      cases cut1 l with
      | none => rfl
      | some p =>
        obtain ⟨x, y⟩ := p
        simp only [Option.map_some, List.length_cons]
        rw [if_neg (by simp)]
        simp
theorem cut_some : ∀ {l a b : List UInt8}, cut1 l = some (a, b) → a = l.take a.length ∧ b = l.drop (a.length + 1) ∧ a.length < l.length
  | [], a, b, h => by simp [cut1] at h
  | x :: l, a, b, h => by
    rw [cut1] at h
    by_cases hx : x = 32
    · rw [if_pos hx] at h
      injection h with h
      injection h with h1 h2
      subst h1 h2
      simp
    · rw [if_neg hx] at h
      cases hc : cut1 l with
      | none => rw [hc] at h; simp at h
      | some p =>
        obtain ⟨y, z⟩ := p
        rw [hc] at h
        simp only [Option.map_some, Option.some.injEq, Prod.mk.injEq] at h
        obtain ⟨rfl, rfl⟩ := h
        obtain ⟨h1, h2, h3⟩ := cut_some hc
        refine ⟨?_, ?_, by simp; omega⟩
        · rw [List.length_cons, List.take_succ_cons, ← h1]
        · rw [List.length_cons, List.drop_succ_cons, ← h2]
def cutV (l : List UInt8) : Value := match cut1 l with
  | some (a, b) => .tuple #[.string (strOf a), .string (strOf b), .bool true]
  | none => .tuple #[.string (strOf l), .string (strOf []), .bool false]
def CutPost (l : List UInt8) (w : World) (e : Ending) (w' : World) : Prop := e = .returned (cutV l) ∧ Chg [] w w'
section
variable {w : World}
set_option maxHeartbeats 2000000 in
set_option maxRecDepth 100000 in
theorem litecut_any (l : List UInt8) (hl : l.length ≤ 1000000) : Calls Tryz.prog 127 #[.string (strOf l), .string ⟨#[32]⟩] w (CutPost l w) := by
  have HX := Lib.hid (Tryz.stringslite_Index_one (strOf l) 32 w)
  rw [strOf_toList, cut_idx] at HX
  obtain ⟨V, hV⟩ : ∃ V, V = cutV l := ⟨_, rfl⟩
  unfold CutPost
  rw [← hV]
  unfold cutV at hV
  cases hc : cut1 l with
  | none =>
    rw [hc] at HX hV
    simp only at HX hV
    have HV := Lib.hid hV
    clear hV hc
    go_enter Tryz.func127, Tryz.ntmps127
    go_wp2_with (go_at_call 139; refine HX.out.mono ?_; rintro e w1 ⟨rfl, rfl⟩)
    go_ret3
    exact ⟨by rw [HV.out]; rfl, Chg.refl _ _⟩
  | some p =>
    obtain ⟨a, b⟩ := p
    rw [hc] at HX hV
    simp only at HX hV
    obtain ⟨h1, h2, h3⟩ := cut_some hc
    have HV := Lib.hid hV
    have e1 : (strOf l).extract 0 a.length = strOf a := by rw [strOf_ext, List.drop_zero, Nat.sub_zero, ← h1]
    have e2 : (strOf l).extract (a.length + 1) (strOf l).size = strOf b := by
      rw [strOf_ext, strOf_len, List.take_of_length_le (by rw [List.length_drop]; omega), ← h2]
    have hsz := strOf_len l
    have HE := Lib.hid (And.intro e1 e2)
    clear hV hc h1 h2
    obtain ⟨n, hn⟩ : ∃ n, n = a.length := ⟨_, rfl⟩
    rw [← hn] at HX h3 HE
    obtain ⟨N, hN⟩ : ∃ N, N = l.length := ⟨_, rfl⟩
    rw [← hN] at hsz h3 hl
    clear hn hN e1 e2
    generalize strOf l = S at *
    have c1 : (0 : Int) ≤ (n : Int) := by omega
    have c2 : (n : Int) ≤ (S.size : Int) := by omega
    have c3 : (0 : Int) ≤ (n : Int) + 1 := by omega
    have c4 : (n : Int) + 1 ≤ (S.size : Int) := by omega
    have HSZ := Lib.hid hsz
    clear hsz
    go_enter Tryz.func127, Tryz.ntmps127
    go_wp2_with (go_at_call 139; refine HX.out.mono ?_; rintro e w1 ⟨rfl, rfl⟩)
    have HD := Lib.hid ((Chg.refl [] w1).drew)
    go_region
    all_goals go_wp2_with fail
    all_goals go_ret3
    all_goals exact ⟨by rw [HV.out, ← HE.out.1, ← HE.out.2]; rfl, HD.out⟩
set_option maxHeartbeats 1000000 in
set_option maxRecDepth 100000 in
theorem cut_any (l : List UInt8) (hl : l.length ≤ 1000000) : Calls Tryz.prog 115 #[.string (strOf l), .string ⟨#[32]⟩] w (CutPost l w) := by
  have HX := Lib.hid (litecut_any (w := w) l hl)
  obtain ⟨V, hV⟩ : ∃ V, V = cutV l := ⟨_, rfl⟩
  unfold CutPost at HX ⊢
  rw [← hV] at HX ⊢
  obtain ⟨x, y, z, hxyz⟩ : ∃ x y z, V = .tuple #[.string x, .string y, .bool z] := by
    rw [hV]; unfold cutV; split <;> exact ⟨_, _, _, rfl⟩
  clear hV
  subst hxyz
  go_enter Tryz.func115, Tryz.ntmps115
  go_wp2_with (go_at_call 127; refine HX.out.mono ?_; rintro e w1 ⟨rfl, hc1⟩; have HC1 := Lib.hid hc1; clear hc1)
  go_ret3
  exact ⟨rfl, HC1.out⟩
end
end Go.Proofs.YtbkfhndmeljlcaaGreatDoor
