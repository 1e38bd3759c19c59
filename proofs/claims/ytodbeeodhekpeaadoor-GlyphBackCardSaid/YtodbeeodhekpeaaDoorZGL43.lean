/-
  GL: LawGlNm.
-/
import Derived.Test.YtodbeeodhekpeaaDoorZGL42
import Derived.Laws.BitsLemmas
import Derived.IntWalk
namespace Go.Proofs.YtodbeeodhekpeaaDoor
open Go.RowKit
open Go.Lib (decDigits encodeRune)
theorem tok_text {l : List TkV} (h : ∀ t ∈ l, TkOk t) (hs : (txB false l).length ≤ 512) : toksOf (strOf (txB false l)) = l ∧ tokErr (strOf (txB false l)) = 0 := by
  have hr : tokR (strOf (txB false l)) = some l := by
    rw [gRun_is _ (by rw [strOf_len]; omega)]
    exact tx_run l h
  unfold toksOf tokErr
  rw [hr]
  exact ⟨rfl, rfl⟩
theorem Tks.of_whole {W : World} {g t n : Nat} {l : List TkV} (h : Whole W g t (tkCs l)) (hn : l.length = n) (hm : n ≤ 100000) : Tks W (some ⟨g, 0, none⟩) n n l := by
  refine ⟨hn, ?_, Nat.le_refl _, hm, fun _ ad e => by injection e with e; subst e; rfl⟩
  have := Src.of_whole h 0 (tkCs l).length
  rwa [List.drop_zero, List.take_length] at this
theorem enc955 : encodeRune 955 = [206, 187] := by decide
theorem name_none {r : Int} (h0 : 0 ≤ r) (h1 : r ≤ 1114111) (hn : nameB r = false) : tokErr (strOf ([206, 187] ++ encodeRune r)) = 12 := by
  have hl : (strOf ([206, 187] ++ encodeRune r)).size ≤ 6 := by
    rw [strOf_len, List.length_append]
    have := enc_le4 r
    simp; omega
  obtain ⟨q, hq, hqn, hqe⟩ : ∃ q : Int, okR q ∧ nameB q = false ∧ encodeRune r = encodeRune q := by
    by_cases hr : okR r
    · exact ⟨r, hr, hn, rfl⟩
    · refine ⟨65533, by unfold okR; omega, by decide, ?_⟩
      unfold encodeRune
      rw [Lib.encodeRuneZ_bad (by unfold okR at hr; omega)]
      decide
  have hz : tokR (strOf ([206, 187] ++ encodeRune r)) = none := by
    rw [gRun_is _ (by omega)]
    show gRun (rl ([206, 187] ++ encodeRune r)) [] .idle = none
    rw [hqe, ← enc955]
    have e2 := rl_enc q hq []
    rw [List.append_nil] at e2
    rw [rl_enc 955 (by unfold okR; omega), e2]
    have hk : knownB ((955 : Nat) : Int) = true := by decide
    have hnm : namedB ((955 : Nat) : Int) = true := by decide
    have hqq : ((q.toNat : Nat) : Int) = q := by unfold okR at hq; omega
    rw [show (955 : Int).toNat = 955 from rfl, gRun, gTake, if_neg (by omega), gOther, if_neg (by omega), if_pos hk, if_pos hnm]
    simp only
    rw [gRun, gTake, hqq, if_neg (by rw [hqn]; decide)]
  unfold tokErr tokE
  rw [hz, if_neg (by omega)]
theorem i64_and62 (n : Int) : bits .and .i64 n 4611686018427387903 = n % 4611686018427387904 := by
  have h127 : (BitVec.ofInt 64 4611686018427387903).toNat = 2 ^ 62 - 1 := by decide
  have key : (BitVec.ofInt 64 n &&& BitVec.ofInt 64 4611686018427387903).toNat = (n % ((2 ^ 64 : Nat) : Int)).toNat % 2 ^ 62 := by
    rw [BitVec.toNat_and, BitVec.toNat_ofInt, h127, Nat.and_two_pow_sub_one_eq_mod]
  show IntKind.i64.wrap ((BitVec.ofInt 64 n &&& BitVec.ofInt 64 4611686018427387903).toNat : Nat) = n % 4611686018427387904
  rw [key, IntKind.wrap_i64]
  omega
section
variable {w : World}
set_option maxHeartbeats 4000000 in
set_option maxRecDepth 100000 in
theorem glyphNames_any (r n : Int) (hP : PowB w.heap.size w) : Calls Tryd.prog 7 #[.int .i32 r, .int .i64 n] w (BoolPost true w) := by
  have HP := Lib.hid hP
  clear hP
  have hand : bits .and .i64 n 4611686018427387903 = ((n % 4611686018427387904).toNat : Int) := by rw [i64_and62]; omega
  have hk62 : (n % 4611686018427387904).toNat < 4611686018427387904 := by omega
  generalize (n % 4611686018427387904).toNat = k at hand hk62
  have HN := Lib.hid (name_any r w)
  have HG := Lib.hid (fun W => gname_any r W)
  by_cases hnm : nameB r = true
  · have hok : ∀ t ∈ ([⟨955, 0, r⟩, ⟨48, (k : Int), 0⟩, ⟨48, 7, 0⟩, ⟨960, 0, r⟩] : List TkV), TkOk t := by
      intro t ht
      simp only [List.mem_cons, List.not_mem_nil, or_false] at ht
      rcases ht with rfl | rfl | rfl | rfl
      · exact .inr (.inl ⟨show namedB 955 = true by decide, rfl, hnm⟩)
      · exact .inl ⟨rfl, by simp only; omega, by simp only; omega, rfl⟩
      · exact .inl ⟨rfl, by simp only; omega, by simp only; omega, rfl⟩
      · exact .inr (.inl ⟨show namedB 960 = true by decide, rfl, hnm⟩)
    have HOK := Lib.hid hok
    have HRG := Lib.hid (fun t ht => (hok t ht).rng)
    have hlen : (txB false [⟨955, 0, r⟩, ⟨48, (k : Int), 0⟩, ⟨48, 7, 0⟩, ⟨960, 0, r⟩]).length ≤ 512 := by
      rw [txB_cons_named _ _ _ (show (955 : Int) ≠ 48 by decide) (show namedB 955 = true by decide) hnm, txB_cons_num _ _ _ rfl, txB_cons_num _ _ _ rfl, txB_cons_named _ _ _ (show (960 : Int) ≠ 48 by decide) (show namedB 960 = true by decide) hnm]
      have h1 := enc_le4 955
      have h2 := enc_le4 960
      have h3 := enc_le4 r
      have h4 := dig_le k (by omega)
      have h5 := dig_le 7 (by omega)
      simp only [List.length_append, txB, List.length_nil, Int.toNat_natCast, show (7 : Int).toNat = 7 from rfl]
      simp
      omega
    have HTT := Lib.hid (tok_text hok hlen)
    have HSZ := Lib.hid (show (strOf (txB false [⟨955, 0, r⟩, ⟨48, (k : Int), 0⟩, ⟨48, 7, 0⟩, ⟨960, 0, r⟩])).size ≤ 9223372036854775807 from by rw [strOf_len]; omega)
    have HGT := Lib.hid (fun (W : World) (g : Nat) (h : Whole W g 48 (tkCs [⟨955, 0, r⟩, ⟨48, (k : Int), 0⟩, ⟨48, 7, 0⟩, ⟨960, 0, r⟩])) => Tks.of_whole (n := 4) h rfl (by omega))
    rw [hnm] at HN HG
    clear hok hlen hnm
    generalize hL : ([⟨955, 0, r⟩, ⟨48, (k : Int), 0⟩, ⟨48, 7, 0⟩, ⟨960, 0, r⟩] : List TkV) = L at HOK HRG HTT HSZ HGT
    have HL := Lib.hid (show tkCs L = [.int .i32 955, .int .i64 0, .int .i32 r, .int .i32 48, .int .i64 (k : Int), .int .i32 0, .int .i32 48, .int .i64 7, .int .i32 0, .int .i32 960, .int .i64 0, .int .i32 r] from by rw [← hL]; rfl)
    have HLN := Lib.hid (show L.length = 4 from by rw [← hL]; rfl)
    clear hL
    go_enter Tryd.func7, Tryd.ntmps7
    go_upto_region 8 with (go_at_call 21
                           refine HN.out.mono ?_
                           rintro e w1 ⟨rfl, rfl⟩)
    have hWn := Whole.new w 48 [.int .i32 955, .int .i64 0, .int .i32 r, .int .i32 48, .int .i64 (k : Int), .int .i32 0, .int .i32 48, .int .i64 7, .int .i32 0, .int .i32 960, .int .i64 0, .int .i32 r]
    have hWc := (Chg.refl [] w).alloc (.cells #[.int .i32 955, .int .i64 0, .int .i32 r, .int .i32 48, .int .i64 (k : Int), .int .i32 0, .int .i32 48, .int .i64 7, .int .i32 0, .int .i32 960, .int .i64 0, .int .i32 r] 48)
    have HT := Lib.hid (HGT.out _ w.heap.size (by rw [HL.out]; exact hWn))
    have HC1 := Lib.hid hWc
    generalize w.heap.size = gx at HT ⊢
    generalize w.alloc (.cells #[.int .i32 955, .int .i64 0, .int .i32 r, .int .i32 48, .int .i64 (k : Int), .int .i32 0, .int .i32 48, .int .i64 7, .int .i32 0, .int .i32 960, .int .i64 0, .int .i32 r] 48) = w1 at HT HC1 ⊢
    clear hWn hWc
    go_wp2_with (first
      | (go_at_call 17
         refine (gtext_any HT.out HRG.out (by omega) (HP.out.here HC1.out)).mono ?_
         rintro e w2 ⟨rfl, hc2⟩
         have HC2 := Lib.hid (HC1.out.trans hc2)
         have HT2 := Lib.hid (HT.out.keep hc2)
         clear hc2)
      | (go_at_call 19
         refine (gtokens_any _ HSZ.out).mono ?_
         rintro e w3 hT3
         obtain ⟨A3, n3, c3, rfl, hT3, _, hc3⟩ := tokPost_use hT3
         rw [HTT.out.1] at hT3
         rw [HTT.out.2]
         obtain rfl : n3 = 4 := by rw [← hT3.len]; exact HLN.out
         have HC3 := Lib.hid (HC2.out.trans hc3)
         have HT3 := Lib.hid hT3
         have HT4 := Lib.hid (HT2.out.keep hc3)
         clear hT3 hc3)
      | (go_at_call 22
         refine (HG.out _).mono ?_
         rintro e w1 ⟨rfl, rfl⟩)
      | (go_at_call 20
         refine (toks_same HT4.out HT3.out).mono ?_
         rintro e w5 ⟨rfl, hc5⟩
         have HC5 := Lib.hid (HC3.out.trans hc5)
         clear hc5)
      | (go_at_call 15
         refine (gl_known (HP.out.here HC5.out)).mono ?_
         rintro e w6 ⟨rfl, hc6⟩
         have HC6 := Lib.hid (HC5.out.trans hc6)
         clear hc6))
    go_ret
    exact ⟨rfl, HC6.out⟩
  · have hnf : nameB r = false := by simpa using hnm
    rw [hnf] at HN HG
    by_cases h0 : 0 ≤ r
    · by_cases h1 : r ≤ 1114111
      · have HTE := Lib.hid (name_none h0 h1 hnf)
        have hadd := str_add_enc [206, 187] r (by simp) w
        rw [show strOf [206, 187] = ⟨#[206, 187]⟩ from rfl] at hadd
        have HSZ := Lib.hid (show (strOf ([206, 187] ++ encodeRune r)).size ≤ 9223372036854775807 from by rw [strOf_len, List.length_append]; have := enc_le4 r; simp; omega)
        generalize strOf ([206, 187] ++ encodeRune r) = S at *
        clear hnm hnf
        go_enter Tryd.func7, Tryd.ntmps7
        go_wp2_with (first
          | (go_at_call 21
             refine HN.out.mono ?_
             rintro e w1 ⟨rfl, rfl⟩)
          | (go_at_call 19
             refine (gtokens_any S HSZ.out).mono ?_
             rintro e w2 hT2
             obtain ⟨A2, n2, c2, rfl, _, _, hc2⟩ := tokPost_use hT2
             rw [HTE.out]
             have HC2 := Lib.hid hc2
             clear hT2 hc2)
          | (go_at_call 22
             refine (HG.out _).mono ?_
             rintro e w1 ⟨rfl, rfl⟩)
          | (go_at_call 15
             refine (gl_known (HP.out.here HC2.out)).mono ?_
             rintro e w3 ⟨rfl, hc3⟩
             have HC3 := Lib.hid (HC2.out.trans hc3)
             clear hc3))
        go_ret
        exact ⟨rfl, HC3.out⟩
      · have h1d : decide (r ≤ 1114111) = false := by simpa using h1
        clear hnm hnf
        go_enter Tryd.func7, Tryd.ntmps7
        go_wp2_with (first
          | (go_at_call 21
             refine HN.out.mono ?_
             rintro e w1 ⟨rfl, rfl⟩)
          | (go_at_call 22
             refine (HG.out _).mono ?_
             rintro e w1 ⟨rfl, rfl⟩)
          | (go_at_call 15
             refine (gl_known HP.out).mono ?_
             rintro e w3 ⟨rfl, hc3⟩
             have HC3 := Lib.hid hc3
             clear hc3))
        go_ret
        exact ⟨rfl, HC3.out⟩
    · have h0d : decide (0 ≤ r) = false := by simpa using h0
      clear hnm hnf
      go_enter Tryd.func7, Tryd.ntmps7
      go_wp2_with (first
        | (go_at_call 21
           refine HN.out.mono ?_
           rintro e w1 ⟨rfl, rfl⟩)
        | (go_at_call 22
           refine (HG.out _).mono ?_
           rintro e w1 ⟨rfl, rfl⟩)
        | (go_at_call 15
           refine (gl_known HP.out).mono ?_
           rintro e w3 ⟨rfl, hc3⟩
           have HC3 := Lib.hid hc3
           clear hc3))
      go_ret
      exact ⟨rfl, HC3.out⟩
end
end Go.Proofs.YtodbeeodhekpeaaDoor
