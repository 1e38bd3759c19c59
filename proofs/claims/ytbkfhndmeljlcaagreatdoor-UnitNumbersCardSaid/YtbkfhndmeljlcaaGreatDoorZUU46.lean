/-
  UU: UKnP, UKnown, LawUBk.
-/
import Derived.Test.YtbkfhndmeljlcaaGreatDoorZUU3
import Derived.Test.YtbkfhndmeljlcaaGreatDoorZUU12
import Derived.Test.YtbkfhndmeljlcaaGreatDoorZUU31
import Derived.Test.YtbkfhndmeljlcaaGreatDoorZUU43
import Derived.Test.YtbkfhndmeljlcaaGreatDoorZUU45
namespace Go.Proofs.YtbkfhndmeljlcaaGreatDoor
open Go.RowKit
open Go.Lib (decDigits encodeRune)
def kuC : ByteArray := ⟨#[97, 49, 43]⟩
def kuF : FnV := ⟨102, 1, kuC⟩
def kuT : List UInt8 := [117, 110, 105, 116, 32, 49, 32, 50, 10, 102, 49, 32, 97, 49, 43, 10]
def kuG : FnV := ⟨102, 0, ⟨#[49]⟩⟩
theorem dg0 : decDigits 0 = [48] := by rw [Lib.decDigits_one (by omega)]; rfl
theorem dg1 : decDigits 1 = [49] := by rw [Lib.decDigits_one (by omega)]; rfl
theorem dg2 : decDigits 2 = [50] := by rw [Lib.decDigits_one (by omega)]; rfl
theorem kuC_tok : toksOf kuC = [⟨97, 0, 0⟩, ⟨48, 1, 0⟩, ⟨43, 0, 0⟩] := by
  have h : tokR kuC = some [⟨97, 0, 0⟩, ⟨48, 1, 0⟩, ⟨43, 0, 0⟩] := by rfl
  unfold toksOf
  rw [h]
  rfl
theorem kuC_tx : txC kuC = [97, 49, 43] := by
  unfold txC
  rw [kuC_tok, txB_cons_known _ _ _ (by decide) (by decide) (by decide), txB_cons_num _ _ _ rfl, txB_cons_known _ _ _ (by decide) (by decide) (by decide)]
  rw [show (1 : Int).toNat = 1 from rfl, dg1]
  rfl
theorem ku_zero : rText 0 0 [] = ([117, 110, 105, 116, 32, 48, 32, 48, 10], 0) := by
  have h : utx 0 0 [] = [117, 110, 105, 116, 32, 48, 32, 48, 10] := by
    unfold utx utFs
    rw [show (0 : Int).toNat = 0 from rfl, dg0]
    rfl
  have hr : rRight 0 0 [] = 0 := by rfl
  unfold rText
  rw [if_pos hr, h]
  rfl
theorem ku_utx : utx 1 2 [kuF] = kuT := by
  have h : utF kuF = [102, 49, 32, 97, 49, 43, 10] := by
    unfold utF
    show encodeRune 102 ++ (decDigits ((1 : Int).toNat) ++ (32 :: (txC kuC ++ [10]))) = _
    rw [kuC_tx, show (1 : Int).toNat = 1 from rfl, dg1]
    rfl
  unfold utx utFs
  rw [h, show (1 : Int).toNat = 1 from rfl, show (2 : Int).toNat = 2 from rfl, dg1, dg2]
  rfl
theorem ku_parse : rParse kuT = (0, 1, 2, [kuF]) := by
  have hr : rRight 1 2 [kuF] = 0 := by decide +kernel
  have := parse_back (rRight_ok.1 hr) (by rw [ku_utx]; decide)
  rw [ku_utx] at this
  rw [this]
  have hp : plainF kuF = kuF := by
    unfold plainF
    show (⟨102, 1, ⟨(txC kuC).toArray⟩⟩ : FnV) = _
    rw [kuC_tx]
    rfl
  rw [List.map_cons, hp]
  rfl
theorem ku_none : rParse [] = (12, 0, 0, []) := by rfl
theorem ku_two : rRight 0 0 [kuG, kuG] = 12 := by rfl
end Go.Proofs.YtbkfhndmeljlcaaGreatDoor
namespace Go.Proofs.YtbkfhndmeljlcaaGreatDoor
open Go.RowKit
theorem Fnr.two {W : World} (w : World) (f g : FnV) (hf : -9223372036854775808 ≤ f.args ∧ f.args ≤ 9223372036854775807) (hg : -9223372036854775808 ≤ g.args ∧ g.args ≤ 9223372036854775807) (h : Whole W w.heap.size 58 (fnCs [f, g])) : Fnr W (some ⟨w.heap.size, 0, none⟩) 2 2 [f, g] := by
  refine ⟨rfl, fun _ => ⟨_, rfl, h.lt, fun j v hj => ?_⟩, by omega, by omega, fun _ ad e => by injection e with e; subst e; rfl, fun x hx => ?_⟩
  · rw [add_plain, Nat.zero_add, h.cell j]; exact hj
  · simp at hx; rcases hx with rfl | rfl
    · exact hf
    · exact hg
section
variable {w : World}
set_option maxHeartbeats 8000000 in
set_option maxRecDepth 100000 in
theorem ul_known (hP : PowB w.heap.size w) : Calls Tryz.prog 29 #[] w (BoolPost true w) := by
  have HP := Lib.hid hP
  have HT0 := Lib.hid (utext_any (W := w) (A := none) (n := 0) (c := 0) (l := []) (pages := 0) (most := 0) ⟨rfl, fun h => absurd h (by simp [fnCs]), Nat.le_refl _, by omega, fun h => absurd h (by omega), by simp⟩ (by simp) hP)
  rw [ku_zero] at HT0
  unfold UTextPost at HT0
  simp only at HT0
  rw [show strOf [117, 110, 105, 116, 32, 48, 32, 48, 10] = ⟨#[117, 110, 105, 116, 32, 48, 32, 48, 10]⟩ from rfl] at HT0
  unfold unitV at HT0
  have HA := Lib.hid (fun (W : World) (h : PowB W.heap.size W) => uparse_any (w := W) [] (by simp) h)
  have HB := Lib.hid (fun (W : World) (h : PowB W.heap.size W) => uparse_any (w := W) kuT (by decide) h)
  rw [ku_none, show strOf [] = ⟨#[]⟩ from rfl] at HA
  rw [ku_parse, show strOf kuT = ⟨#[117, 110, 105, 116, 32, 49, 32, 50, 10, 102, 49, 32, 97, 49, 43, 10]⟩ from rfl] at HB
  clear hP
  go_enter Tryz.func29, Tryz.ntmps29
  go_upto_region 3 with (first
    | (go_at_call 31
       refine HT0.out.mono ?_
       rintro e w1 ⟨rfl, hc1⟩
       have HC1 := Lib.hid hc1
       clear hc1)
    | (go_at_call 32
       refine (HA.out _ (HP.out.here HC1.out)).mono ?_
       rintro e w2 ⟨v2, rfl, ho2, _, _, hc2⟩
       obtain ⟨A2, c2, rfl, _⟩ := rown_slice (n := 0) ho2
       have HC2 := Lib.hid (HC1.out.trans hc2)
       clear hc2 ho2))
  have HC3 := Lib.hid (HC2.out.alloc (.cells #[.int .i64 0, .int .i64 0, .slice A2 0 c2] 24))
  generalize w2.heap.size = ga
  generalize w2.alloc (.cells #[.int .i64 0, .int .i64 0, .slice A2 0 c2] 24) = w3 at HC3 ⊢
  go_upto_region 4 with (go_at_call 32
                         refine (HB.out _ (HP.out.here HC3.out)).mono ?_
                         rintro e w4 ⟨v4, rfl, ho4, _, hf4, hc4⟩
                         obtain ⟨A4, c4, rfl, hfr⟩ := Fnr.of_own (n := 1) (l := [kuF]) ho4 (by decide) (fun f hf => by have := hf4 f hf; unfold okF at this; omega)
                         have HF4 := Lib.hid hfr
                         have HC4 := Lib.hid (HC3.out.trans hc4)
                         clear hc4 ho4 hf4 hfr)
  have hN := Whole.new w4 24 [.int .i64 1, .int .i64 2, .slice A4 1 c4]
  have hal := (Chg.refl [] w4).alloc (.cells #[.int .i64 1, .int .i64 2, .slice A4 1 c4] 24)
  have HU5 := Lib.hid hN
  have HC5 := Lib.hid (HC4.out.trans hal)
  have HF5 := Lib.hid (HF4.out.keep hal)
  clear hN hal
  generalize w4.heap.size = gu at HU5 ⊢
  generalize w4.alloc (.cells #[.int .i64 1, .int .i64 2, .slice A4 1 c4] 24) = w5 at HU5 HC5 HF5 ⊢
  go_upto_region 5 with fail
  have hal := (Chg.refl [] w5).alloc (.cells #[.int .i32 102, .int .i64 0, .string ⟨#[49]⟩, .int .i32 102, .int .i64 0, .string ⟨#[49]⟩] 58)
  have hW6 := Whole.new w5 58 (fnCs [kuG, kuG])
  have hal2 := hal.alloc (.cells #[.int .i64 0, .int .i64 0, .slice (some ⟨w5.heap.size, 0, none⟩) 2 2] 24)
  have hU7 := HU5.out.keep hal2
  have hF7 := HF5.out.keep hal2
  have hC7 := HC5.out.trans hal2
  have hW7 := hW6.keep ((Chg.refl [] (w5.alloc (.cells #[.int .i32 102, .int .i64 0, .string ⟨#[49]⟩, .int .i32 102, .int .i64 0, .string ⟨#[49]⟩] 58))).alloc (.cells #[.int .i64 0, .int .i64 0, .slice (some ⟨w5.heap.size, 0, none⟩) 2 2] 24))
  have hG7 := Fnr.two w5 kuG kuG (by decide) (by decide) hW7
  have hV7 := Whole.new (w5.alloc (.cells #[.int .i32 102, .int .i64 0, .string ⟨#[49]⟩, .int .i32 102, .int .i64 0, .string ⟨#[49]⟩] 58)) 24 [.int .i64 0, .int .i64 0, .slice (some ⟨w5.heap.size, 0, none⟩) 2 2]
  rw [show (w5.alloc (.cells #[.int .i32 102, .int .i64 0, .string ⟨#[49]⟩, .int .i32 102, .int .i64 0, .string ⟨#[49]⟩] 58)).heap.size = w5.heap.size + 1 by simp] at hV7
  have HU7 := Lib.hid hU7
  have HF7 := Lib.hid hF7
  have HC7 := Lib.hid hC7
  have HG7 := Lib.hid hG7
  have HV7 := Lib.hid hV7
  clear hU7 hF7 hC7 hW7 hG7 hV7 hW6 hal hal2
  generalize w5.heap.size = gv at HU7 HF7 HC7 HG7 HV7 ⊢
  generalize (w5.alloc (.cells #[.int .i32 102, .int .i64 0, .string ⟨#[49]⟩, .int .i32 102, .int .i64 0, .string ⟨#[49]⟩] 58)).alloc (.cells #[.int .i64 0, .int .i64 0, .slice (some ⟨gv, 0, none⟩) 2 2] 24) = w7 at HU7 HF7 HC7 HG7 HV7 ⊢
  obtain ⟨b, o, rfl, hb, e0, e1, e2⟩ := HF7.out.cell (k := 0) (t := kuF) rfl
  have HR := Lib.hid (uright_any (pages := 0) (most := 0) HG7.out (by intro f hf; simp at hf; subst hf; decide))
  rw [ku_two] at HR
  have HS1 := Lib.hid (fun (W : World) (h : Chg [] w7 W) => usame_any (p := 1) (m := 2) (p2 := 1) (m2 := 2) (HF7.out.keep h) (HF7.out.keep h))
  have HS2 := Lib.hid (fun (W : World) (h : Chg [] w7 W) => usame_any (p := 1) (m := 2) (p2 := 0) (m2 := 0) (HF7.out.keep h) (HG7.out.keep h))
  unfold RightPost at HR
  unfold unitV at HR HS1 HS2
  have k1 : w7.cell? ⟨b, o + 1, none⟩ = some (.int .i64 1) := by simpa [kuF] using e1
  have k2 : w7.cell? ⟨b, o + 2, none⟩ = some (.string ⟨#[97, 49, 43]⟩) := by simpa [kuF, kuC] using e2
  clear e0 e1 e2
  have u0 := HU7.out.cell 0
  have u1 := HU7.out.cell 1
  have u2 := HU7.out.cell 2
  have v0 := HV7.out.cell 0
  have v1 := HV7.out.cell 1
  have v2 := HV7.out.cell 2
  go_wp2_with (first
    | (go_at_call 54
       refine HR.out.mono ?_
       rintro e w8 ⟨rfl, hc8⟩
       have HC8 := Lib.hid hc8
       have HU8 := Lib.hid (HU7.out.keep hc8)
       have HV8 := Lib.hid (HV7.out.keep hc8)
       have x0 := HU8.out.cell 0
       have x1 := HU8.out.cell 1
       have x2 := HU8.out.cell 2
       clear hc8)
    | (go_at_call 30
       with_reducible refine (HS1.out _ HC8.out).mono ?_
       rintro e w9 ⟨b9, rfl, hb9, hc9⟩
       obtain rfl : b9 = true := by simpa using hb9
       have HC9 := Lib.hid (HC8.out.trans hc9)
       have HU9 := Lib.hid (HU8.out.keep hc9)
       have HV9 := Lib.hid (HV8.out.keep hc9)
       have y0 := HU9.out.cell 0
       have y1 := HU9.out.cell 1
       have y2 := HU9.out.cell 2
       have z0 := HV9.out.cell 0
       have z1 := HV9.out.cell 1
       have z2 := HV9.out.cell 2
       clear hc9 hb9)
    | (go_at_call 30
       with_reducible refine (HS2.out _ HC9.out).mono ?_
       rintro e w10 ⟨b10, rfl, hb10, hc10⟩
       obtain rfl : b10 = false := by simpa using hb10
       have HC10 := Lib.hid (HC9.out.trans hc10)
       clear hc10 hb10))
  go_ret
  exact ⟨rfl, HC7.out.trans HC10.out⟩
end
end Go.Proofs.YtbkfhndmeljlcaaGreatDoor
namespace Go.Proofs.YtbkfhndmeljlcaaGreatDoor
open Go.RowKit
theorem text_cases (pg ms : Int) (l : List FnV) : ((rText pg ms l).2 ≠ 0 ∧ (rText pg ms l).1 = []) ∨ (rText pg ms l = (utx pg ms l, 0) ∧ RightF pg ms l ∧ (utx pg ms l).length ≤ 2048) := by
  unfold rText
  by_cases h : rRight pg ms l = 0
  · rw [if_pos h]
    by_cases h2 : 2048 < (utx pg ms l).length
    · rw [if_pos h2]; exact .inl ⟨by decide, rfl⟩
    · rw [if_neg h2]; exact .inr ⟨rfl, rRight_ok.1 h, by omega⟩
  · rw [if_neg h]; exact .inl ⟨h, rfl⟩
theorem text_again {pg ms : Int} {l : List FnV} (h : RightF pg ms l) (hl : (utx pg ms l).length ≤ 2048) : rText pg ms (l.map plainF) = (utx pg ms l, 0) := by
  unfold rText
  rw [if_pos (rRight_ok.2 h.plain), h.text, if_neg (by omega)]
def plF (p m : Int) (l : List FnV) : Fact := fun v W => ∃ A n c, v = .agg #[.int .i64 p, .int .i64 m, .slice A n c] ∧ Fnr W A n c l
theorem keeps_pl (p m : Int) (l : List FnV) : Keeps (Chg []) (plF p m l) := fun _ _ _ ⟨A, n, c, h1, h2⟩ hc => ⟨A, n, c, h1, h2.keep hc⟩
section
variable {w : World} {A : Option Addr} {n c : Nat} {TA : Option Addr} {tn tc : Nat} {ts : List TurnV}
set_option maxHeartbeats 8000000 in
set_option maxRecDepth 100000 in
theorem unitBack_any (HUN : Hid (Calls Tryz.prog 10 #[.slice A n c] w (UnitPost w))) (hT : Trn w TA tn ts) (htn : tn ≤ 9223372036854775807) (hP : PowB w.heap.size w) : Calls Tryz.prog 9 #[.slice A n c, .slice TA tn tc] w (BoolPost true w) := by
  have HP := Lib.hid hP
  have HT := Lib.hid hT
  have HKN := Lib.hid (fun (W : World) (h : PowB W.heap.size W) => ul_known h)
  unfold BoolPost at HKN ⊢
  clear hP hT
  go_enter Tryz.func9, Tryz.ntmps9
  go_upto_region 2 with (first
    | (go_at_call 10
       refine HUN.out.mono ?_
       rintro e w1 ⟨pg, ms, v, fl, rfl, hp0, hp1, hm0, hm1, ho, hg, hfl0, hc1⟩
       obtain ⟨FA, fc, rfl, hFr⟩ := Fnr.of_own ho (by have := hg.lo; omega) (fun f hf => by have := hg.args f hf; omega)
       have HOD := Lib.hid (odds_any (tc := tc) hFr (hg.oddly hfl0) (show Ranged pg from ⟨by omega, by omega⟩) (show Ranged ms from ⟨by omega, by omega⟩) (fun h0 ad e => by
         subst e
         obtain ⟨_, _, e', _, _, hb⟩ := rown_slice ho
         injection e' with e1 _ _
         exact (hb ad e1.symm).2.2.2) (HT.out.keep hc1) htn)
       have HC1 := Lib.hid hc1
       unfold unitV at HOD
       clear ho hg hFr hp0 hp1 hm0 hm1 hc1 hfl0 HUN)
    | (go_at_call 17
       refine HOD.out.mono ?_
       rintro e w2 ⟨pg2, ms2, A2, n2, c2, l, rfl, _, _, hF2, hO2, hc2⟩
       have HF2 := Lib.hid hF2
       have HSM := Lib.hid (show ∀ f ∈ l, f.code.size ≤ 9223372036854775807 from fun f hf => by have := (hO2.fn f hf).2.1; omega)
       have HC2 := Lib.hid (HC1.out.trans hc2)
       clear hF2 hO2 hc2 HOD HC1))
  have hN := Whole.new w2 24 [.int .i64 pg2, .int .i64 ms2, .slice A2 n2 c2]
  have hal := (Chg.refl [] w2).alloc (.cells #[.int .i64 pg2, .int .i64 ms2, .slice A2 n2 c2] 24)
  have HU3 := Lib.hid hN
  have HF3 := Lib.hid (HF2.out.keep hal)
  have HC3 := Lib.hid (HC2.out.trans hal)
  clear hN hal
  generalize w2.heap.size = gu at HU3 ⊢
  generalize w2.alloc (.cells #[.int .i64 pg2, .int .i64 ms2, .slice A2 n2 c2] 24) = w3 at HU3 HF3 HC3 ⊢
  have HTX := Lib.hid (fun (W : World) (h : Fnr W A2 n2 c2 l) (hp : PowB W.heap.size W) => utext_any (pages := pg2) (most := ms2) h HSM.out hp)
  unfold UTextPost at HTX
  unfold unitV at HTX
  have u0 := HU3.out.cell 0
  have u1 := HU3.out.cell 1
  have u2 := HU3.out.cell 2
  rcases text_cases pg2 ms2 l with ⟨he, h0⟩ | ⟨he, hR, hl⟩
  · rw [h0] at HTX
    obtain ⟨E, hE⟩ : ∃ E, E = (rText pg2 ms2 l).2 := ⟨_, rfl⟩
    rw [← hE] at HTX he
    rw [show strOf [] = ⟨#[]⟩ from rfl] at HTX
    have hd : (E == 0) = false := by simpa using he
    clear he h0 hE
    go_wp2_with (first
      | (go_at_call 31
         refine (HTX.out _ HF3.out (HP.out.here HC3.out)).mono ?_
         rintro e w4 ⟨rfl, hc4⟩
         have HC4 := Lib.hid (HC3.out.trans hc4)
         clear hc4)
      | (go_at_call 29
         refine (HKN.out _ (HP.out.here HC4.out)).mono ?_
         rintro e w5 ⟨rfl, hc5⟩
         have HC5 := Lib.hid (HC4.out.trans hc5)
         clear hc5))
    go_ret
    exact ⟨rfl, HC5.out⟩
  · have HPS := Lib.hid (fun (W : World) (h : PowB W.heap.size W) => uparse_any (w := W) (utx pg2 ms2 l) (by omega) h)
    rw [parse_back hR hl] at HPS
    unfold PsPost at HPS
    simp only at HPS
    have HTY := Lib.hid (fun (W : World) (A : Option Addr) (n c : Nat) (h : Fnr W A n c (l.map plainF)) (hs : ∀ f ∈ l.map plainF, f.code.size ≤ 9223372036854775807) (hp : PowB W.heap.size W) => utext_any (pages := pg2) (most := ms2) h hs hp)
    rw [text_again hR hl] at HTY
    unfold UTextPost at HTY
    unfold unitV at HTY
    rw [he] at HTX
    simp only at HTX HTY
    have HPL := Lib.hid (fun (W : World) (h : Fnr W A2 n2 c2 l) => rplain_any (p := pg2) (m := ms2) h HSM.out)
    unfold PlPost at HPL
    unfold unitV at HPL
    have HSA := Lib.hid (fun (W : World) (A B : Option Addr) (n c n' c' : Nat) (h : Fnr W A n c (l.map plainF)) (h' : Fnr W B n' c' (l.map plainF)) => rsame_any (p := pg2) (m := ms2) (p2 := pg2) (m2 := ms2) h h')
    unfold EqPost at HSA
    unfold unitV at HSA
    clear he hR hl
    generalize strOf (utx pg2 ms2 l) = S at *
    go_upto_region 6 with (first
      | (go_at_call 31
         refine (HTX.out _ HF3.out (HP.out.here HC3.out)).mono ?_
         rintro e w4 ⟨rfl, hc4⟩
         have HC4 := Lib.hid (HC3.out.trans hc4)
         have HU4 := Lib.hid (HU3.out.keep hc4)
         have HF4 := Lib.hid (HF3.out.keep hc4)
         clear hc4)
      | (go_at_call 32
         refine (HPS.out _ (HP.out.here HC4.out)).mono ?_
         rintro e w5 ⟨v5, rfl, ho5, hlen5, hok5, hc5⟩
         obtain ⟨A5, c5, rfl, hF5⟩ := Fnr.of_own ho5 hlen5 (fun f hf => by have := hok5 f hf; unfold okF at this; omega)
         have HF5 := Lib.hid hF5
         have HSM5 := Lib.hid (show ∀ f ∈ l.map plainF, f.code.size ≤ 9223372036854775807 from fun f hf => by have := hok5 f hf; unfold okF at this; omega)
         have HC5 := Lib.hid (HC4.out.trans hc5)
         have HU5 := Lib.hid (HU4.out.keep hc5)
         have HG5 := Lib.hid (HF4.out.keep hc5)
         have HL5 := Lib.hid hlen5
         clear hc5 ho5 hlen5 hok5 hF5))
    rw [List.length_map] at HF5 HL5
    obtain ⟨q, hq⟩ : ∃ q, q = l.length := ⟨_, rfl⟩
    have HQ := Lib.hid hq
    rw [← hq] at HF5 HL5 ⊢
    clear hq
    have hN := Whole.new w5 24 [.int .i64 pg2, .int .i64 ms2, .slice A5 q c5]
    have hal := (Chg.refl [] w5).alloc (.cells #[.int .i64 pg2, .int .i64 ms2, .slice A5 q c5] 24)
    have HV6 := Lib.hid hN
    have HF6 := Lib.hid (HF5.out.keep hal)
    have HG6 := Lib.hid (HG5.out.keep hal)
    have HU6 := Lib.hid (HU5.out.keep hal)
    have HC6 := Lib.hid (HC5.out.trans hal)
    clear hN hal u0 u1 u2
    generalize w5.heap.size = gv at HV6 ⊢
    generalize w5.alloc (.cells #[.int .i64 pg2, .int .i64 ms2, .slice A5 q c5] 24) = w6 at HV6 HF6 HG6 HU6 HC6 ⊢
    have v0 := HV6.out.cell 0
    have v1 := HV6.out.cell 1
    have v2 := HV6.out.cell 2
    go_upto_region 7 with (go_at_call 31
                           refine (HTY.out _ _ _ _ HF6.out HSM5.out (HP.out.here HC6.out)).mono ?_
                           rintro e w7 ⟨rfl, hc7⟩
                           have HC7 := Lib.hid (HC6.out.trans hc7)
                           have HV7 := Lib.hid (HV6.out.keep hc7)
                           have HU7 := Lib.hid (HU6.out.keep hc7)
                           have HF7 := Lib.hid (HF6.out.keep hc7)
                           have HG7 := Lib.hid (HG6.out.keep hc7)
                           clear hc7)
    clear v0 v1 v2
    have v0 := HV7.out.cell 0
    have v1 := HV7.out.cell 1
    have v2 := HV7.out.cell 2
    have u0 := HU7.out.cell 0
    have u1 := HU7.out.cell 1
    have u2 := HU7.out.cell 2
    clear v0 v1 v2 u0 u1 u2
    have HHW := Lib.hid (fun (W : World) (h : Chg [] w7.drew W) => (show Chg [] w7 W from (Chg.refl [] w7).drew.trans h))
    have HBP := Lib.hid (fun (W : World) (h : Chg [] w7 W) => (HP.out.here (HC7.out.trans h)))
    have HOK := Lib.hid (show l.length ≤ 1000 ∧ ∀ f ∈ l.map plainF, -9223372036854775808 ≤ f.args ∧ f.args ≤ 9223372036854775807 from ⟨by have := HL5.out; have := HQ.out; omega, HF6.out.args⟩)
    refine wp_flow (by kernel_rfl) plainT plainT_ok (by kernel_rfl) ?_
    refine flow_move_out plainT_ok rfl rfl rfl ?_
    refine flow_eql plainT_ok (.inn rfl) (.const _) (fun ev W he e1 e2 => by go_simp) rfl ?_
    refine flow_move plainT_ok rfl (keeps_isV _) (.inr (keeps_isV _)) rfl ?_
    refine flow1h (r := .agg #[.int .i64 pg2, .int .i64 ms2, .slice A5 q c5]) plainT_ok rfl (.out rfl rfl) rfl (fun ev W he hW e1 => by
      have hk := HV7.out.keep (HHW.out W hW)
      have q0 := hk.cell 0
      have q1 := hk.cell 1
      have q2 := hk.cell 2
      clear hW hk
      go_simp) ?_
    refine flow1h (r := .agg #[.int .i64 pg2, .int .i64 ms2, .slice A2 n2 c2]) plainT_ok rfl (.out rfl rfl) rfl (fun ev W he hW e1 => by
      have hk := HU7.out.keep (HHW.out W hW)
      have q0 := hk.cell 0
      have q1 := hk.cell 1
      have q2 := hk.cell 2
      clear hW hk
      go_simp) ?_
    refine flow_calld (plF pg2 ms2 (l.map plainF)) (keeps_pl _ _ _) (.inr (keeps_pl _ _ _)) (by kernel_rfl) rfl (.cons (.inn rfl) .nil) (fun W hW => (HPL.out W (HG7.out.keep (HHW.out W hW))).mono ?_) ?_
    · rintro e w' ⟨v8, rfl, ho8, hc8⟩
      rw [plain_by]
      obtain ⟨A8, c8, rfl, hF8⟩ := Fnr.of_own (l := l.map plainF) ho8 HOK.out.1 HOK.out.2
      exact ⟨_, rfl, hc8, A8, _, c8, rfl, hF8⟩
    refine flow_call (isV (.bool true)) (keeps_isV _) (.inr (keeps_isV _)) (by kernel_rfl) rfl (fun ev W he hW hf => ?_) ?_
    · have e1 : ev (.tmp 42) = .agg #[.int .i64 pg2, .int .i64 ms2, .slice A5 q c5] := hf.1
      obtain ⟨A8, n8, c8, e2, hF8⟩ : plF pg2 ms2 (l.map plainF) (ev (.tmp 44)) W := hf.2.1
      rw [show (#[Operand.tmp 42, Operand.tmp 44].toList.map ev).toArray = #[ev (.tmp 42), ev (.tmp 44)] from rfl, e1, e2]
      refine (HSA.out W A5 A8 q c5 n8 c8 (HF7.out.keep (HHW.out W hW)) hF8).mono ?_
      rintro e w' ⟨b9, rfl, hb9, hc9⟩
      rw [plain_by]
      exact ⟨_, rfl, hc9, by rw [show b9 = true from by simpa using hb9]; rfl⟩
    refine flow_and plainT_ok rfl rfl rfl ?_
    refine flow_move plainT_ok rfl (keeps_isV _) (.inr (keeps_isV _)) rfl ?_
    refine flow_move_out plainT_ok rfl rfl rfl ?_
    refine flow_eql plainT_ok (.inn rfl) (.const _) (fun ev W he e1 e2 => by go_simp) rfl ?_
    refine flow_and plainT_ok rfl rfl rfl ?_
    refine flow_move plainT_ok rfl (keeps_isV _) (.inr (keeps_isV _)) rfl ?_
    refine flow_move_out plainT_ok rfl rfl rfl ?_
    refine flow_move_out plainT_ok rfl rfl rfl ?_
    refine flow_eql plainT_ok (.inn rfl) (.inn rfl) (fun ev W he e1 e2 => by go_simp) rfl ?_
    refine flow_and plainT_ok rfl rfl rfl ?_
    refine flow_move plainT_ok rfl (keeps_isV _) (.inr (keeps_isV _)) rfl ?_
    refine flow_callv (.bool true) (by kernel_rfl) rfl .nil (fun W hW => (HKN.out W (HBP.out W (HHW.out W hW))).mono ?_) ?_
    · rintro e w' ⟨rfl, hc⟩
      rw [plain_by]
      exact ⟨rfl, hc⟩
    refine flow_and plainT_ok rfl rfl rfl ?_
    refine flow_assign plainT_ok rfl (keeps_isV _) (.inr (keeps_isV _)) rfl ?_
    intro vs W hW hF
    have e4 : vs 4 = .bool true := hF 4 _ rfl rfl
    have HCW := Lib.hid (HC7.out.trans (HHW.out W hW))
    simp only [putAll, Act.put, List.setIfInBounds_toArray, List.set_cons_zero, List.set_cons_succ]
    rw [e4]
    clear hF hW e4
    obtain ⟨wz, hwz⟩ : ∃ wz : World, wz = W := ⟨_, rfl⟩
    rw [← hwz] at HCW ⊢
    clear hwz
    go_wp2_with fail
    go_ret
    exact ⟨rfl, HCW.out⟩
theorem unitBack_full {l : List Int} (hs : Src w A (nms l)) (hlen : l.length = n) (hspot : 0 < n → ∀ ad, A = some ad → ad.spot = none) (hn : n ≤ 9223372036854775807) (hrng : ∀ x ∈ l, -9223372036854775808 ≤ x ∧ x ≤ 9223372036854775807) (hT : Trn w TA tn ts) (htn : tn ≤ 9223372036854775807) (hP : PowB w.heap.size w) :
    Calls Tryz.prog 9 #[.slice A n c, .slice TA tn tc] w (BoolPost true w) := unitBack_any (Lib.hid (unit_any (c := c) hs hlen hspot hn hrng)) hT htn hP
end
end Go.Proofs.YtbkfhndmeljlcaaGreatDoor
