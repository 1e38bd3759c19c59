/-
  UN: USame, UKnP, UKnown.
-/
import Derived.Test.YtodbeeodhekpeaaDoorZUN45
namespace Go.Proofs.YtodbeeodhekpeaaDoor
open Go.RowKit
theorem fnv_eq {t u : FnV} : t = u ↔ t.name = u.name ∧ t.args = u.args ∧ t.code = u.code := by
  constructor
  · rintro rfl; exact ⟨rfl, rfl, rfl⟩
  · rintro ⟨h1, h2, h3⟩
    cases t; cases u; simp only at h1 h2 h3; subst h1; subst h2; subst h3; rfl
def EqPost (P : Prop) (W : World) (e : Ending) (w' : World) : Prop := ∃ b : Bool, e = .returned (.bool b) ∧ (b = true ↔ P) ∧ Chg [] W w'
theorem ba_tl {a b : ByteArray} (h : a.toList = b.toList) : a = b := by
  rw [ByteArray.toList_eq, ByteArray.toList_eq] at h
  have := Array.toList_inj.1 h
  cases a; cases b
  simp only at this
  rw [this]
theorem take_step {α : Type} {l l2 : List α} {k : Nat} {t u : α} (h : l.take k = l2.take k) (h1 : l[k]? = some t) (h2 : l2[k]? = some u) : l.take (k + 1) = l2.take (k + 1) ↔ t = u := by
  rw [List.take_add_one, List.take_add_one, h, h1, h2]
  simp
section
variable {W : World} {A A2 : Option Addr} {n c n2 c2 : Nat} {l l2 : List FnV}
set_option maxHeartbeats 4000000 in
set_option maxRecDepth 100000 in
theorem sleq_any (h : Fnr W A n c l) (h2 : Fnr W A2 n2 c2 l2) : Calls Tryd.prog 52 #[.slice A n c, .slice A2 n2 c2] W (EqPost (l = l2) W) := by
  have HPO := Lib.hid (show ∀ (b : Bool) (wr : World), (b = true ↔ l = l2) → Chg [] W wr → EqPost (l = l2) W (.returned (.bool b)) wr from fun b wr h1 h2 => ⟨b, rfl, h1, h2⟩)
  generalize EqPost (l = l2) W = PO at HPO ⊢
  have HH := Lib.hid h
  have HH2 := Lib.hid h2
  have HL := Lib.hid h.len
  have HL2 := Lib.hid h2.len
  have hm1 := h.max
  have hm2 := h2.max
  clear h h2
  by_cases hn : n = n2
  · subst hn
    go_enter Tryd.func52, Tryd.ntmps52
    go_wp2_with fail
    go_loopw [13] (fun i wr => ∃ k : Nat, i = .int .i64 (k : Int) ∧ k ≤ n ∧ Hid (l.take k = l2.take k) ∧ Hid (Chg [] W wr)) (fun i _ => n - (intOf i).toNat)
    case atStart => exact ⟨0, rfl, by omega, Lib.hid rfl, Lib.hid (Chg.refl [] _)⟩
    case round =>
      obtain ⟨k, rfl, hk, HT, HC⟩ := hrel
      by_cases hkn : k < n
      · have hkI : (k : Int) < (n : Int) := by omega
        obtain ⟨t, htk⟩ : ∃ t, l[k]? = some t := ⟨l[k]'(by rw [HL.out]; exact hkn), by simp⟩
        obtain ⟨u, huk⟩ : ∃ t, l2[k]? = some t := ⟨l2[k]'(by rw [HL2.out]; exact hkn), by simp⟩
        have HST := Lib.hid (take_step HT.out htk huk)
        have HNE := Lib.hid (show t ≠ u → l ≠ l2 from fun hne he => by rw [he, huk] at htk; injection htk with htk; exact hne htk.symm)
        obtain ⟨fb, fo, rfl, hfbl, e0, e1, e2⟩ := (HH.out.keep HC.out).cell htk
        obtain ⟨gb, go, rfl, hgbl, d0, d1, d2⟩ := (HH2.out.keep HC.out).cell huk
        clear htk huk
        go_upto_region 6 with fail
        by_cases q1 : t.name = u.name
        · by_cases q2 : t.args = u.args
          · by_cases q3 : t.code.toList = u.code.toList
            · have HS3 := Lib.hid (HST.out.2 (fnv_eq.2 ⟨q1, q2, ba_tl q3⟩))
              go_region
              go_wp2_with fail
              go_roundw
              case rel => exact ⟨k + 1, by go_num, by omega, HS3, Lib.hid HC.out.drew⟩
              case measure => simp [intOf]; omega
            · have HS3 := Lib.hid (HNE.out (fun h => q3 (by rw [h])))
              go_region
              go_wp2_with fail
              exact HPO.out false _ ⟨(fun h => by cases h), fun h => absurd h HS3.out⟩ HC.out.drew
          · have HS3 := Lib.hid (HNE.out (fun h => q2 (by rw [h])))
            go_region
            go_wp2_with fail
            exact HPO.out false _ ⟨(fun h => by cases h), fun h => absurd h HS3.out⟩ HC.out.drew
        · have HS3 := Lib.hid (HNE.out (fun h => q1 (by rw [h])))
          go_region
          go_wp2_with fail
          exact HPO.out false _ ⟨(fun h => by cases h), fun h => absurd h HS3.out⟩ HC.out.drew
      · have hkI : ¬ (k : Int) < (n : Int) := by omega
        have HE := Lib.hid (show l = l2 from by
          have := HT.out
          rw [List.take_of_length_le (by rw [HL.out]; omega), List.take_of_length_le (by rw [HL2.out]; omega)] at this
          exact this)
        go_wp2_with fail
        exact HPO.out true _ ⟨fun _ => HE.out, fun _ => rfl⟩ HC.out
  · have hnI : ((n : Int) == (n2 : Int)) = false := by simp; omega
    go_enter Tryd.func52, Tryd.ntmps52
    go_wp2_with fail
    exact HPO.out false _ ⟨(fun h => by cases h), fun h => absurd (by rw [← HL.out, ← HL2.out, h]) hn⟩ (Chg.refl [] _)
set_option maxHeartbeats 4000000 in
set_option maxRecDepth 100000 in
theorem usame_any {p m p2 m2 : Int} (h : Fnr W A n c l) (h2 : Fnr W A2 n2 c2 l2) : Calls Tryd.prog 32 #[unitV p m A n c, unitV p2 m2 A2 n2 c2] W (EqPost (p = p2 ∧ m = m2 ∧ l = l2) W) := by
  have HPO := Lib.hid (show ∀ (b : Bool) (wr : World), (b = true ↔ (p = p2 ∧ m = m2 ∧ l = l2)) → Chg [] W wr → EqPost (p = p2 ∧ m = m2 ∧ l = l2) W (.returned (.bool b)) wr from fun b wr h1 h2 => ⟨b, rfl, h1, h2⟩)
  generalize EqPost (p = p2 ∧ m = m2 ∧ l = l2) W = PO at HPO ⊢
  have HS := Lib.hid (fun (w : World) (hc : Chg [] W w) => sleq_any (h.keep hc) (h2.keep hc))
  clear h h2
  unfold unitV
  have HN := Lib.hid (fun (w : World) => Whole.new w 25 [.int .i64 p, .int .i64 m, .slice A n c])
  have HN2 := Lib.hid (fun (w : World) => Whole.new w 25 [.int .i64 p2, .int .i64 m2, .slice A2 n2 c2])
  go_enter Tryd.func32, Tryd.ntmps32
  go_upto_region 1 with fail
  have hX := HN.out W
  have hc1 := (Chg.refl [] W).alloc (.cells #[.int .i64 p, .int .i64 m, .slice A n c] 25)
  have hY := HN2.out (W.alloc (.cells #[.int .i64 p, .int .i64 m, .slice A n c] 25))
  have hc2 := (Chg.refl [] (W.alloc (.cells #[.int .i64 p, .int .i64 m, .slice A n c] 25))).alloc (.cells #[.int .i64 p2, .int .i64 m2, .slice A2 n2 c2] 25)
  have hX2 := hX.keep hc2
  have HC := Lib.hid (hc1.trans hc2)
  rw [show (W.alloc (.cells #[.int .i64 p, .int .i64 m, .slice A n c] 25)).heap.size = W.heap.size + 1 by simp] at hY
  generalize W.heap.size = g1 at hX2 hY ⊢
  generalize (W.alloc (.cells #[.int .i64 p, .int .i64 m, .slice A n c] 25)).alloc (.cells #[.int .i64 p2, .int .i64 m2, .slice A2 n2 c2] 25) = w2 at hX2 hY HC ⊢
  have x0 := hX2.cell 0
  have x1 := hX2.cell 1
  have x2 := hX2.cell 2
  have y0 := hY.cell 0
  have y1 := hY.cell 1
  have y2 := hY.cell 2
  clear hX hX2 hY hc1 hc2
  by_cases q1 : p = p2
  · have b1 : (p == p2) = true := by simpa using q1
    by_cases q2 : m = m2
    · have b2 : (m == m2) = true := by simpa using q2
      clear q1 q2
      go_wp2_with (go_at_call 52
                   refine (HS.out _ HC.out).mono ?_
                   rintro e w3 ⟨b, rfl, hb, hc3⟩
                   have HB := Lib.hid hb
                   have HC3 := Lib.hid (HC.out.trans hc3)
                   clear hb hc3)
      exact HPO.out b _ ⟨fun h => ⟨by simpa using b1, by simpa using b2, HB.out.1 h⟩, fun h => HB.out.2 h.2.2⟩ HC3.out
    · have b2 : (m == m2) = false := by simpa using q2
      go_wp2_with fail
      exact HPO.out false _ ⟨(fun h => by cases h), fun h => absurd h.2.1 q2⟩ HC.out
  · have b1 : (p == p2) = false := by simpa using q1
    go_wp2_with fail
    exact HPO.out false _ ⟨(fun h => by cases h), fun h => absurd h.1 q1⟩ HC.out
end
end Go.Proofs.YtodbeeodhekpeaaDoor
namespace Go.Proofs.YtodbeeodhekpeaaDoor
open Go.RowKit
open Go.Lib (decDigits encodeRune)
def kuC : ByteArray := ⟨#[97, 49, 43]⟩
def kuF : FnV := ⟨102, 1, kuC⟩
def kuT : List UInt8 := [117, 110, 105, 116, 32, 49, 32, 50, 10, 102, 49, 32, 97, 49, 43, 10]
def kuG : FnV := ⟨102, 0, ⟨#[49]⟩⟩
theorem dg0 : decDigits 0 = [48] := by rw [Lib.decDigits_one (by omega)]; rfl
theorem dg1 : decDigits 1 = [49] := by rw [Lib.decDigits_one (by omega)]; rfl
theorem dg2 : decDigits 2 = [50] := by rw [Lib.decDigits_one (by omega)]; rfl
theorem kuC_tok : toksOf kuC = [⟨97, 0, 0⟩, ⟨48, 1, 0⟩, ⟨43, 0, 0⟩] := by
  have h : tokR kuC = some [⟨97, 0, 0⟩, ⟨48, 1, 0⟩, ⟨43, 0, 0⟩] := by rfl
  unfold toksOf
  rw [h]
  rfl
theorem kuC_tx : txC kuC = [97, 49, 43] := by
  unfold txC
  rw [kuC_tok, txB_cons_known _ _ _ (by decide) (by decide) (by decide), txB_cons_num _ _ _ rfl, txB_cons_known _ _ _ (by decide) (by decide) (by decide)]
  rw [show (1 : Int).toNat = 1 from rfl, dg1]
  rfl
theorem ku_zero : rText 0 0 [] = ([117, 110, 105, 116, 32, 48, 32, 48, 10], 0) := by
  have h : utx 0 0 [] = [117, 110, 105, 116, 32, 48, 32, 48, 10] := by
    unfold utx utFs
    rw [show (0 : Int).toNat = 0 from rfl, dg0]
    rfl
  have hr : rRight 0 0 [] = 0 := by rfl
  unfold rText
  rw [if_pos hr, h]
  rfl
theorem ku_utx : utx 1 2 [kuF] = kuT := by
  have h : utF kuF = [102, 49, 32, 97, 49, 43, 10] := by
    unfold utF
    show encodeRune 102 ++ (decDigits ((1 : Int).toNat) ++ (32 :: (txC kuC ++ [10]))) = _
    rw [kuC_tx, show (1 : Int).toNat = 1 from rfl, dg1]
    rfl
  unfold utx utFs
  rw [h, show (1 : Int).toNat = 1 from rfl, show (2 : Int).toNat = 2 from rfl, dg1, dg2]
  rfl
theorem ku_parse : rParse kuT = (0, 1, 2, [kuF]) := by
  have hr : rRight 1 2 [kuF] = 0 := by decide +kernel
  have := parse_back (rRight_ok.1 hr) (by rw [ku_utx]; decide)
  rw [ku_utx] at this
  rw [this]
  have hp : plainF kuF = kuF := by
    unfold plainF
    show (⟨102, 1, ⟨(txC kuC).toArray⟩⟩ : FnV) = _
    rw [kuC_tx]
    rfl
  rw [List.map_cons, hp]
  rfl
theorem ku_none : rParse [] = (12, 0, 0, []) := by rfl
theorem ku_two : rRight 0 0 [kuG, kuG] = 12 := by rfl
end Go.Proofs.YtodbeeodhekpeaaDoor
namespace Go.Proofs.YtodbeeodhekpeaaDoor
open Go.RowKit
theorem Fnr.two {W : World} (w : World) (f g : FnV) (hf : -9223372036854775808 ≤ f.args ∧ f.args ≤ 9223372036854775807) (hg : -9223372036854775808 ≤ g.args ∧ g.args ≤ 9223372036854775807) (h : Whole W w.heap.size 32 (fnCs [f, g])) : Fnr W (some ⟨w.heap.size, 0, none⟩) 2 2 [f, g] := by
  refine ⟨rfl, fun _ => ⟨_, rfl, h.lt, fun j v hj => ?_⟩, by omega, by omega, fun _ ad e => by injection e with e; subst e; rfl, fun x hx => ?_⟩
  · rw [add_plain, Nat.zero_add, h.cell j]; exact hj
  · simp at hx; rcases hx with rfl | rfl
    · exact hf
    · exact hg
section
variable {w : World}
set_option maxHeartbeats 8000000 in
set_option maxRecDepth 100000 in
theorem ul_known (hP : PowB w.heap.size w) : Calls Tryd.prog 11 #[] w (BoolPost true w) := by
  have HP := Lib.hid hP
  have HT0 := Lib.hid (utext_any (W := w) (A := none) (n := 0) (c := 0) (l := []) (pages := 0) (most := 0) ⟨rfl, fun h => absurd h (by simp [fnCs]), Nat.le_refl _, by omega, fun h => absurd h (by omega), by simp⟩ (by simp) hP)
  rw [ku_zero] at HT0
  unfold UTextPost at HT0
  simp only at HT0
  rw [show strOf [117, 110, 105, 116, 32, 48, 32, 48, 10] = ⟨#[117, 110, 105, 116, 32, 48, 32, 48, 10]⟩ from rfl] at HT0
  unfold unitV at HT0
  have HA := Lib.hid (fun (W : World) (h : PowB W.heap.size W) => uparse_any (w := W) [] (by simp) h)
  have HB := Lib.hid (fun (W : World) (h : PowB W.heap.size W) => uparse_any (w := W) kuT (by decide) h)
  rw [ku_none, show strOf [] = ⟨#[]⟩ from rfl] at HA
  rw [ku_parse, show strOf kuT = ⟨#[117, 110, 105, 116, 32, 49, 32, 50, 10, 102, 49, 32, 97, 49, 43, 10]⟩ from rfl] at HB
  clear hP
  go_enter Tryd.func11, Tryd.ntmps11
  go_upto_region 3 with (first
    | (go_at_call 9
       refine HT0.out.mono ?_
       rintro e w1 ⟨rfl, hc1⟩
       have HC1 := Lib.hid hc1
       clear hc1)
    | (go_at_call 31
       refine (HA.out _ (HP.out.here HC1.out)).mono ?_
       rintro e w2 ⟨v2, rfl, ho2, _, _, hc2⟩
       obtain ⟨A2, c2, rfl, _⟩ := rown_slice (n := 0) ho2
       have HC2 := Lib.hid (HC1.out.trans hc2)
       clear hc2 ho2))
  have HC3 := Lib.hid (HC2.out.alloc (.cells #[.int .i64 0, .int .i64 0, .slice A2 0 c2] 25))
  generalize w2.heap.size = ga
  generalize w2.alloc (.cells #[.int .i64 0, .int .i64 0, .slice A2 0 c2] 25) = w3 at HC3 ⊢
  go_upto_region 4 with (go_at_call 31
                         refine (HB.out _ (HP.out.here HC3.out)).mono ?_
                         rintro e w4 ⟨v4, rfl, ho4, _, hf4, hc4⟩
                         obtain ⟨A4, c4, rfl, hfr⟩ := Fnr.of_own (n := 1) (l := [kuF]) ho4 (by decide) (fun f hf => by have := hf4 f hf; unfold okF at this; omega)
                         have HF4 := Lib.hid hfr
                         have HC4 := Lib.hid (HC3.out.trans hc4)
                         clear hc4 ho4 hf4 hfr)
  have hN := Whole.new w4 25 [.int .i64 1, .int .i64 2, .slice A4 1 c4]
  have hal := (Chg.refl [] w4).alloc (.cells #[.int .i64 1, .int .i64 2, .slice A4 1 c4] 25)
  have HU5 := Lib.hid hN
  have HC5 := Lib.hid (HC4.out.trans hal)
  have HF5 := Lib.hid (HF4.out.keep hal)
  clear hN hal
  generalize w4.heap.size = gu at HU5 ⊢
  generalize w4.alloc (.cells #[.int .i64 1, .int .i64 2, .slice A4 1 c4] 25) = w5 at HU5 HC5 HF5 ⊢
  go_upto_region 5 with fail
  have hal := (Chg.refl [] w5).alloc (.cells #[.int .i32 102, .int .i64 0, .string ⟨#[49]⟩, .int .i32 102, .int .i64 0, .string ⟨#[49]⟩] 32)
  have hW6 := Whole.new w5 32 (fnCs [kuG, kuG])
  have hal2 := hal.alloc (.cells #[.int .i64 0, .int .i64 0, .slice (some ⟨w5.heap.size, 0, none⟩) 2 2] 25)
  have hU7 := HU5.out.keep hal2
  have hF7 := HF5.out.keep hal2
  have hC7 := HC5.out.trans hal2
  have hW7 := hW6.keep ((Chg.refl [] (w5.alloc (.cells #[.int .i32 102, .int .i64 0, .string ⟨#[49]⟩, .int .i32 102, .int .i64 0, .string ⟨#[49]⟩] 32))).alloc (.cells #[.int .i64 0, .int .i64 0, .slice (some ⟨w5.heap.size, 0, none⟩) 2 2] 25))
  have hG7 := Fnr.two w5 kuG kuG (by decide) (by decide) hW7
  have hV7 := Whole.new (w5.alloc (.cells #[.int .i32 102, .int .i64 0, .string ⟨#[49]⟩, .int .i32 102, .int .i64 0, .string ⟨#[49]⟩] 32)) 25 [.int .i64 0, .int .i64 0, .slice (some ⟨w5.heap.size, 0, none⟩) 2 2]
  rw [show (w5.alloc (.cells #[.int .i32 102, .int .i64 0, .string ⟨#[49]⟩, .int .i32 102, .int .i64 0, .string ⟨#[49]⟩] 32)).heap.size = w5.heap.size + 1 by simp] at hV7
  have HU7 := Lib.hid hU7
  have HF7 := Lib.hid hF7
  have HC7 := Lib.hid hC7
  have HG7 := Lib.hid hG7
  have HV7 := Lib.hid hV7
  clear hU7 hF7 hC7 hW7 hG7 hV7 hW6 hal hal2
  generalize w5.heap.size = gv at HU7 HF7 HC7 HG7 HV7 ⊢
  generalize (w5.alloc (.cells #[.int .i32 102, .int .i64 0, .string ⟨#[49]⟩, .int .i32 102, .int .i64 0, .string ⟨#[49]⟩] 32)).alloc (.cells #[.int .i64 0, .int .i64 0, .slice (some ⟨gv, 0, none⟩) 2 2] 25) = w7 at HU7 HF7 HC7 HG7 HV7 ⊢
  obtain ⟨b, o, rfl, hb, e0, e1, e2⟩ := HF7.out.cell (k := 0) (t := kuF) rfl
  have HR := Lib.hid (uright_any (pages := 0) (most := 0) HG7.out (by intro f hf; simp at hf; subst hf; decide))
  rw [ku_two] at HR
  have HS1 := Lib.hid (fun (W : World) (h : Chg [] w7 W) => usame_any (p := 1) (m := 2) (p2 := 1) (m2 := 2) (HF7.out.keep h) (HF7.out.keep h))
  have HS2 := Lib.hid (fun (W : World) (h : Chg [] w7 W) => usame_any (p := 1) (m := 2) (p2 := 0) (m2 := 0) (HF7.out.keep h) (HG7.out.keep h))
  unfold RightPost at HR
  unfold unitV at HR HS1 HS2
  have k1 : w7.cell? ⟨b, o + 1, none⟩ = some (.int .i64 1) := by simpa [kuF] using e1
  have k2 : w7.cell? ⟨b, o + 2, none⟩ = some (.string ⟨#[97, 49, 43]⟩) := by simpa [kuF, kuC] using e2
  clear e0 e1 e2
  have u0 := HU7.out.cell 0
  have u1 := HU7.out.cell 1
  have u2 := HU7.out.cell 2
  have v0 := HV7.out.cell 0
  have v1 := HV7.out.cell 1
  have v2 := HV7.out.cell 2
  go_wp2_with (first
    | (go_at_call 12
       refine HR.out.mono ?_
       rintro e w8 ⟨rfl, hc8⟩
       have HC8 := Lib.hid hc8
       have HU8 := Lib.hid (HU7.out.keep hc8)
       have HV8 := Lib.hid (HV7.out.keep hc8)
       have x0 := HU8.out.cell 0
       have x1 := HU8.out.cell 1
       have x2 := HU8.out.cell 2
       clear hc8)
    | (go_at_call 32
       with_reducible refine (HS1.out _ HC8.out).mono ?_
       rintro e w9 ⟨b9, rfl, hb9, hc9⟩
       obtain rfl : b9 = true := by simpa using hb9
       have HC9 := Lib.hid (HC8.out.trans hc9)
       have HU9 := Lib.hid (HU8.out.keep hc9)
       have HV9 := Lib.hid (HV8.out.keep hc9)
       have y0 := HU9.out.cell 0
       have y1 := HU9.out.cell 1
       have y2 := HU9.out.cell 2
       have z0 := HV9.out.cell 0
       have z1 := HV9.out.cell 1
       have z2 := HV9.out.cell 2
       clear hc9 hb9)
    | (go_at_call 32
       with_reducible refine (HS2.out _ HC9.out).mono ?_
       rintro e w10 ⟨b10, rfl, hb10, hc10⟩
       obtain rfl : b10 = false := by simpa using hb10
       have HC10 := Lib.hid (HC9.out.trans hc10)
       clear hc10 hb10))
  go_ret
  exact ⟨rfl, HC7.out.trans HC10.out⟩
end
end Go.Proofs.YtodbeeodhekpeaaDoor
