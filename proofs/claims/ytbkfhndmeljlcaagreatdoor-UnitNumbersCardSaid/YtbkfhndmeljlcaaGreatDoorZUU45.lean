/-
  UU: USame, RSame, ULong, ULaw.
-/
import Derived.Test.YtbkfhndmeljlcaaGreatDoorZUU3
import Derived.Test.YtbkfhndmeljlcaaGreatDoorZUU8
import Derived.Test.YtbkfhndmeljlcaaGreatDoorZUU42
import Derived.Test.YtbkfhndmeljlcaaGreatDoorZUU43
import Derived.Test.YtbkfhndmeljlcaaGreatDoorZUU44
namespace Go.Proofs.YtbkfhndmeljlcaaGreatDoor
open Go.RowKit
theorem fnv_eq {t u : FnV} : t = u ↔ t.name = u.name ∧ t.args = u.args ∧ t.code = u.code := by
  constructor
  · rintro rfl; exact ⟨rfl, rfl, rfl⟩
  · rintro ⟨h1, h2, h3⟩
    cases t; cases u; simp only at h1 h2 h3; subst h1; subst h2; subst h3; rfl
def EqPost (P : Prop) (W : World) (e : Ending) (w' : World) : Prop := ∃ b : Bool, e = .returned (.bool b) ∧ (b = true ↔ P) ∧ Chg [] W w'
theorem ba_tl {a b : ByteArray} (h : a.toList = b.toList) : a = b := by
  rw [ByteArray.toList_eq, ByteArray.toList_eq] at h
  have := Array.toList_inj.1 h
  cases a; cases b
  simp only at this
  rw [this]
theorem take_step {α : Type} {l l2 : List α} {k : Nat} {t u : α} (h : l.take k = l2.take k) (h1 : l[k]? = some t) (h2 : l2[k]? = some u) : l.take (k + 1) = l2.take (k + 1) ↔ t = u := by
  rw [List.take_add_one, List.take_add_one, h, h1, h2]
  simp
section
variable {W : World} {A A2 : Option Addr} {n c n2 c2 : Nat} {l l2 : List FnV}
set_option maxHeartbeats 4000000 in
set_option maxRecDepth 100000 in
theorem sleq_any (h : Fnr W A n c l) (h2 : Fnr W A2 n2 c2 l2) : Calls Tryz.prog 56 #[.slice A n c, .slice A2 n2 c2] W (EqPost (l = l2) W) := by
  have HPO := Lib.hid (show ∀ (b : Bool) (wr : World), (b = true ↔ l = l2) → Chg [] W wr → EqPost (l = l2) W (.returned (.bool b)) wr from fun b wr h1 h2 => ⟨b, rfl, h1, h2⟩)
  generalize EqPost (l = l2) W = PO at HPO ⊢
  have HH := Lib.hid h
  have HH2 := Lib.hid h2
  have HL := Lib.hid h.len
  have HL2 := Lib.hid h2.len
  have hm1 := h.max
  have hm2 := h2.max
  clear h h2
  by_cases hn : n = n2
  · subst hn
    go_enter Tryz.func56, Tryz.ntmps56
    go_wp2_with fail
    go_loopw [13] (fun i wr => ∃ k : Nat, i = .int .i64 (k : Int) ∧ k ≤ n ∧ Hid (l.take k = l2.take k) ∧ Hid (Chg [] W wr)) (fun i _ => n - (intOf i).toNat)
    case atStart => exact ⟨0, rfl, by omega, Lib.hid rfl, Lib.hid (Chg.refl [] _)⟩
    case round =>
      obtain ⟨k, rfl, hk, HT, HC⟩ := hrel
      by_cases hkn : k < n
      · have hkI : (k : Int) < (n : Int) := by omega
        obtain ⟨t, htk⟩ : ∃ t, l[k]? = some t := ⟨l[k]'(by rw [HL.out]; exact hkn), by simp⟩
        obtain ⟨u, huk⟩ : ∃ t, l2[k]? = some t := ⟨l2[k]'(by rw [HL2.out]; exact hkn), by simp⟩
        have HST := Lib.hid (take_step HT.out htk huk)
        have HNE := Lib.hid (show t ≠ u → l ≠ l2 from fun hne he => by rw [he, huk] at htk; injection htk with htk; exact hne htk.symm)
        obtain ⟨fb, fo, rfl, hfbl, e0, e1, e2⟩ := (HH.out.keep HC.out).cell htk
        obtain ⟨gb, go, rfl, hgbl, d0, d1, d2⟩ := (HH2.out.keep HC.out).cell huk
        clear htk huk
        go_upto_region 6 with fail
        by_cases q1 : t.name = u.name
        · by_cases q2 : t.args = u.args
          · by_cases q3 : t.code.toList = u.code.toList
            · have HS3 := Lib.hid (HST.out.2 (fnv_eq.2 ⟨q1, q2, ba_tl q3⟩))
              go_region
              go_wp2_with fail
              go_roundw
              case rel => exact ⟨k + 1, by go_num, by omega, HS3, Lib.hid HC.out.drew⟩
              case measure => simp [intOf]; omega
            · have HS3 := Lib.hid (HNE.out (fun h => q3 (by rw [h])))
              go_region
              go_wp2_with fail
              exact HPO.out false _ ⟨(fun h => by cases h), fun h => absurd h HS3.out⟩ HC.out.drew
          · have HS3 := Lib.hid (HNE.out (fun h => q2 (by rw [h])))
            go_region
            go_wp2_with fail
            exact HPO.out false _ ⟨(fun h => by cases h), fun h => absurd h HS3.out⟩ HC.out.drew
        · have HS3 := Lib.hid (HNE.out (fun h => q1 (by rw [h])))
          go_region
          go_wp2_with fail
          exact HPO.out false _ ⟨(fun h => by cases h), fun h => absurd h HS3.out⟩ HC.out.drew
      · have hkI : ¬ (k : Int) < (n : Int) := by omega
        have HE := Lib.hid (show l = l2 from by
          have := HT.out
          rw [List.take_of_length_le (by rw [HL.out]; omega), List.take_of_length_le (by rw [HL2.out]; omega)] at this
          exact this)
        go_wp2_with fail
        exact HPO.out true _ ⟨fun _ => HE.out, fun _ => rfl⟩ HC.out
  · have hnI : ((n : Int) == (n2 : Int)) = false := by simp; omega
    go_enter Tryz.func56, Tryz.ntmps56
    go_wp2_with fail
    exact HPO.out false _ ⟨(fun h => by cases h), fun h => absurd (by rw [← HL.out, ← HL2.out, h]) hn⟩ (Chg.refl [] _)
set_option maxHeartbeats 4000000 in
set_option maxRecDepth 100000 in
theorem usame_any {p m p2 m2 : Int} (h : Fnr W A n c l) (h2 : Fnr W A2 n2 c2 l2) : Calls Tryz.prog 30 #[unitV p m A n c, unitV p2 m2 A2 n2 c2] W (EqPost (p = p2 ∧ m = m2 ∧ l = l2) W) := by
  have HPO := Lib.hid (show ∀ (b : Bool) (wr : World), (b = true ↔ (p = p2 ∧ m = m2 ∧ l = l2)) → Chg [] W wr → EqPost (p = p2 ∧ m = m2 ∧ l = l2) W (.returned (.bool b)) wr from fun b wr h1 h2 => ⟨b, rfl, h1, h2⟩)
  generalize EqPost (p = p2 ∧ m = m2 ∧ l = l2) W = PO at HPO ⊢
  have HS := Lib.hid (fun (w : World) (hc : Chg [] W w) => sleq_any (h.keep hc) (h2.keep hc))
  clear h h2
  unfold unitV
  have HN := Lib.hid (fun (w : World) => Whole.new w 24 [.int .i64 p, .int .i64 m, .slice A n c])
  have HN2 := Lib.hid (fun (w : World) => Whole.new w 24 [.int .i64 p2, .int .i64 m2, .slice A2 n2 c2])
  go_enter Tryz.func30, Tryz.ntmps30
  go_upto_region 1 with fail
  have hX := HN.out W
  have hc1 := (Chg.refl [] W).alloc (.cells #[.int .i64 p, .int .i64 m, .slice A n c] 24)
  have hY := HN2.out (W.alloc (.cells #[.int .i64 p, .int .i64 m, .slice A n c] 24))
  have hc2 := (Chg.refl [] (W.alloc (.cells #[.int .i64 p, .int .i64 m, .slice A n c] 24))).alloc (.cells #[.int .i64 p2, .int .i64 m2, .slice A2 n2 c2] 24)
  have hX2 := hX.keep hc2
  have HC := Lib.hid (hc1.trans hc2)
  rw [show (W.alloc (.cells #[.int .i64 p, .int .i64 m, .slice A n c] 24)).heap.size = W.heap.size + 1 by simp] at hY
  generalize W.heap.size = g1 at hX2 hY ⊢
  generalize (W.alloc (.cells #[.int .i64 p, .int .i64 m, .slice A n c] 24)).alloc (.cells #[.int .i64 p2, .int .i64 m2, .slice A2 n2 c2] 24) = w2 at hX2 hY HC ⊢
  have x0 := hX2.cell 0
  have x1 := hX2.cell 1
  have x2 := hX2.cell 2
  have y0 := hY.cell 0
  have y1 := hY.cell 1
  have y2 := hY.cell 2
  clear hX hX2 hY hc1 hc2
  by_cases q1 : p = p2
  · have b1 : (p == p2) = true := by simpa using q1
    by_cases q2 : m = m2
    · have b2 : (m == m2) = true := by simpa using q2
      clear q1 q2
      go_wp2_with (go_at_call 56
                   refine (HS.out _ HC.out).mono ?_
                   rintro e w3 ⟨b, rfl, hb, hc3⟩
                   have HB := Lib.hid hb
                   have HC3 := Lib.hid (HC.out.trans hc3)
                   clear hb hc3)
      exact HPO.out b _ ⟨fun h => ⟨by simpa using b1, by simpa using b2, HB.out.1 h⟩, fun h => HB.out.2 h.2.2⟩ HC3.out
    · have b2 : (m == m2) = false := by simpa using q2
      go_wp2_with fail
      exact HPO.out false _ ⟨(fun h => by cases h), fun h => absurd h.2.1 q2⟩ HC.out
  · have b1 : (p == p2) = false := by simpa using q1
    go_wp2_with fail
    exact HPO.out false _ ⟨(fun h => by cases h), fun h => absurd h.1 q1⟩ HC.out
end
end Go.Proofs.YtbkfhndmeljlcaaGreatDoor
namespace Go.Proofs.YtbkfhndmeljlcaaGreatDoor
open Go.RowKit
section
variable {W : World} {A A2 : Option Addr} {n c n2 c2 : Nat} {l l2 : List FnV}
set_option maxHeartbeats 8000000 in
set_option maxRecDepth 100000 in
theorem rsame_any {p m p2 m2 : Int} (h : Fnr W A n c l) (h2 : Fnr W A2 n2 c2 l2) : Calls Tryz.prog 22 #[unitV p m A n c, unitV p2 m2 A2 n2 c2] W (EqPost (p = p2 ∧ m = m2 ∧ l = l2) W) := by
  have HPO := Lib.hid (show ∀ (b : Bool) (wr : World), (b = true ↔ (p = p2 ∧ m = m2 ∧ l = l2)) → Chg [] W wr → EqPost (p = p2 ∧ m = m2 ∧ l = l2) W (.returned (.bool b)) wr from fun b wr h1 h2 => ⟨b, rfl, h1, h2⟩)
  generalize EqPost (p = p2 ∧ m = m2 ∧ l = l2) W = PO at HPO ⊢
  have HH := Lib.hid h
  have HH2 := Lib.hid h2
  have HL := Lib.hid h.len
  have HL2 := Lib.hid h2.len
  have hm1 := h.max
  have hm2 := h2.max
  clear h h2
  unfold unitV
  have HN := Lib.hid (fun (w : World) => Whole.new w 24 [.int .i64 p, .int .i64 m, .slice A n c])
  have HN2 := Lib.hid (fun (w : World) => Whole.new w 24 [.int .i64 p2, .int .i64 m2, .slice A2 n2 c2])
  go_enter Tryz.func22, Tryz.ntmps22
  go_upto_region 1 with fail
  have hX := HN.out W
  have hc1 := (Chg.refl [] W).alloc (.cells #[.int .i64 p, .int .i64 m, .slice A n c] 24)
  have hY := HN2.out (W.alloc (.cells #[.int .i64 p, .int .i64 m, .slice A n c] 24))
  have hc2 := (Chg.refl [] (W.alloc (.cells #[.int .i64 p, .int .i64 m, .slice A n c] 24))).alloc (.cells #[.int .i64 p2, .int .i64 m2, .slice A2 n2 c2] 24)
  have hX2 := hX.keep hc2
  have HC := Lib.hid (hc1.trans hc2)
  rw [show (W.alloc (.cells #[.int .i64 p, .int .i64 m, .slice A n c] 24)).heap.size = W.heap.size + 1 by simp] at hY
  generalize W.heap.size = g1 at hX2 hY ⊢
  generalize (W.alloc (.cells #[.int .i64 p, .int .i64 m, .slice A n c] 24)).alloc (.cells #[.int .i64 p2, .int .i64 m2, .slice A2 n2 c2] 24) = w2 at hX2 hY HC ⊢
  have HX := Lib.hid hX2
  have HY := Lib.hid hY
  have x0 := hX2.cell 0
  have x1 := hX2.cell 1
  have x2 := hX2.cell 2
  have y0 := hY.cell 0
  have y1 := hY.cell 1
  have y2 := hY.cell 2
  clear hX hX2 hY hc1 hc2
  by_cases q1 : p = p2
  · have b1 : (p == p2) = true := by simpa using q1
    by_cases q2 : m = m2
    · have b2 : (m == m2) = true := by simpa using q2
      by_cases hn : n = n2
      · subst hn
        have HQ1 := Lib.hid q1
        have HQ2 := Lib.hid q2
        subst q1
        subst q2
        go_wp2_with fail
        go_loopw [30] (fun i wr => ∃ k : Nat, i = .int .i64 (k : Int) ∧ k ≤ n ∧ Hid (l.take k = l2.take k) ∧ Hid (Chg [] w2 wr)) (fun i _ => n - (intOf i).toNat)
        case atStart => exact ⟨0, rfl, by omega, Lib.hid rfl, Lib.hid (Chg.refl [] _)⟩
        case round =>
          obtain ⟨k, rfl, hk, HT, HCr⟩ := hrel
          have HCW := Lib.hid (HC.out.trans HCr.out)
          by_cases hkn : k < n
          · have hkI : (k : Int) < (n : Int) := by omega
            obtain ⟨t, htk⟩ : ∃ t, l[k]? = some t := ⟨l[k]'(by rw [HL.out]; exact hkn), by simp⟩
            obtain ⟨u, huk⟩ : ∃ t, l2[k]? = some t := ⟨l2[k]'(by rw [HL2.out]; exact hkn), by simp⟩
            have HST := Lib.hid (take_step HT.out htk huk)
            have HNE := Lib.hid (show t ≠ u → l ≠ l2 from fun hne he => by rw [he, huk] at htk; injection htk with htk; exact hne htk.symm)
            obtain ⟨fb, fo, rfl, hfbl, e0, e1, e2⟩ := (HH.out.keep HCW.out).cell htk
            obtain ⟨gb, go, rfl, hgbl, d0, d1, d2⟩ := (HH2.out.keep HCW.out).cell huk
            have xx2 := (HX.out.keep HCr.out).cell 2
            have yy2 := (HY.out.keep HCr.out).cell 2
            clear htk huk
            go_upto_region 6 with fail
            by_cases r1 : t.name = u.name
            · by_cases r2 : t.args = u.args
              · by_cases r3 : t.code.toList = u.code.toList
                · have HS3 := Lib.hid (HST.out.2 (fnv_eq.2 ⟨r1, r2, ba_tl r3⟩))
                  go_region
                  go_wp2_with fail
                  go_roundw
                  case rel => exact ⟨k + 1, by go_num, by omega, HS3, Lib.hid HCr.out.drew⟩
                  case measure => simp [intOf]; omega
                · have HS3 := Lib.hid (HNE.out (fun h => r3 (by rw [h])))
                  go_region
                  go_wp2_with fail
                  exact HPO.out false _ ⟨(fun h => by cases h), fun h => absurd h.2.2 HS3.out⟩ HCW.out.drew
              · have HS3 := Lib.hid (HNE.out (fun h => r2 (by rw [h])))
                go_region
                go_wp2_with fail
                exact HPO.out false _ ⟨(fun h => by cases h), fun h => absurd h.2.2 HS3.out⟩ HCW.out.drew
            · have HS3 := Lib.hid (HNE.out (fun h => r1 (by rw [h])))
              go_region
              go_wp2_with fail
              exact HPO.out false _ ⟨(fun h => by cases h), fun h => absurd h.2.2 HS3.out⟩ HCW.out.drew
          · have hkI : ¬ (k : Int) < (n : Int) := by omega
            have HE := Lib.hid (show l = l2 from by
              have := HT.out
              rw [List.take_of_length_le (by rw [HL.out]; omega), List.take_of_length_le (by rw [HL2.out]; omega)] at this
              exact this)
            go_wp2_with fail
            exact HPO.out true _ (by simpa using HE.out) HCW.out
      · have hnI : ((n : Int) == (n2 : Int)) = false := by simp; omega
        go_wp2_with fail
        exact HPO.out false _ ⟨(fun h => by cases h), fun h => absurd (by rw [← HL.out, ← HL2.out, h.2.2]) hn⟩ HC.out
    · have b2 : (m == m2) = false := by simpa using q2
      go_wp2_with fail
      exact HPO.out false _ ⟨(fun h => by cases h), fun h => absurd h.2.1 q2⟩ HC.out
  · have b1 : (p == p2) = false := by simpa using q1
    go_wp2_with fail
    exact HPO.out false _ ⟨(fun h => by cases h), fun h => absurd h.1 q1⟩ HC.out
end
end Go.Proofs.YtbkfhndmeljlcaaGreatDoor
namespace Go.Proofs.YtbkfhndmeljlcaaGreatDoor
open Go.RowKit
section
variable {W : World} {A : Option Addr} {n c : Nat} {pages most : Int} {R : Int}
set_option maxHeartbeats 8000000 in
set_option maxRecDepth 100000 in
theorem utext_no (HRI0 : ∀ w, Chg [] W w → Calls Tryz.prog 54 #[.agg #[.int .i64 pages, .int .i64 most, .slice A n c]] w (RightPost w R)) (hR : R ≠ 0) : Calls Tryz.prog 31 #[.agg #[.int .i64 pages, .int .i64 most, .slice A n c]] W (UTextPost [] R W) := by
  have HRI := Lib.hid HRI0
  clear HRI0
  unfold RightPost at HRI
  have hd : (R == 0) = false := by simpa using hR
  have HPO := Lib.hid (show ∀ w', Chg [] W w' → UTextPost [] R W (.returned (.tuple #[.string ⟨#[]⟩, .int .i64 R])) w' from fun w' hc => ⟨rfl, hc⟩)
  generalize UTextPost [] R W = PO at HPO ⊢
  go_enter Tryz.func31, Tryz.ntmps31
  go_upto_region 1 with fail
  have hal : Chg [] W (W.alloc (.cells #[.int .i64 pages, .int .i64 most, .slice A n c] 24)) := (Chg.refl [] W).alloc _
  have HC := Lib.hid hal
  have hN := Whole.new W 24 [.int .i64 pages, .int .i64 most, .slice A n c]
  obtain ⟨g, hg⟩ : ∃ g, g = W.heap.size := ⟨_, rfl⟩
  rw [← hg] at hN ⊢
  generalize W.alloc (.cells #[.int .i64 pages, .int .i64 most, .slice A n c] 24) = w1 at HC hN ⊢
  have u0 := hN.cell 0
  have u1 := hN.cell 1
  have u2 := hN.cell 2
  clear hal hN hg
  go_wp2_with (go_at_call 54
               refine (HRI.out _ HC.out).mono ?_
               rintro e w2 ⟨rfl, hc2⟩
               have HC2 := Lib.hid (HC.out.trans hc2)
               clear hc2)
  trace_state
  exact HPO.out _ HC2.out
set_option maxHeartbeats 8000000 in
set_option maxRecDepth 100000 in
theorem rutext_no (HRI0 : ∀ w, Chg [] W w → Calls Tryz.prog 52 #[.agg #[.int .i64 pages, .int .i64 most, .slice A n c]] w (RightPost w R)) (hR : R ≠ 0) : Calls Tryz.prog 26 #[.agg #[.int .i64 pages, .int .i64 most, .slice A n c]] W (UTextPost [] R W) := by
  have HRI := Lib.hid HRI0
  clear HRI0
  unfold RightPost at HRI
  have hd : (R == 0) = false := by simpa using hR
  have HPO := Lib.hid (show ∀ w', Chg [] W w' → UTextPost [] R W (.returned (.tuple #[.string ⟨#[]⟩, .int .i64 R])) w' from fun w' hc => ⟨rfl, hc⟩)
  generalize UTextPost [] R W = PO at HPO ⊢
  go_enter Tryz.func26, Tryz.ntmps26
  go_upto_region 1 with fail
  have hal : Chg [] W (W.alloc (.cells #[.int .i64 pages, .int .i64 most, .slice A n c] 24)) := (Chg.refl [] W).alloc _
  have HC := Lib.hid hal
  have hN := Whole.new W 24 [.int .i64 pages, .int .i64 most, .slice A n c]
  obtain ⟨g, hg⟩ : ∃ g, g = W.heap.size := ⟨_, rfl⟩
  rw [← hg] at hN ⊢
  generalize W.alloc (.cells #[.int .i64 pages, .int .i64 most, .slice A n c] 24) = w1 at HC hN ⊢
  have u0 := hN.cell 0
  have u1 := hN.cell 1
  have u2 := hN.cell 2
  clear hal hN hg
  go_wp2_with (go_at_call 52
               refine (HRI.out _ HC.out).mono ?_
               rintro e w2 ⟨rfl, hc2⟩
               have HC2 := Lib.hid (HC.out.trans hc2)
               clear hc2)
  trace_state
  exact HPO.out _ HC2.out
end
section
variable {W : World} {A : Option Addr} {n c : Nat} {l : List FnV} {pages most : Int}
theorem rRight_many (hn : 32 < l.length) : rRight pages most l = if pages < 0 ∨ most < pages ∨ 64 < most then 25 else 3 := by
  unfold rRight
  by_cases h : pages < 0 ∨ most < pages ∨ 64 < most
  · rw [if_pos h, if_pos h]
  · rw [if_neg h, if_neg h, if_pos hn]
theorem rText_no (h : rRight pages most l ≠ 0) : rText pages most l = ([], rRight pages most l) := by unfold rText; rw [if_neg h]
theorem many_no (hn : 32 < l.length) : rRight pages most l ≠ 0 := by rw [rRight_many hn]; split <;> decide
theorem uright_w (h : Fnw W A n c l) : Calls Tryz.prog 54 #[.agg #[.int .i64 pages, .int .i64 most, .slice A n c]] W (RightPost W (rRight pages most l)) := by
  have hl := h.len
  have hm := h.max
  have hc := h.cap
  unfold maxLen at hm
  by_cases hn : n ≤ 32
  · exact uright_any (h.small (by omega)) (fun f hf => by have := (h.ok f hf).2; unfold maxLen at this; omega)
  · exact uright_any_long (by omega) (by omega) _ (rRight_many (by omega))
theorem rright_w (h : Fnw W A n c l) : Calls Tryz.prog 52 #[.agg #[.int .i64 pages, .int .i64 most, .slice A n c]] W (RightPost W (rRight pages most l)) := by
  have hl := h.len
  have hm := h.max
  have hc := h.cap
  unfold maxLen at hm
  by_cases hn : n ≤ 32
  · exact rright_any (h.small (by omega)) (fun f hf => by have := (h.ok f hf).2; unfold maxLen at this; omega)
  · exact rright_any_long (by omega) (by omega) _ (rRight_many (by omega))
theorem utext_w (h : Fnw W A n c l) (hP : PowB W.heap.size W) : Calls Tryz.prog 31 #[.agg #[.int .i64 pages, .int .i64 most, .slice A n c]] W (UTextPost (rText pages most l).1 (rText pages most l).2 W) := by
  have hl := h.len
  by_cases hn : n ≤ 32
  · exact utext_any (h.small (by omega)) (fun f hf => by have := (h.ok f hf).2; unfold maxLen at this; omega) hP
  · have h0 := many_no (l := l) (pages := pages) (most := most) (by omega)
    rw [rText_no h0]
    exact utext_no (fun w hc => uright_w (h.keep hc)) h0
theorem rutext_w (h : Fnw W A n c l) : Calls Tryz.prog 26 #[.agg #[.int .i64 pages, .int .i64 most, .slice A n c]] W (UTextPost (rText pages most l).1 (rText pages most l).2 W) := by
  have hl := h.len
  by_cases hn : n ≤ 32
  · exact rutext_any (h.small (by omega)) (fun f hf => by have := (h.ok f hf).2; unfold maxLen at this; omega)
  · have h0 := many_no (l := l) (pages := pages) (most := most) (by omega)
    rw [rText_no h0]
    exact rutext_no (fun w hc => rright_w (h.keep hc)) h0
end
end Go.Proofs.YtbkfhndmeljlcaaGreatDoor
namespace Go.Proofs.YtbkfhndmeljlcaaGreatDoor
open Go.RowKit
/-- What Right and Text of both answer for one program. -/
structure UOk (W : World) (pg ms : Int) (A : Option Addr) (n c : Nat) (R : Int) (T : List UInt8) (E : Int) : Prop where
  ur : ∀ w, Chg [] W w → Calls Tryz.prog 54 #[.agg #[.int .i64 pg, .int .i64 ms, .slice A n c]] w (RightPost w R)
  rr : ∀ w, Chg [] W w → Calls Tryz.prog 52 #[.agg #[.int .i64 pg, .int .i64 ms, .slice A n c]] w (RightPost w R)
  ut : ∀ w, Chg [] W w → PowB w.heap.size w → Calls Tryz.prog 31 #[.agg #[.int .i64 pg, .int .i64 ms, .slice A n c]] w (UTextPost T E w)
  rt : ∀ w, Chg [] W w → Calls Tryz.prog 26 #[.agg #[.int .i64 pg, .int .i64 ms, .slice A n c]] w (UTextPost T E w)
section
variable {W W' : World} {pg ms : Int} {A : Option Addr} {n c : Nat} {l : List FnV}
theorem UOk.of_fnr (h : Fnr W A n c l) (hsm : ∀ f ∈ l, f.code.size ≤ 9223372036854775807) : UOk W pg ms A n c (rRight pg ms l) (rText pg ms l).1 (rText pg ms l).2 :=
  ⟨fun _ hc => uright_any (h.keep hc) hsm, fun _ hc => rright_any (h.keep hc) hsm, fun _ hc hp => utext_any (h.keep hc) hsm hp, fun _ hc => rutext_any (h.keep hc) hsm⟩
theorem UOk.of_fnw (h : Fnw W A n c l) : UOk W pg ms A n c (rRight pg ms l) (rText pg ms l).1 (rText pg ms l).2 :=
  ⟨fun _ hc => uright_w (h.keep hc), fun _ hc => rright_w (h.keep hc), fun _ hc hp => utext_w (h.keep hc) hp, fun _ hc => rutext_w (h.keep hc)⟩
theorem UOk.keep {R : Int} {T : List UInt8} {E : Int} (h : UOk W pg ms A n c R T E) (hc : Chg [] W W') : UOk W' pg ms A n c R T E :=
  ⟨fun w k => h.ur w (hc.trans k), fun w k => h.rr w (hc.trans k), fun w k hp => h.ut w (hc.trans k) hp, fun w k => h.rt w (hc.trans k)⟩
end
section
variable {w : World} {pg ms : Int} {A : Option Addr} {n c : Nat} {R E : Int} {T : List UInt8}
set_option maxHeartbeats 4000000 in
set_option maxRecDepth 100000 in
theorem lsame_any (h : UOk w pg ms A n c R T E) (hP : PowB w.heap.size w) : Calls Tryz.prog 27 #[.agg #[.int .i64 pg, .int .i64 ms, .slice A n c]] w (BoolPost true w) := by
  have HU := Lib.hid h.ur
  have HR := Lib.hid h.rr
  have HT := Lib.hid h.ut
  have HX := Lib.hid h.rt
  have HP := Lib.hid hP
  clear h hP
  unfold BoolPost
  unfold RightPost at HU HR
  unfold UTextPost at HT HX
  generalize strOf T = S at HT HX
  go_enter Tryz.func27, Tryz.ntmps27
  go_upto_region 1 with fail
  have hN := Whole.new w 24 [.int .i64 pg, .int .i64 ms, .slice A n c]
  have hal := (Chg.refl [] w).alloc (.cells #[.int .i64 pg, .int .i64 ms, .slice A n c] 24)
  have HU1 := Lib.hid hN
  have HC1 := Lib.hid hal
  clear hN hal
  generalize w.heap.size = gu at HU1 ⊢
  generalize w.alloc (.cells #[.int .i64 pg, .int .i64 ms, .slice A n c] 24) = w1 at HU1 HC1 ⊢
  have u0 := HU1.out.cell 0
  have u1 := HU1.out.cell 1
  have u2 := HU1.out.cell 2
  go_upto_region 3 with (first
    | (go_at_call 31
       refine (HT.out _ HC1.out (HP.out.here HC1.out)).mono ?_
       rintro e w2 ⟨rfl, hc2⟩
       have HC2 := Lib.hid (HC1.out.trans hc2)
       have HU2 := Lib.hid (HU1.out.keep hc2)
       have v0 := HU2.out.cell 0
       have v1 := HU2.out.cell 1
       have v2 := HU2.out.cell 2
       clear hc2)
    | (go_at_call 26
       refine (HX.out _ HC2.out).mono ?_
       rintro e w3 ⟨rfl, hc3⟩
       have HC3 := Lib.hid (HC2.out.trans hc3)
       have HU3 := Lib.hid (HU2.out.keep hc3)
       clear hc3))
  clear u0 u1 u2 v0 v1 v2
  have HHW := Lib.hid (fun (W : World) (h : Chg [] w3.drew W) => (show Chg [] w3 W from (Chg.refl [] w3).drew.trans h))
  refine wp_flow (by kernel_rfl) plainT plainT_ok (by kernel_rfl) ?_
  refine flow1h (r := .agg #[.int .i64 pg, .int .i64 ms, .slice A n c]) plainT_ok rfl (.out rfl rfl) rfl (fun ev W he hW e1 => by
    have hk := HU3.out.keep (HHW.out W hW)
    have q0 := hk.cell 0
    have q1 := hk.cell 1
    have q2 := hk.cell 2
    clear hW hk
    go_simp) ?_
  refine flow_callv (.int .i64 R) (by kernel_rfl) rfl (.cons (.inn rfl) .nil) (fun W hW => (HU.out W (HC3.out.trans (HHW.out W hW))).mono ?_) ?_
  · rintro e w' ⟨rfl, hc⟩
    rw [plain_by]
    exact ⟨rfl, hc⟩
  refine flow1h (r := .agg #[.int .i64 pg, .int .i64 ms, .slice A n c]) plainT_ok rfl (.out rfl rfl) rfl (fun ev W he hW e1 => by
    have hk := HU3.out.keep (HHW.out W hW)
    have q0 := hk.cell 0
    have q1 := hk.cell 1
    have q2 := hk.cell 2
    clear hW hk
    go_simp) ?_
  refine flow_callv (.int .i64 R) (by kernel_rfl) rfl (.cons (.inn rfl) .nil) (fun W hW => (HR.out W (HC3.out.trans (HHW.out W hW))).mono ?_) ?_
  · rintro e w' ⟨rfl, hc⟩
    rw [plain_by]
    exact ⟨rfl, hc⟩
  refine flow_eql plainT_ok (.inn rfl) (.inn rfl) (fun ev W he e1 e2 => by go_simp) rfl ?_
  refine flow_move plainT_ok rfl (keeps_isV _) (.inr (keeps_isV _)) rfl ?_
  refine flow_move_out plainT_ok rfl rfl rfl ?_
  refine flow_move_out plainT_ok rfl rfl rfl ?_
  refine flow_eql plainT_ok (.inn rfl) (.inn rfl) (fun ev W he e1 e2 => by go_simp) rfl ?_
  refine flow_and plainT_ok rfl rfl rfl ?_
  refine flow_move plainT_ok rfl (keeps_isV _) (.inr (keeps_isV _)) rfl ?_
  refine flow_move_out plainT_ok rfl rfl rfl ?_
  refine flow_move_out plainT_ok rfl rfl rfl ?_
  refine flow_eql plainT_ok (.inn rfl) (.inn rfl) (fun ev W he e1 e2 => by go_simp) rfl ?_
  refine flow_and plainT_ok rfl rfl rfl ?_
  refine flow_assign plainT_ok rfl (keeps_isV _) (.inr (keeps_isV _)) rfl ?_
  intro vs W hW hF
  have e2 : vs 2 = .bool true := hF 2 _ rfl rfl
  have HCW := Lib.hid (HC3.out.trans (HHW.out W hW))
  simp only [putAll, Act.put, List.setIfInBounds_toArray, List.set_cons_zero, List.set_cons_succ]
  rw [e2]
  clear hF hW e2
  obtain ⟨wz, hwz⟩ : ∃ wz : World, wz = W := ⟨_, rfl⟩
  rw [← hwz] at HCW ⊢
  clear hwz
  go_wp2_with fail
  go_ret
  exact ⟨rfl, HCW.out⟩
set_option maxHeartbeats 4000000 in
set_option maxRecDepth 100000 in
theorem lreads_any (l : List UInt8) (hl : l.length ≤ 1000000) (hP : PowB w.heap.size w) : Calls Tryz.prog 28 #[.string (strOf l)] w (BoolPost true w) := by
  have HP := Lib.hid hP
  have HU := Lib.hid (fun (W : World) (h : PowB W.heap.size W) => uparse_any (w := W) l hl h)
  have HR := Lib.hid (fun (W : World) => rparse_any (w := W) l hl)
  generalize strOf l = S at HU HR ⊢
  unfold PsPost at HU HR
  generalize rParse l = X at HU HR
  obtain ⟨E, p, m, fs⟩ := X
  simp only at HU HR
  have HS := Lib.hid (fun (W : World) (A : Option Addr) (n c : Nat) (A2 : Option Addr) (n2 c2 : Nat) (h : Fnr W A n c fs) (h2 : Fnr W A2 n2 c2 fs) => rsame_any (p := p) (m := m) (p2 := p) (m2 := m) h h2)
  unfold EqPost at HS
  unfold unitV at HS
  unfold BoolPost
  clear hl hP
  go_enter Tryz.func28, Tryz.ntmps28
  go_upto_region 2 with (go_at_call 32
                         refine (HU.out _ HP.out).mono ?_
                         rintro e w1 ⟨v1, rfl, ho1, hlen1, hok1, hc1⟩
                         obtain ⟨A1, c1, rfl, hF1⟩ := Fnr.of_own (l := fs) ho1 hlen1 (fun f hf => by have := hok1 f hf; unfold okF at this; omega)
                         have HF1 := Lib.hid hF1
                         have HC1 := Lib.hid hc1
                         have HLN := Lib.hid hlen1
                         clear hc1 ho1 hlen1 hok1 hF1)
  obtain ⟨q, hq⟩ : ∃ q, q = fs.length := ⟨_, rfl⟩
  rw [← hq] at HF1 HLN HR ⊢
  have HQ := Lib.hid hq
  clear hq
  have hN := Whole.new w1 24 [.int .i64 p, .int .i64 m, .slice A1 q c1]
  have hal := (Chg.refl [] w1).alloc (.cells #[.int .i64 p, .int .i64 m, .slice A1 q c1] 24)
  have HU2 := Lib.hid hN
  have HF2 := Lib.hid (HF1.out.keep hal)
  have HC2 := Lib.hid (HC1.out.trans hal)
  clear hN hal
  generalize w1.heap.size = gu at HU2 ⊢
  generalize w1.alloc (.cells #[.int .i64 p, .int .i64 m, .slice A1 q c1] 24) = w2 at HU2 HF2 HC2 ⊢
  go_upto_region 3 with (go_at_call 55
                         refine (HR.out _).mono ?_
                         rintro e w3 ⟨v3, rfl, ho3, hlen3, hok3, hc3⟩
                         obtain ⟨A3, c3, rfl, hF3⟩ := Fnr.of_own (l := fs) ho3 hlen3 (fun f hf => by have := hok3 f hf; unfold okF at this; omega)
                         have HG3 := Lib.hid hF3
                         have HF3 := Lib.hid (HF2.out.keep hc3)
                         have HU3 := Lib.hid (HU2.out.keep hc3)
                         have HC3 := Lib.hid (HC2.out.trans hc3)
                         clear hc3 ho3 hlen3 hok3 hF3)
  have hN := Whole.new w3 24 [.int .i64 p, .int .i64 m, .slice A3 q c3]
  have hal := (Chg.refl [] w3).alloc (.cells #[.int .i64 p, .int .i64 m, .slice A3 q c3] 24)
  have HV4 := Lib.hid hN
  have HF4 := Lib.hid (HF3.out.keep hal)
  have HG4 := Lib.hid (HG3.out.keep hal)
  have HU4 := Lib.hid (HU3.out.keep hal)
  have HC4 := Lib.hid (HC3.out.trans hal)
  clear hN hal
  generalize w3.heap.size = gv at HV4 ⊢
  generalize w3.alloc (.cells #[.int .i64 p, .int .i64 m, .slice A3 q c3] 24) = w4 at HV4 HU4 HF4 HG4 HC4 ⊢
  have u0 := HU4.out.cell 0
  have u1 := HU4.out.cell 1
  have u2 := HU4.out.cell 2
  have v0 := HV4.out.cell 0
  have v1 := HV4.out.cell 1
  have v2 := HV4.out.cell 2
  go_wp2_with (go_at_call 22
               refine (HS.out _ _ _ _ _ _ _ HF4.out HG4.out).mono ?_
               rintro e w5 ⟨b5, rfl, hb5, hc5⟩
               obtain rfl : b5 = true := by simpa using hb5
               have HC5 := Lib.hid (HC4.out.trans hc5)
               clear hc5 hb5)
  go_ret
  exact ⟨rfl, HC5.out⟩
end
end Go.Proofs.YtbkfhndmeljlcaaGreatDoor
