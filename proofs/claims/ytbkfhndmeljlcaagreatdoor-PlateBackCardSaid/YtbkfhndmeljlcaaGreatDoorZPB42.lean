/-
  PB: DFuncs, USame, RSame, ULaw, UKnP, RPlain, LawUBk, LawUT.
-/
import Derived.Test.YtbkfhndmeljlcaaGreatDoorZPB3
import Derived.Test.YtbkfhndmeljlcaaGreatDoorZPB4
import Derived.Test.YtbkfhndmeljlcaaGreatDoorZPB15
import Derived.Test.YtbkfhndmeljlcaaGreatDoorZPB17
import Derived.Test.YtbkfhndmeljlcaaGreatDoorZPB30
import Derived.Test.YtbkfhndmeljlcaaGreatDoorZPB36
import Derived.Test.YtbkfhndmeljlcaaGreatDoorZPB37
import Derived.Test.YtbkfhndmeljlcaaGreatDoorZPB39
import Derived.Test.YtbkfhndmeljlcaaGreatDoorZPB41
import Derived.Deep.Slices
import Derived.Deep.Fields
import Derived.ChangeSame
import Derived.ChangeSlices
namespace Go.Proofs.YtbkfhndmeljlcaaGreatDoor
open Go.RowKit Go.ChangeShapes Go.WideShapes Go.Deep
/-- The slice value '.slice A n c' is the functions l, however many. -/
structure Fnw (W : World) (A : Option Addr) (n c : Nat) (l : List FnV) : Prop where
  len : l.length = n
  src : Src W A (fnCs l)
  cap : n ≤ c
  max : c ≤ maxLen
  spot : 0 < n → ∀ ad, A = some ad → ad.spot = none
  ok : ∀ f ∈ l, (-9223372036854775808 ≤ f.args ∧ f.args ≤ 9223372036854775807) ∧ f.code.size ≤ maxLen
theorem Fnw.keep {W W' : World} {A : Option Addr} {n c : Nat} {l : List FnV} (h : Fnw W A n c l) (hc : Chg [] W W') : Fnw W' A n c l := ⟨h.len, h.src.keep hc, h.cap, h.max, h.spot, h.ok⟩
theorem Fnw.small {W : World} {A : Option Addr} {n c : Nat} {l : List FnV} (h : Fnw W A n c l) (hn : n ≤ 1000) : Fnr W A n c l := ⟨h.len, h.src, h.cap, hn, h.spot, fun f hf => (h.ok f hf).1⟩
theorem three_list {α : Type} {l : List α} (h : l.length = 3) : ∃ a b c, l = [a, b, c] := by
  match l, h with
  | [a, b, c], _ => exact ⟨a, b, c, rfl⟩
end Go.Proofs.YtbkfhndmeljlcaaGreatDoor
namespace Go.Proofs.YtbkfhndmeljlcaaGreatDoor
open Go.RowKit
theorem fnv_eq {t u : FnV} : t = u ↔ t.name = u.name ∧ t.args = u.args ∧ t.code = u.code := by
  constructor
  · rintro rfl; exact ⟨rfl, rfl, rfl⟩
  · rintro ⟨h1, h2, h3⟩
    cases t; cases u; simp only at h1 h2 h3; subst h1; subst h2; subst h3; rfl
def EqPost (P : Prop) (W : World) (e : Ending) (w' : World) : Prop := ∃ b : Bool, e = .returned (.bool b) ∧ (b = true ↔ P) ∧ Chg [] W w'
theorem ba_tl {a b : ByteArray} (h : a.toList = b.toList) : a = b := by
  rw [ByteArray.toList_eq, ByteArray.toList_eq] at h
  have := Array.toList_inj.1 h
  cases a; cases b
  simp only at this
  rw [this]
theorem take_step {α : Type} {l l2 : List α} {k : Nat} {t u : α} (h : l.take k = l2.take k) (h1 : l[k]? = some t) (h2 : l2[k]? = some u) : l.take (k + 1) = l2.take (k + 1) ↔ t = u := by
  rw [List.take_add_one, List.take_add_one, h, h1, h2]
  simp
end Go.Proofs.YtbkfhndmeljlcaaGreatDoor
namespace Go.Proofs.YtbkfhndmeljlcaaGreatDoor
open Go.RowKit
section
variable {W : World} {A A2 : Option Addr} {n c n2 c2 : Nat} {l l2 : List FnV}
set_option maxHeartbeats 8000000 in
set_option maxRecDepth 100000 in
theorem rsame_any {p m p2 m2 : Int} (h : Fnr W A n c l) (h2 : Fnr W A2 n2 c2 l2) : Calls Tryz.prog 22 #[unitV p m A n c, unitV p2 m2 A2 n2 c2] W (EqPost (p = p2 ∧ m = m2 ∧ l = l2) W) := by
  have HPO := Lib.hid (show ∀ (b : Bool) (wr : World), (b = true ↔ (p = p2 ∧ m = m2 ∧ l = l2)) → Chg [] W wr → EqPost (p = p2 ∧ m = m2 ∧ l = l2) W (.returned (.bool b)) wr from fun b wr h1 h2 => ⟨b, rfl, h1, h2⟩)
  generalize EqPost (p = p2 ∧ m = m2 ∧ l = l2) W = PO at HPO ⊢
  have HH := Lib.hid h
  have HH2 := Lib.hid h2
  have HL := Lib.hid h.len
  have HL2 := Lib.hid h2.len
  have hm1 := h.max
  have hm2 := h2.max
  clear h h2
  unfold unitV
  have HN := Lib.hid (fun (w : World) => Whole.new w 24 [.int .i64 p, .int .i64 m, .slice A n c])
  have HN2 := Lib.hid (fun (w : World) => Whole.new w 24 [.int .i64 p2, .int .i64 m2, .slice A2 n2 c2])
  go_enter Tryz.func22, Tryz.ntmps22
  go_upto_region 1 with fail
  have hX := HN.out W
  have hc1 := (Chg.refl [] W).alloc (.cells #[.int .i64 p, .int .i64 m, .slice A n c] 24)
  have hY := HN2.out (W.alloc (.cells #[.int .i64 p, .int .i64 m, .slice A n c] 24))
  have hc2 := (Chg.refl [] (W.alloc (.cells #[.int .i64 p, .int .i64 m, .slice A n c] 24))).alloc (.cells #[.int .i64 p2, .int .i64 m2, .slice A2 n2 c2] 24)
  have hX2 := hX.keep hc2
  have HC := Lib.hid (hc1.trans hc2)
  rw [show (W.alloc (.cells #[.int .i64 p, .int .i64 m, .slice A n c] 24)).heap.size = W.heap.size + 1 by simp] at hY
  generalize W.heap.size = g1 at hX2 hY ⊢
  generalize (W.alloc (.cells #[.int .i64 p, .int .i64 m, .slice A n c] 24)).alloc (.cells #[.int .i64 p2, .int .i64 m2, .slice A2 n2 c2] 24) = w2 at hX2 hY HC ⊢
  have HX := Lib.hid hX2
  have HY := Lib.hid hY
  have x0 := hX2.cell 0
  have x1 := hX2.cell 1
  have x2 := hX2.cell 2
  have y0 := hY.cell 0
  have y1 := hY.cell 1
  have y2 := hY.cell 2
  clear hX hX2 hY hc1 hc2
  by_cases q1 : p = p2
  · have b1 : (p == p2) = true := by simpa using q1
    by_cases q2 : m = m2
    · have b2 : (m == m2) = true := by simpa using q2
      by_cases hn : n = n2
      · subst hn
        have HQ1 := Lib.hid q1
        have HQ2 := Lib.hid q2
        subst q1
        subst q2
        go_wp2_with fail
        go_loopw [30] (fun i wr => ∃ k : Nat, i = .int .i64 (k : Int) ∧ k ≤ n ∧ Hid (l.take k = l2.take k) ∧ Hid (Chg [] w2 wr)) (fun i _ => n - (intOf i).toNat)
        case atStart => exact ⟨0, rfl, by omega, Lib.hid rfl, Lib.hid (Chg.refl [] _)⟩
        case round =>
          obtain ⟨k, rfl, hk, HT, HCr⟩ := hrel
          have HCW := Lib.hid (HC.out.trans HCr.out)
          by_cases hkn : k < n
          · have hkI : (k : Int) < (n : Int) := by omega
            obtain ⟨t, htk⟩ : ∃ t, l[k]? = some t := ⟨l[k]'(by rw [HL.out]; exact hkn), by simp⟩
            obtain ⟨u, huk⟩ : ∃ t, l2[k]? = some t := ⟨l2[k]'(by rw [HL2.out]; exact hkn), by simp⟩
            have HST := Lib.hid (take_step HT.out htk huk)
            have HNE := Lib.hid (show t ≠ u → l ≠ l2 from fun hne he => by rw [he, huk] at htk; injection htk with htk; exact hne htk.symm)
            obtain ⟨fb, fo, rfl, hfbl, e0, e1, e2⟩ := (HH.out.keep HCW.out).cell htk
            obtain ⟨gb, go, rfl, hgbl, d0, d1, d2⟩ := (HH2.out.keep HCW.out).cell huk
            have xx2 := (HX.out.keep HCr.out).cell 2
            have yy2 := (HY.out.keep HCr.out).cell 2
            clear htk huk
            go_upto_region 6 with fail
            by_cases r1 : t.name = u.name
            · by_cases r2 : t.args = u.args
              · by_cases r3 : t.code.toList = u.code.toList
                · have HS3 := Lib.hid (HST.out.2 (fnv_eq.2 ⟨r1, r2, ba_tl r3⟩))
                  go_region
                  go_wp2_with fail
                  go_roundw
                  case rel => exact ⟨k + 1, by go_num, by omega, HS3, Lib.hid HCr.out.drew⟩
                  case measure => simp [intOf]; omega
                · have HS3 := Lib.hid (HNE.out (fun h => r3 (by rw [h])))
                  go_region
                  go_wp2_with fail
                  exact HPO.out false _ ⟨(fun h => by cases h), fun h => absurd h.2.2 HS3.out⟩ HCW.out.drew
              · have HS3 := Lib.hid (HNE.out (fun h => r2 (by rw [h])))
                go_region
                go_wp2_with fail
                exact HPO.out false _ ⟨(fun h => by cases h), fun h => absurd h.2.2 HS3.out⟩ HCW.out.drew
            · have HS3 := Lib.hid (HNE.out (fun h => r1 (by rw [h])))
              go_region
              go_wp2_with fail
              exact HPO.out false _ ⟨(fun h => by cases h), fun h => absurd h.2.2 HS3.out⟩ HCW.out.drew
          · have hkI : ¬ (k : Int) < (n : Int) := by omega
            have HE := Lib.hid (show l = l2 from by
              have := HT.out
              rw [List.take_of_length_le (by rw [HL.out]; omega), List.take_of_length_le (by rw [HL2.out]; omega)] at this
              exact this)
            go_wp2_with fail
            exact HPO.out true _ (by simpa using HE.out) HCW.out
      · have hnI : ((n : Int) == (n2 : Int)) = false := by simp; omega
        go_wp2_with fail
        exact HPO.out false _ ⟨(fun h => by cases h), fun h => absurd (by rw [← HL.out, ← HL2.out, h.2.2]) hn⟩ HC.out
    · have b2 : (m == m2) = false := by simpa using q2
      go_wp2_with fail
      exact HPO.out false _ ⟨(fun h => by cases h), fun h => absurd h.2.1 q2⟩ HC.out
  · have b1 : (p == p2) = false := by simpa using q1
    go_wp2_with fail
    exact HPO.out false _ ⟨(fun h => by cases h), fun h => absurd h.1 q1⟩ HC.out
end
end Go.Proofs.YtbkfhndmeljlcaaGreatDoor
namespace Go.Proofs.YtbkfhndmeljlcaaGreatDoor
open Go.RowKit
/-- What Right and Text of both answer for one program. -/
structure UOk (W : World) (pg ms : Int) (A : Option Addr) (n c : Nat) (R : Int) (T : List UInt8) (E : Int) : Prop where
  ur : ∀ w, Chg [] W w → Calls Tryz.prog 54 #[.agg #[.int .i64 pg, .int .i64 ms, .slice A n c]] w (RightPost w R)
  rr : ∀ w, Chg [] W w → Calls Tryz.prog 52 #[.agg #[.int .i64 pg, .int .i64 ms, .slice A n c]] w (RightPost w R)
  ut : ∀ w, Chg [] W w → PowB w.heap.size w → Calls Tryz.prog 31 #[.agg #[.int .i64 pg, .int .i64 ms, .slice A n c]] w (UTextPost T E w)
  rt : ∀ w, Chg [] W w → Calls Tryz.prog 26 #[.agg #[.int .i64 pg, .int .i64 ms, .slice A n c]] w (UTextPost T E w)
section
variable {W W' : World} {pg ms : Int} {A : Option Addr} {n c : Nat} {l : List FnV}
theorem UOk.of_fnr (h : Fnr W A n c l) (hsm : ∀ f ∈ l, f.code.size ≤ 9223372036854775807) : UOk W pg ms A n c (rRight pg ms l) (rText pg ms l).1 (rText pg ms l).2 :=
  ⟨fun _ hc => uright_any (h.keep hc) hsm, fun _ hc => rright_any (h.keep hc) hsm, fun _ hc hp => utext_any (h.keep hc) hsm hp, fun _ hc => rutext_any (h.keep hc) hsm⟩
theorem UOk.keep {R : Int} {T : List UInt8} {E : Int} (h : UOk W pg ms A n c R T E) (hc : Chg [] W W') : UOk W' pg ms A n c R T E :=
  ⟨fun w k => h.ur w (hc.trans k), fun w k => h.rr w (hc.trans k), fun w k hp => h.ut w (hc.trans k) hp, fun w k => h.rt w (hc.trans k)⟩
end
end Go.Proofs.YtbkfhndmeljlcaaGreatDoor
namespace Go.Proofs.YtbkfhndmeljlcaaGreatDoor
open Go.RowKit
open Go.Lib (decDigits encodeRune)
def kuG : FnV := ⟨102, 0, ⟨#[49]⟩⟩
theorem dg0 : decDigits 0 = [48] := by rw [Lib.decDigits_one (by omega)]; rfl
theorem dg1 : decDigits 1 = [49] := by rw [Lib.decDigits_one (by omega)]; rfl
theorem dg2 : decDigits 2 = [50] := by rw [Lib.decDigits_one (by omega)]; rfl
end Go.Proofs.YtbkfhndmeljlcaaGreatDoor
namespace Go.Proofs.YtbkfhndmeljlcaaGreatDoor
open Go.RowKit
theorem results_row_one {fn : Func} {p : Tmp} {ty : TypeId} (h : fn.results = #[.cell p ty]) (tmps : Array Value) (w : World) (g : Nat) (t : TypeId) (cs : List Value) (fs : Array Field)
    (hp : tmps.getD p undef = .pointer (some ⟨g, 0, none⟩)) (hg : Whole w g t cs) (hu : Tryz.prog.underlying ty = some (.struct fs)) (hi : (Tryz.prog.info? ty).map (·.size) = some cs.toArray.size) :
    (results fn tmps).run Tryz.prog w = .ok (.agg cs.toArray) w := by
  have hp' : tmps[p]?.getD undef = .pointer (some ⟨g, 0, none⟩) := by simpa using hp
  unfold results
  simp [h, hp', asAddr, run_loadVar_row w g t ty cs.toArray (0, 0) (.struct fs) hg hu rfl hi]
/-- Codes written plainly. -/
def PlPost (p m : Int) (l : List FnV) (w : World) (e : Ending) (w' : World) : Prop :=
  ∃ v, e = .returned (.agg #[.int .i64 p, .int .i64 m, v]) ∧ w'.ownsRow w.heap.size 58 3 v l.length (fnCs (l.map plainF)) ∧ Chg [] w w'
section
variable {w : World} {A : Option Addr} {n c : Nat} {l : List FnV} {p m : Int}
set_option maxHeartbeats 8000000 in
set_option maxRecDepth 100000 in
theorem rplain_any (h : Fnr w A n c l) (hsm : ∀ f ∈ l, f.code.size ≤ 9223372036854775807) : Calls Tryz.prog 23 #[unitV p m A n c] w (PlPost p m l w) := by
  obtain ⟨i0, hi0, hz0, hz1, hz2⟩ := info_parts info_fn3
  have HPO := Lib.hid (show ∀ v wr, wr.ownsRow w.heap.size 58 3 v l.length (fnCs (l.map plainF)) → Chg [] w wr → PlPost p m l w (.returned (.agg #[.int .i64 p, .int .i64 m, v])) wr from fun v wr h1 h2 => ⟨v, rfl, h1, h2⟩)
  generalize PlPost p m l w = PO at HPO ⊢
  have HH := Lib.hid h
  have HL := Lib.hid h.len
  have HSM := Lib.hid hsm
  have hn1000 := h.max
  clear h hsm
  unfold unitV
  have HN1 := Lib.hid (fun (w : World) => Whole.new w 24 [.int .i64 p, .int .i64 m, .slice A n c])
  have HN0 := Lib.hid (fun (w : World) => Whole.new w 24 [.int .i64 0, .int .i64 0, .slice none 0 0])
  go_enter Tryz.func23, Tryz.ntmps23
  go_upto_region 1 with fail
  obtain ⟨g, hg⟩ : ∃ g, g = w.heap.size := ⟨_, rfl⟩
  have hB := HN1.out w
  have hA1 := (Chg.refl [] w).alloc (.cells #[.int .i64 p, .int .i64 m, .slice A n c] 24)
  have hs1 : (w.alloc (.cells #[.int .i64 p, .int .i64 m, .slice A n c] 24)).heap.size = g + 1 := by rw [hg]; simp
  have HGW := Lib.hid hg
  have hgw : w.heap.size ≤ g := by omega
  rw [← hg] at hB ⊢
  clear hg
  generalize w.alloc (.cells #[.int .i64 p, .int .i64 m, .slice A n c] 24) = w1 at hB hA1 hs1 ⊢
  have hZ := HN0.out w1
  have hA2 := (Chg.refl [] w1).alloc (.cells #[.int .i64 0, .int .i64 0, .slice none 0 0] 24)
  have hs2 : (w1.alloc (.cells #[.int .i64 0, .int .i64 0, .slice none 0 0] 24)).heap.size = g + 2 := by simp [hs1]
  rw [hs1] at hZ
  have hB2 := hB.keep hA2
  generalize w1.alloc (.cells #[.int .i64 0, .int .i64 0, .slice none 0 0] 24) = w2 at hZ hA2 hs2 hB2 ⊢
  have b0 := hB2.cell 0
  have b1 := hB2.cell 1
  have b2 := hB2.cell 2
  go_upto_region 2 with fail
  clear b0 b1 b2
  have hU := HN1.out w2
  have hA3 := (Chg.refl [] w2).alloc (.cells #[.int .i64 p, .int .i64 m, .slice A n c] 24)
  have hs3 : (w2.alloc (.cells #[.int .i64 p, .int .i64 m, .slice A n c] 24)).heap.size = g + 3 := by simp [hs2]
  rw [hs2] at hU
  have HB3 := Lib.hid (hB2.keep hA3)
  have HZ3 := Lib.hid (hZ.keep hA3)
  have HU3 := Lib.hid hU
  have HC3 := Lib.hid ((hA1.trans hA2).trans hA3)
  generalize w2.alloc (.cells #[.int .i64 p, .int .i64 m, .slice A n c] 24) = w3 at HB3 HZ3 HU3 HC3 hs3 ⊢
  clear hB hA1 hs1 hZ hA2 hs2 hB2 hU hA3
  have z2 := HU3.out.cell 2
  have f2 := HU3.out.frozen 2
  have b2 := HB3.out.cell 2
  have HU4 := Lib.hid (show Whole (w3.setCell ⟨g + 2, 2, none⟩ (.slice none 0 0)) (g + 2) 24 [.int .i64 p, .int .i64 m, .slice none 0 0] from by have := HU3.out.set_ 2 (.slice none 0 0); simpa using this)
  have HZ4 := Lib.hid (HZ3.out.far (p := ⟨g + 2, 2, none⟩) (by simp) (.slice none 0 0))
  have HB4 := Lib.hid (HB3.out.far (p := ⟨g + 2, 2, none⟩) (by simp) (.slice none 0 0))
  have HC4 := Lib.hid (HC3.out.setCell (p := ⟨g + 2, 2, none⟩) (fun h => by simp only at h; omega) (.slice none 0 0))
  have hs4 : (w3.setCell ⟨g + 2, 2, none⟩ (.slice none 0 0)).heap.size = g + 3 := by rw [size_set]; exact hs3
  go_upto_region 3 with fail
  generalize w3.setCell ⟨g + 2, 2, none⟩ (.slice none 0 0) = w4 at HU4 HZ4 HB4 HC4 hs4 ⊢
  clear z2 f2 b2 hs3
  have b2 := HB4.out.cell 2
  go_wp2_with fail
  go_loopw [13] (fun i wr => ∃ (k : Nat) (A' : Option Addr) (c' : Nat), i = .int .i64 (k : Int) ∧ k ≤ n ∧ Hid (Whole wr (g + 1) 24 [.int .i64 0, .int .i64 0, .slice none 0 0]) ∧ Hid (Whole wr (g + 2) 24 [.int .i64 p, .int .i64 m, .slice A' k c']) ∧ Hid (wr.ownsRow (g + 3) 58 3 (.slice A' k c') k (fnCs ((l.take k).map plainF))) ∧ Hid (Chg [] w wr) ∧ Hid (g + 3 ≤ wr.heap.size)) (fun i _ => n - (intOf i).toNat)
  case atStart => exact ⟨0, none, 0, rfl, by omega, HZ4, HU4, Lib.hid (World.ownsRow_nil _ _ _ _), HC4, Lib.hid (by omega)⟩
  case round =>
    obtain ⟨k, A', c', rfl, hk, HZr, HUr, HOr, HCr, HSr⟩ := hrel
    have hgw : w.heap.size ≤ g := by have := HGW.out; omega
    by_cases hkn : k < n
    · have hkI : (k : Int) < (n : Int) := by omega
      obtain ⟨t, htk⟩ : ∃ t, l[k]? = some t := ⟨l[k]'(by rw [HL.out]; exact hkn), by simp⟩
      have HSZ := Lib.hid (HSM.out t (List.mem_of_getElem? htk))
      obtain ⟨fb, fo, rfl, hfbl, e0, e1, e2⟩ := (HH.out.keep HCr.out).cell htk
      have HTK := Lib.hid (show l.take (k + 1) = l.take k ++ [t] from by rw [List.take_add_one, htk]; rfl)
      have HGX := Lib.hid (fun (W : World) (Aq : Option Addr) (nq cq : Nat) (hT : Tks W Aq nq cq (toksOf t.code)) (hn : nq ≤ 1000) => rtext_any hT (fun x hx => (toksOf_ok t.code x hx).rng) hn)
      unfold StrPost at HGX
      have hpl : plainF t = ⟨t.name, t.args, strOf (txB false (toksOf t.code))⟩ := rfl
      have HPL := Lib.hid hpl
      clear htk hpl
      generalize strOf (txB false (toksOf t.code)) = ZT at HGX HPL
      obtain ⟨tn, ta, tc⟩ := t
      simp only at e0 e1 e2 HSZ HGX HPL
      go_upto_region 6 with fail
      have hX := Whole.new wr 58 [.int .i32 tn, .int .i64 ta, .string tc]
      have hal := (Chg.refl [] wr).alloc (.cells #[.int .i32 tn, .int .i64 ta, .string tc] 58)
      have HX5 := Lib.hid hX
      have HZ5 := Lib.hid (HZr.out.keep hal)
      have HU5 := Lib.hid (HUr.out.keep hal)
      have HO5 := Lib.hid (rown_keep HOr.out hal)
      have HC5 := Lib.hid (HCr.out.trans hal)
      have HS5 := Lib.hid (Nat.le_trans HSr.out hal.size)
      have hgx : g + 3 ≤ wr.heap.size := HSr.out
      have hown : ∀ b, (Value.slice A' k c').ownBlock = some b → b < wr.heap.size := fun b hb => (HOr.out.lt b hb).2
      have HOWN := Lib.hid hown
      clear hX hal e0 e1 e2 hfbl hown
      generalize wr.heap.size = gx at HX5 hgx HOWN ⊢
      generalize wr.alloc (.cells #[.int .i32 tn, .int .i64 ta, .string tc] 58) = w5 at HX5 HZ5 HU5 HO5 HC5 HS5 ⊢
      have x2 := HX5.out.cell 2
      go_upto_region 8 with (first
        | (go_at_call 50
           refine (tokens_any tc HSZ.out).mono ?_
           intro e w6 hq
           obtain ⟨A6, n6, c6, rfl, hT6, hn6, hc6⟩ := tokPost_use hq
           have HT6 := Lib.hid hT6
           have HN6 := Lib.hid hn6
           have HK6 := Lib.hid hc6
           clear hT6 hn6 hc6 hq)
        | (go_at_call 51
           refine (HGX.out _ _ _ _ HT6.out (by have := HN6.out; omega)).mono ?_
           rintro e w7 ⟨rfl, hc7⟩
           have HK7 := Lib.hid (HK6.out.trans hc7)
           have y2 := (HX5.out.keep HK7.out).cell 2
           have q2 := (HX5.out.keep HK7.out).frozen 2
           clear hc7))
      have HX8 := Lib.hid (show Whole (w7.setCell ⟨gx, 2, none⟩ (.string ZT)) gx 58 [.int .i32 tn, .int .i64 ta, .string ZT] from by have := (HX5.out.keep HK7.out).set_ 2 (.string ZT); simpa using this)
      have HZ8 := Lib.hid ((HZ5.out.keep HK7.out).far (p := ⟨gx, 2, none⟩) (by simp only; omega) (.string ZT))
      have HU8 := Lib.hid ((HU5.out.keep HK7.out).far (p := ⟨gx, 2, none⟩) (by simp only; omega) (.string ZT))
      have HO8 := Lib.hid (rown_far (p := ⟨gx, 2, none⟩) (u := .string ZT) (rown_keep HO5.out HK7.out) (fun hb => by have := HOWN.out _ hb; simp only at this; omega))
      have HC8 := Lib.hid ((HC5.out.trans HK7.out).setCell (p := ⟨gx, 2, none⟩) (fun h => by simp only at h; omega) (.string ZT))
      have HS8 := Lib.hid (show g + 3 ≤ (w7.setCell ⟨gx, 2, none⟩ (.string ZT)).heap.size from by rw [size_set]; exact Nat.le_trans HS5.out HK7.out.size)
      generalize w7.setCell ⟨gx, 2, none⟩ (.string ZT) = w8 at HX8 HZ8 HU8 HO8 HC8 HS8 ⊢
      clear x2 y2 q2
      have x0 := HX8.out.cell 0
      have x1 := HX8.out.cell 1
      have x2 := HX8.out.cell 2
      have u2 := HU8.out.cell 2
      have HAL := Lib.hid ((Chg.refl [] w8).alloc (.cells #[.int .i32 tn, .int .i64 ta, .string ZT] 58))
      have HOA := Lib.hid (rown_keep HO8.out HAL.out)
      go_wp2_with (at_builtin
                   refine wpList_append_own _ rfl _ _ _ rfl (g + 3) 58 i0 _ 3 32 Tryz.underlying22 hi0 hz0 hz1 hz2 rfl (by decide) (.slice A' k c') k (fnCs ((l.take k).map plainF)) rfl HOA.out ⟨w8.heap.size, 0, none⟩ 1 1 [.int .i32 tn, .int .i64 ta, .string ZT] rfl rfl (cells_page _ _ _) (by simp [Value.oneCell']) (by simp only [maxLen]; omega) (by omega) (by have := HS8.out; simp; omega) ?_
                   intro v' w11 ho11 hg11 _
                   obtain ⟨A11, c11, rfl, _⟩ := rown_slice ho11
                   have HO11 := Lib.hid ho11
                   have HU11 := Lib.hid (whole_grown (HU8.out.keep HAL.out) HOA.out (by decide) hg11)
                   have HZ11 := Lib.hid (whole_grown (HZ8.out.keep HAL.out) HOA.out (by decide) hg11)
                   have HC11 := Lib.hid (chg_grown2 (HC8.out.trans HAL.out) hg11 (fun g hg => by have := (HOA.out.lt g hg).1; omega))
                   have HS11 := Lib.hid (Nat.le_trans HS8.out (Nat.le_trans HAL.out.size hg11.size))
                   have v2 := HU11.out.cell 2
                   have q2 := HU11.out.frozen 2
                   clear ho11 hg11)
      have HU12 := Lib.hid (show Whole (w11.setCell ⟨g + 2, 2, none⟩ (.slice A11 (k + 1) c11)) (g + 2) 24 [.int .i64 p, .int .i64 m, .slice A11 (k + 1) c11] from by have := HU11.out.set_ 2 (.slice A11 (k + 1) c11); simpa using this)
      have HO12 := Lib.hid (show (w11.setCell ⟨g + 2, 2, none⟩ (.slice A11 (k + 1) c11)).ownsRow (g + 3) 58 3 (.slice A11 (k + 1) c11) (k + 1) (fnCs ((l.take (k + 1)).map plainF)) from by
        rw [HTK.out, List.map_append, fnCs_app, List.map_cons, List.map_nil, HPL.out]
        exact rown_far (p := ⟨g + 2, 2, none⟩) (u := .slice A11 (k + 1) c11) HO11.out (fun hb => by have := (HO11.out.lt _ hb).1; simp only at this; omega))
      have HZ12 := Lib.hid (HZ11.out.far (p := ⟨g + 2, 2, none⟩) (by simp) (.slice A11 (k + 1) c11))
      have HC12 := Lib.hid (HC11.out.setCell (p := ⟨g + 2, 2, none⟩) (fun hh => by simp only at hh; omega) (.slice A11 (k + 1) c11))
      have HS12 := Lib.hid (show g + 3 ≤ (w11.setCell ⟨g + 2, 2, none⟩ (.slice A11 (k + 1) c11)).heap.size from by rw [size_set]; exact HS11.out)
      go_roundw
      case rel => exact ⟨k + 1, A11, c11, by go_num, by omega, HZ12, HU12, HO12, HC12, HS12⟩
      case measure => simp [intOf]; omega
    · have hkI : ¬ (k : Int) < (n : Int) := by omega
      obtain rfl : k = n := by omega
      have hnl : ¬ g + 1 < w.heap.size := by omega
      have u0 := HUr.out.cell 0
      have u1 := HUr.out.cell 1
      have u2 := HUr.out.cell 2
      have z0 := HZr.out.cell 0
      have z1 := HZr.out.cell 1
      have z2 := HZr.out.cell 2
      have f0 := HZr.out.frozen 0
      have f1 := HZr.out.frozen 1
      have f2 := HZr.out.frozen 2
      have HCF := ((HCr.out.setCell (p := ⟨g + 1, 0, none⟩) (fun h => absurd h hnl) (.int .i64 p)).setCell (p := ⟨g + 1, 1, none⟩) (fun h => absurd h hnl) (.int .i64 m)).setCell (p := ⟨g + 1, 2, none⟩) (fun h => absurd h hnl) (.slice A' k c')
      have HSS := ((HZr.out.set_ 0 (.int .i64 p)).set_ 1 (.int .i64 m)).set_ 2 (.slice A' k c')
      have hfar : ∀ (W : World) (j : Nat) (u : Value), W.ownsRow (g + 3) 58 3 (.slice A' k c') k (fnCs ((l.take k).map plainF)) → (W.setCell ⟨g + 1, j, none⟩ u).ownsRow (g + 3) 58 3 (.slice A' k c') k (fnCs ((l.take k).map plainF)) := fun W j u h => rown_far (p := ⟨g + 1, j, none⟩) (u := u) h (fun hb => by have := (h.lt _ hb).1; simp only at this; omega)
      have ho := own_more_n (hfar _ 2 (.slice A' k c') (hfar _ 1 (.int .i64 m) (hfar _ 0 (.int .i64 p) HOr.out))) (show w.heap.size ≤ g + 3 by omega)
      rw [List.take_of_length_le (by rw [HL.out]; exact Nat.le_refl _)] at ho
      have HFIN := Lib.hid (HPO.out (.slice A' k c') _ (by rw [HL.out]; exact ho) HCF)
      clear ho
      go_wp2_with fail
      exact bodyPost_ret_by (results_row_one (p := 2) (ty := 24) rfl _ _ (g + 1) 24 [.int .i64 p, .int .i64 m, .slice A' k c'] _ rfl HSS Tryz.underlying24 (by kernel_rfl)) rfl HFIN.out
end
end Go.Proofs.YtbkfhndmeljlcaaGreatDoor
namespace Go.Proofs.YtbkfhndmeljlcaaGreatDoor
open Go.RowKit
def plF (p m : Int) (l : List FnV) : Fact := fun v W => ∃ A n c, v = .agg #[.int .i64 p, .int .i64 m, .slice A n c] ∧ Fnr W A n c l
theorem keeps_pl (p m : Int) (l : List FnV) : Keeps (Chg []) (plF p m l) := fun _ _ _ ⟨A, n, c, h1, h2⟩ hc => ⟨A, n, c, h1, h2.keep hc⟩
end Go.Proofs.YtbkfhndmeljlcaaGreatDoor
namespace Go.Proofs.YtbkfhndmeljlcaaGreatDoor
open Go.RowKit
theorem strOf_drop (l : List UInt8) (k : Nat) : (strOf l).extract k (strOf l).size = strOf (l.drop k) := by
  apply ByteArray.ext
  simp [strOf, ByteArray.extract, ByteArray.copySlice, ByteArray.size]
  exact List.take_of_length_le (by simp)
end Go.Proofs.YtbkfhndmeljlcaaGreatDoor
