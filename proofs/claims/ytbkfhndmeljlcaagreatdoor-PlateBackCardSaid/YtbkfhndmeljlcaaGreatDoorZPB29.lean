/-
  PB: Unit.
-/
import Derived.Test.YtbkfhndmeljlcaaGreatDoorZPB26
import Derived.Test.YtbkfhndmeljlcaaGreatDoorZPB28
namespace Go.Proofs.YtbkfhndmeljlcaaGreatDoor
open Go.RowKit
def nmL : List Int := [102, 103, 945, 104, 19990]
def NamesPost (w : World) (e : Ending) (w' : World) : Prop := e = .returned (.slice (some ⟨w.heap.size, 0, none⟩) 5 5) ∧ w' = w.alloc (.cells #[.int .i32 102, .int .i32 103, .int .i32 945, .int .i32 104, .int .i32 19990] 21)
theorem names_any (w : World) : Calls Tryz.prog 34 #[] w (NamesPost w) := by
  have HP := Lib.hid (show NamesPost w (.returned (.slice (some ⟨w.heap.size, 0, none⟩) 5 5)) (w.alloc (.cells #[.int .i32 102, .int .i32 103, .int .i32 945, .int .i32 104, .int .i32 19990] 21)) from ⟨rfl, rfl⟩)
  go_enter Tryz.func34, Tryz.ntmps34
  go_wp2_with fail
  go_ret
  exact HP.out
/-- What is right of a program of a tape. -/
structure GoodU (l : List FnV) : Prop where
  lo : l.length ≤ 3
  fn : ∀ i f, l[i]? = some f → nmL[i]? = some f.name ∧ 0 ≤ f.args ∧ f.args ≤ 2 ∧ f.code.size ≤ 1000 ∧ (rFunc (l.take (i + 1)) f.code).1 = 0
def one1 : ByteArray := ⟨#[97, 32, 49, 43]⟩
theorem one1_tok : tokR one1 = some [⟨97, 0, 0⟩, ⟨48, 1, 0⟩, ⟨43, 0, 0⟩] := by rfl
theorem one1_ok (l : List FnV) : (rFunc l one1).1 = 0 := by
  unfold rFunc
  rw [one1_tok]
  simp only
  rw [show rNest (signs [⟨97, 0, 0⟩, ⟨48, 1, 0⟩, ⟨43, 0, 0⟩]) = some ([-1, -1, -1], 0) from by decide +kernel]
  simp only
  rw [rWalk_next, show rTok l 0 [] (TkV.mk 97 0 0).sign (TkV.mk 97 0 0).name = (0, 1, []) from rfl]
  rw [if_pos rfl, rWalk_next, show rTok l 1 [] (TkV.mk 48 1 0).sign (TkV.mk 48 1 0).name = (0, 2, []) from rfl]
  rw [if_pos rfl, rWalk_next, show rTok l 2 [] (TkV.mk 43 0 0).sign (TkV.mk 43 0 0).name = (0, 1, []) from rfl]
  rfl
theorem GoodU.nil : GoodU [] := ⟨by simp, fun i f h => by simp at h⟩
theorem GoodU.more {l : List FnV} {f : FnV} (h : GoodU l) (hk : l.length < 3) (h1 : nmL[l.length]? = some f.name) (h2 : 0 ≤ f.args ∧ f.args ≤ 2) (h3 : f.code.size ≤ 1000) (h4 : (rFunc (l ++ [f]) f.code).1 = 0) : GoodU (l ++ [f]) := by
  refine ⟨by simp; omega, fun i g hg => ?_⟩
  by_cases hi : i < l.length
  · rw [List.getElem?_append_left hi] at hg
    rw [List.take_append_of_le_length (by omega)]
    exact h.fn i g hg
  · have hil : i < (l ++ [f]).length := (List.getElem?_eq_some_iff.1 hg).1
    simp at hil
    have : i = l.length := by omega
    subst this
    simp at hg
    subst hg
    rw [List.take_of_length_le (by simp)]
    exact ⟨h1, h2.1, h2.2, h3, h4⟩
def UnitPost (w : World) (e : Ending) (w' : World) : Prop :=
  ∃ (pg ms : Int) (v : Value) (l : List FnV), e = .returned (.agg #[.int .i64 pg, .int .i64 ms, v]) ∧ 0 ≤ pg ∧ pg ≤ 2 ∧ pg + 1 ≤ ms ∧ ms ≤ pg + 3 ∧ w'.ownsRow w.heap.size 58 3 v l.length (fnCs l) ∧ GoodU l ∧ 0 < l.length ∧ Chg [] w w'
section
variable {w : World} {A : Option Addr} {n c : Nat} {l : List Int}
theorem Fns.of_own {W : World} {B p n : Nat} {e : TypeId} {v : Value} {l : List FnV} (h : W.ownsRow B e 3 v n (fnCs l)) (hm : n ≤ 1000) (hB : p < B) (ha : ∀ f ∈ l, 0 ≤ f.args ∧ f.args ≤ 2) : ∃ A c, v = .slice A n c ∧ Fns W p A n c l := by
  have hl : l.length = n := by have := h.1; rw [fnCs_len] at this; omega
  rcases h.2 with ⟨rfl, rfl⟩ | ⟨g, cap, cur, rfl, hb, hg, hn, hc, hs, ht⟩
  · exact ⟨none, 0, rfl, hl, fun h => absurd h (by rw [fnCs_len]; omega), Nat.le_refl _, by omega, fun h => absurd h (by omega), ha⟩
  · refine ⟨_, cap, rfl, hl, fun _ => ⟨_, rfl, tf_lt hg, fun j u hj => h.cells rfl j u hj⟩, hn, hm, fun _ ad e => by injection e with e; subst e; exact ⟨rfl, by simp; omega⟩, ha⟩
theorem Fnr.of_own {W : World} {B n : Nat} {e : TypeId} {v : Value} {l : List FnV} (h : W.ownsRow B e 3 v n (fnCs l)) (hm : n ≤ 1000) (ha : ∀ f ∈ l, -9223372036854775808 ≤ f.args ∧ f.args ≤ 9223372036854775807) : ∃ A c, v = .slice A n c ∧ Fnr W A n c l := by
  have hl : l.length = n := by have := h.1; rw [fnCs_len] at this; omega
  rcases h.2 with ⟨rfl, rfl⟩ | ⟨g, cap, cur, rfl, hb, hg, hn, hc, hs, ht⟩
  · exact ⟨none, 0, rfl, hl, fun h => absurd h (by rw [fnCs_len]; omega), Nat.le_refl _, by omega, fun h => absurd h (by omega), ha⟩
  · exact ⟨_, cap, rfl, hl, fun _ => ⟨_, rfl, tf_lt hg, fun j u hj => h.cells rfl j u hj⟩, hn, hm, fun _ ad e => by injection e with e; subst e; rfl, ha⟩
theorem GoodU.args {l : List FnV} (h : GoodU l) : ∀ f ∈ l, 0 ≤ f.args ∧ f.args ≤ 2 := fun f hf => by
  obtain ⟨i, hi, rfl⟩ := List.getElem_of_mem hf
  have := h.fn i _ (List.getElem?_eq_getElem hi)
  exact ⟨this.2.1, this.2.2.1⟩
theorem GoodU.size {l : List FnV} (h : GoodU l) : ∀ f ∈ l, f.code.size ≤ 1000 := fun f hf => by
  obtain ⟨i, hi, rfl⟩ := List.getElem_of_mem hf
  exact (h.fn i _ (List.getElem?_eq_getElem hi)).2.2.2.1
theorem x_new {w6 w9 : World} {p j9 : Nat} (hT : Tp w9 p A n c l j9) (hq : Chg [p] w6 w9) (nm : Int) (a : Nat) : Hid (Whole (w9.alloc (.cells #[.int .i32 nm, .int .i64 (a : Int), .string ⟨#[]⟩] 58)) w9.heap.size 58 [.int .i32 nm, .int .i64 (a : Int), .string ⟨#[]⟩]) ∧
    Hid (∃ j, Tp (w9.alloc (.cells #[.int .i32 nm, .int .i64 (a : Int), .string ⟨#[]⟩] 58)) p A n c l j) ∧ Hid (Chg [p] w6 (w9.alloc (.cells #[.int .i32 nm, .int .i64 (a : Int), .string ⟨#[]⟩] 58))) ∧ Hid (w6.heap.size ≤ w9.heap.size) :=
  ⟨Lib.hid (Whole.new w9 _ _), Lib.hid ⟨_, hT.keep ((Chg.refl [] w9).alloc _)⟩, Lib.hid (hq.alloc _), Lib.hid hq.size⟩
theorem x_set {w6 w9 : World} {p j9 g : Nat} (hX : Whole w9 g 58 [.int .i32 0, .int .i64 0, .string ⟨#[]⟩]) (hT : Tp w9 p A n c l j9) (hq : Chg [p] w6 w9) (hg : w6.heap.size ≤ g) (hp : p < g) (nm : Int) (a : Nat) :
    Hid (Whole (((w9.setCell ⟨g, 0, none⟩ (.int .i32 nm)).setCell ⟨g, 1, none⟩ (.int .i64 (a : Int))).setCell ⟨g, 2, none⟩ (.string ⟨#[]⟩)) g 58 [.int .i32 nm, .int .i64 (a : Int), .string ⟨#[]⟩]) ∧
    Hid (∃ j, Tp (((w9.setCell ⟨g, 0, none⟩ (.int .i32 nm)).setCell ⟨g, 1, none⟩ (.int .i64 (a : Int))).setCell ⟨g, 2, none⟩ (.string ⟨#[]⟩)) p A n c l j) ∧
    Hid (Chg [p] w6 (((w9.setCell ⟨g, 0, none⟩ (.int .i32 nm)).setCell ⟨g, 1, none⟩ (.int .i64 (a : Int))).setCell ⟨g, 2, none⟩ (.string ⟨#[]⟩))) ∧ Hid (w6.heap.size ≤ g) := by
  have h1 := ((hX.set_ 0 (.int .i32 nm)).set_ 1 (.int .i64 (a : Int))).set_ 2 (.string ⟨#[]⟩)
  have hA : ∀ ad, A = some ad → 0 < n → ad.block ≠ g := fun ad e h0 => by have := (hT.spot h0 ad e).2; omega
  have hne : g ≠ p := by omega
  have h2 := ((hT.other (j := 0) hne hA (.int .i32 nm)).other (j := 1) hne hA (.int .i64 (a : Int))).other (j := 2) hne hA (.string ⟨#[]⟩)
  refine ⟨Lib.hid (by simpa using h1), Lib.hid ⟨_, h2⟩, Lib.hid (((hq.setCell ?_ _).setCell ?_ _).setCell ?_ _), Lib.hid hg⟩
  all_goals (intro hh; simp only at hh; omega)
set_option maxHeartbeats 8000000 in
set_option maxRecDepth 100000 in
theorem unit_any (hs : Src w A (nms l)) (hlen : l.length = n) (hspot : 0 < n → ∀ ad, A = some ad → ad.spot = none) (hn : n ≤ 9223372036854775807) (hrng : ∀ x ∈ l, -9223372036854775808 ≤ x ∧ x ≤ 9223372036854775807) :
    Calls Tryz.prog 10 #[.slice A n c] w (UnitPost w) := by
  obtain ⟨i0, hi0, hz0, hz1, hz2⟩ := info_parts info_func
  have HAR := Lib.hid (And.intro hs (And.intro hlen (And.intro hspot (And.intro hn hrng))))
  clear hs hlen hspot hrng hn
  go_enter Tryz.func10, Tryz.ntmps10
  go_upto_region 2 with fail
  obtain ⟨g2, hg2⟩ : ∃ g, g = w.heap.size := ⟨_, rfl⟩
  have HG2 := Lib.hid hg2
  have h1 := (Chg.refl [] w).alloc (.cells #[.int .i64 0, .int .i64 0, .slice none 0 0] 24)
  have hz1 : (w.alloc (.cells #[.int .i64 0, .int .i64 0, .slice none 0 0] 24)).heap.size = g2 + 1 := by rw [hg2]; exact Array.size_push _
  have hW1 := Whole.new w 24 [.int .i64 0, .int .i64 0, .slice none 0 0]
  rw [← hg2] at hW1 ⊢
  generalize hw1 : w.alloc (.cells #[.int .i64 0, .int .i64 0, .slice none 0 0] 24) = w1 at *
  have h2 := (Chg.refl [] w1).alloc (.cells #[.slice A n c, .int .i64 0] 66)
  have hz2' : (w1.alloc (.cells #[.slice A n c, .int .i64 0] 66)).heap.size = g2 + 1 + 1 := by rw [← hz1]; exact Array.size_push _
  have hT2 : Tp (w1.alloc (.cells #[.slice A n c, .int .i64 0] 66)) (g2 + 1) A n c l 0 := by
    refine ⟨by rw [← hz1]; exact Whole.new w1 66 [.slice A n c, .int .i64 0], HAR.out.2.1, HAR.out.1.keep (h1.trans h2), fun hp ad e => ⟨HAR.out.2.2.1 hp ad e, ?_⟩, HAR.out.2.2.2.2, Nat.zero_le _, HAR.out.2.2.2.1⟩
    obtain ⟨ad', e', hb, _⟩ := HAR.out.1 (by simp [nms]; have := HAR.out.2.1; omega)
    rw [e] at e'
    injection e' with e'
    subst e'
    omega
  have HC2 := Lib.hid (h1.trans h2)
  have HR2 := Lib.hid (hW1.keep h2)
  generalize w1.alloc (.cells #[.slice A n c, .int .i64 0] 66) = w2 at *
  have HT2 := Lib.hid hT2
  have HZ2 := Lib.hid hz2'
  clear hw1 h1 h2 hz1 hW1 hz2' hT2 HAR hg2
  obtain ⟨p, hp⟩ : ∃ p, p = g2 + 1 := ⟨_, rfl⟩
  rw [← hp] at HT2 HZ2 ⊢
  have HPP := Lib.hid hp
  clear hp
  go_wp2_with fail
  refine (next_any HT2.out 3 (by omega) (by omega)).mono ?_
  rintro e w3 ⟨pg, a3, hpg, rfl, hT3, hc3⟩
  have HR3 := Lib.hid (HR2.out.chg hc3 (by have := HPP.out; simp; omega))
  have HC3 := Lib.hid (show Chg [] w w3 from HC2.out.then_ hc3 (fun i hi hlt => by have := HPP.out; have := HG2.out; simp at hi; omega))
  have HT3 := Lib.hid hT3
  have HZ3 := Lib.hid (show p + 1 ≤ w3.heap.size from by have := hc3.size; have := HZ2.out; omega)
  clear hT3 hc3 HR2 HC2 HT2 HZ2
  go_upto_region 3 with fail
  have hU4 := Whole.new w3 24 [.int .i64 (pg : Int), .int .i64 0, .slice none 0 0]
  have h4 := (Chg.refl [] w3).alloc (.cells #[.int .i64 (pg : Int), .int .i64 0, .slice none 0 0] 24)
  have hz4 : (w3.alloc (.cells #[.int .i64 (pg : Int), .int .i64 0, .slice none 0 0] 24)).heap.size = w3.heap.size + 1 := Array.size_push _
  obtain ⟨gu, hgu⟩ : ∃ g, g = w3.heap.size := ⟨_, rfl⟩
  rw [← hgu] at hU4 hz4 ⊢
  have HGU := Lib.hid (show p + 1 ≤ gu from by have := HZ3.out; omega)
  have HGW := Lib.hid (show w.heap.size ≤ gu from by have := HC3.out.size; omega)
  generalize w3.alloc (.cells #[.int .i64 (pg : Int), .int .i64 0, .slice none 0 0] 24) = w4 at *
  have HU4 := Lib.hid hU4
  have HC4 := Lib.hid (HC3.out.new h4)
  have HR4 := Lib.hid (HR3.out.keep h4)
  have HT4 := Lib.hid (HT3.out.keep h4)
  have HZ4 := Lib.hid hz4
  clear hU4 h4 hz4 hgu HC3 HR3 HT3 HZ3
  go_cut [] (fun wx => ∃ q : Nat, q < 3 ∧ Hid (Whole wx gu 24 [.int .i64 (pg : Int), .int .i64 ((pg : Int) + 1 + (q : Int)), .slice none 0 0]) ∧ Hid (∃ j, Tp wx p A n c l j) ∧ Hid (Chg [p, gu] w4 wx))
  case first =>
    have hD : Chg [] w4 w4.drew := (Chg.refl [] w4).drew
    have c0 := HU4.out.cell 0
    have c1 := HU4.out.cell 1
    have hpI : (pg : Int) < 3 := by omega
    have hpI0 : (0 : Int) ≤ (pg : Int) := by omega
    have hw1 : IntKind.i64.wrap ((pg : Int) + 1) = (pg : Int) + 1 := IntWalk.i64_in _ (by omega)
    go_region_with (go_at_call 33
                    refine (next_any (HT4.out.keep hD) 3 (by omega) (by omega)).mono ?_
                    rintro e w5 ⟨r, a5, hr, rfl, hT5, hc5⟩
                    have hU5 := (HU4.out.keep hD).chg hc5 (by have := HGU.out; simp; omega)
                    have d0 := hU5.cell 0
                    have d1 := hU5.cell 1
                    have f1 := hU5.frozen 1
                    have hw2 : IntKind.i64.wrap ((pg : Int) + 1 + (r : Int)) = (pg : Int) + 1 + (r : Int) := IntWalk.i64_in _ (by omega))
    all_goals
      have hW6 := hU5.set_ 1 (.int .i64 ((pg : Int) + 1 + (r : Int)))
      have hT6 := hT5.other (g := gu) (j := 1) (by have := HGU.out; omega) (fun ad e h0 => by have := (hT5.spot h0 ad e).2; have := HGU.out; omega) (.int .i64 ((pg : Int) + 1 + (r : Int)))
      have hC6 : Chg [p, gu] w4 (w5.setCell ⟨gu, 1, none⟩ (.int .i64 ((pg : Int) + 1 + (r : Int)))) := ((hD.sub (T' := [p, gu]) (by simp)).trans (hc5.sub (by simp))).setCell (fun _ => by simp) _
      go_wp2_with fail
      go_meet
      exact ⟨r, hr, Lib.hid (by simpa using hW6), Lib.hid ⟨_, hT6⟩, Lib.hid hC6⟩
  case rest =>
    obtain ⟨q, hq, HU5, HT5, HCu⟩ := hcut
    obtain ⟨w5, rfl⟩ : ∃ w5 : World, w5 = wc := ⟨_, rfl⟩
    have HC5 := Lib.hid (show Chg [] w w5 from HC4.out.then_ HCu.out (fun i hi hlt => by have := HPP.out; have := HG2.out; have := HGW.out; simp at hi; omega))
    have HR5 := Lib.hid (HR4.out.chg HCu.out (by have := HPP.out; have := HGU.out; simp; omega))
    have HZ5 := Lib.hid (show gu + 1 ≤ w5.heap.size from by have := HCu.out.size; have := HZ4.out; omega)
    clear HU4 HC4 HR4 HT4 HZ4 HCu
    go_wp2_with fail
    go_loopw [5] (fun i wr => ∃ (k : Nat) (fl : List FnV) (vf : Value), i = .int .i64 (k : Int) ∧ k ≤ 3 ∧ Hid (Whole wr gu 24 [.int .i64 (pg : Int), .int .i64 ((pg : Int) + 1 + (q : Int)), vf]) ∧ Hid (∃ j, Tp wr p A n c l j) ∧
      Hid (wr.ownsRow (gu + 1) 58 3 vf k (fnCs fl)) ∧ Hid (GoodU fl) ∧ Hid (Whole wr g2 24 [.int .i64 0, .int .i64 0, .slice none 0 0]) ∧ Hid (Chg [] w wr) ∧ Hid (gu + 1 ≤ wr.heap.size)) (fun i _ => 3 - (intOf i).toNat)
    case atStart => exact ⟨0, [], _, rfl, by omega, HU5, HT5, Lib.hid (World.ownsRow_nil _ _ _ _), Lib.hid GoodU.nil, HR5, HC5, HZ5⟩
    case round =>
      obtain ⟨k, fl, vf, rfl, hk, HU, HTj, HO, HG, HR, HC, HZ⟩ := hrel
      obtain ⟨jt, hTj⟩ := HTj.out
      have HT := Lib.hid hTj
      clear hTj HTj
      go_wp2_with fail
      refine (next_any HT.out 3 (by omega) (by omega)).mono ?_
      rintro e w6 ⟨r6, j6, hr6, rfl, hT6, hc6⟩
      have HT6 := Lib.hid hT6
      have HU6 := Lib.hid (HU.out.chg hc6 (by have := HGU.out; simp; omega))
      have HO6 := Lib.hid (rown_chg HO.out hc6 (by have := HGU.out; simp; omega))
      have HR6 := Lib.hid (HR.out.chg hc6 (by have := HPP.out; simp; omega))
      have HC6 := Lib.hid (show Chg [] w w6 from HC.out.then_ hc6 (fun i hi hlt => by have := HPP.out; have := HG2.out; simp at hi; omega))
      have HZ6 := Lib.hid (Nat.le_trans HZ.out hc6.size)
      clear hT6 hc6 HT HU HO HR HC HZ
      by_cases hkr : k < 1 + r6
      · have hkI : (k : Int) < 1 + (r6 : Int) := by omega
        have hk3 : k < 3 := by omega
        obtain ⟨nm, hnm⟩ : ∃ nm, nmL[k]? = some nm := ⟨_, List.getElem?_eq_getElem (by simp [nmL]; omega)⟩
        have HNM := Lib.hid hnm
        have hk5 : (k : Int) < 5 := by omega
        have hD : Chg [] w6 w6.drew := (Chg.refl [] w6).drew
        have hrow : ∀ W : World, (W.alloc (.cells #[.int .i32 102, .int .i32 103, .int .i32 945, .int .i32 104, .int .i32 19990] 21)).cell? ⟨W.heap.size, k, none⟩ = some (.int .i32 nm) := fun W => ((Whole.new W 21 [.int .i32 102, .int .i32 103, .int .i32 945, .int .i32 104, .int .i32 19990]).cell k).trans (by
          have h3 : k = 0 ∨ k = 1 ∨ k = 2 := by omega
          rcases h3 with rfl | rfl | rfl <;> (simp [nmL] at hnm; subst hnm; rfl))
        have HROW := Lib.hid (show [Value.int .i32 102, .int .i32 103, .int .i32 945, .int .i32 104, .int .i32 19990][k]? = some (.int .i32 nm) from by
          have h3 : k = 0 ∨ k = 1 ∨ k = 2 := by omega
          rcases h3 with rfl | rfl | rfl <;> (simp [nmL] at hnm; subst hnm; rfl))
        clear hnm
        go_wp2_with fail
        go_cut [6] (fun s6 wx => ∃ g a : Nat, s6 = .pointer (some ⟨g, 0, none⟩) ∧ a < 3 ∧ Hid (Whole wx g 58 [.int .i32 nm, .int .i64 (a : Int), .string ⟨#[]⟩]) ∧ Hid (∃ j, Tp wx p A n c l j) ∧ Hid (Chg [p] w6 wx) ∧ Hid (w6.heap.size ≤ g))
        case first =>
          go_region_with (first
            | (go_at_call 33
               have _t := hX8
               refine (next_any ((HT6.out.keep hD).keep hN8c) 3 (by omega) (by omega)).mono ?_
               rintro e w9 ⟨r9, j9, hr9, rfl, hT9, hc9⟩
               have hq9 : Chg [p] w6 w9 := ((hD.trans hN8c).sub (T' := [p]) (by simp)).trans hc9
               have hN9 := hN8.chg hc9 (by have := HN8z.out; simp; omega)
               have d9 := (hN9.cell k).trans (HROW.out)
               have hX9 := hX8.chg hc9 (by have := HN8z.out; simp; omega)
               have x0 := hX9.cell 0
               have x1 := hX9.cell 1
               have x2 := hX9.cell 2
               have y0 := hX9.frozen 0
               have y1 := hX9.frozen 1
               have y2 := hX9.frozen 2)
            | (go_at_call 33
               have hal : Chg [] w8 (w8.alloc (.cells #[.int .i32 0, .int .i64 0, .string { data := #[] }] 58)) := (Chg.refl [] w8).alloc _
               refine (next_any (((HT6.out.keep hD).keep hN8c).keep hal) 3 (by omega) (by omega)).mono ?_
               rintro e w9 ⟨r9, j9, hr9, rfl, hT9, hc9⟩
               have hq9 : Chg [p] w6 w9 := (((hD.trans hN8c).trans hal).sub (T' := [p]) (by simp)).trans hc9
               have hN9 := (hN8.keep hal).chg hc9 (by have := HN8z.out; simp; omega)
               have d9 := (hN9.cell k).trans (HROW.out)
               have hX9 := (Whole.new w8 58 [.int .i32 0, .int .i64 0, .string ⟨#[]⟩]).chg hc9 (by have := HN8z.out; have := hN8c.size; simp; simp at this; omega)
               have x0 := hX9.cell 0
               have x1 := hX9.cell 1
               have x2 := hX9.cell 2
               have y0 := hX9.frozen 0
               have y1 := hX9.frozen 1
               have y2 := hX9.frozen 2)
            | (go_at_call 33
               refine (next_any ((HT6.out.keep hD).keep hN8c) 3 (by omega) (by omega)).mono ?_
               rintro e w9 ⟨r9, j9, hr9, rfl, hT9, hc9⟩
               have hq9 : Chg [p] w6 w9 := ((hD.trans hN8c).sub (T' := [p]) (by simp)).trans hc9
               have hN9 := hN8.chg hc9 (by have := HN8z.out; simp; omega)
               have d9 := (hN9.cell k).trans (HROW.out)
               have d9a := cell_keep d9 ((Chg.refl [] w9).alloc (.cells #[.int .i32 0, .int .i64 0, .string { data := #[] }] 58)))
            | (go_at_call 34
               refine (names_any (w6.drew.alloc (.cells #[.int .i32 0, .int .i64 0, .string { data := #[] }] 58))).mono ?_
               rintro e w8 ⟨rfl, hw8⟩
               have hN8c : Chg [] w6.drew w8 := by rw [hw8]; exact ((Chg.refl [] w6.drew).alloc _).alloc _
               have hsz : (w6.drew.alloc (.cells #[.int .i32 0, .int .i64 0, .string { data := #[] }] 58)).heap.size = w6.heap.size + 1 := Array.size_push _
               have hN8 : Whole w8 (w6.heap.size + 1) 21 [.int .i32 102, .int .i32 103, .int .i32 945, .int .i32 104, .int .i32 19990] := by rw [hw8, ← hsz]; exact Whole.new (w6.drew.alloc (.cells #[.int .i32 0, .int .i64 0, .string { data := #[] }] 58)) 21 _
               have hX8 : Whole w8 w6.heap.size 58 [.int .i32 0, .int .i64 0, .string ⟨#[]⟩] := by rw [hw8]; exact (Whole.new w6.drew 58 [.int .i32 0, .int .i64 0, .string ⟨#[]⟩]).keep ((Chg.refl [] _).alloc _)
               have HN8z := Lib.hid (show p < w6.heap.size from HT6.out.lt)
               have d8 : w8.cell? ⟨w6.heap.size + 1, k, none⟩ = some (.int .i32 nm) := (hN8.cell k).trans HROW.out
               clear hw8 hsz)
            | (go_at_call 34
               refine (names_any w6.drew).mono ?_
               rintro e w8 ⟨rfl, hw8⟩
               have hN8c : Chg [] w6.drew w8 := by rw [hw8]; exact (Chg.refl [] w6.drew).alloc _
               have hN8 : Whole w8 w6.heap.size 21 [.int .i32 102, .int .i32 103, .int .i32 945, .int .i32 104, .int .i32 19990] := by rw [hw8]; exact Whole.new w6.drew 21 _
               have HN8z := Lib.hid (show p < w6.heap.size from HT6.out.lt)
               have d8 : w8.cell? ⟨w6.heap.size, k, none⟩ = some (.int .i32 nm) := by rw [hw8]; exact hrow w6.drew
               have d8a := cell_keep d8 ((Chg.refl [] w8).alloc (.cells #[.int .i32 0, .int .i64 0, .string { data := #[] }] 58))
               clear hw8))
          all_goals
            go_wp2_with fail
            go_meet
            first
              | exact ⟨w9.heap.size, r9, rfl, hr9, x_new hT9 hq9 _ _⟩
              | exact ⟨w8.heap.size, r9, rfl, hr9, x_set hX9 hT9 hq9 hN8c.size (by have := HN8z.out; have := hN8c.size; simp at this; omega) _ _⟩
              | exact ⟨w6.heap.size, r9, rfl, hr9, x_set hX9 hT9 hq9 (Nat.le_refl _) HN8z.out _ _⟩
        case rest =>
          obtain ⟨g6, a6, rfl, ha6, HX, HTx, HCx, HGx⟩ := hcut
          obtain ⟨w7, rfl⟩ : ∃ w7 : World, w7 = wc := ⟨_, rfl⟩
          obtain ⟨j7, hT7⟩ := HTx.out
          have HT7 := Lib.hid hT7
          have HU7 := Lib.hid (HU6.out.chg HCx.out (by have := HGU.out; simp; omega))
          have HO7 := Lib.hid (rown_chg HO6.out HCx.out (by have := HGU.out; simp; omega))
          have HR7 := Lib.hid (HR6.out.chg HCx.out (by have := HPP.out; simp; omega))
          have HC7 := Lib.hid (show Chg [] w w7 from HC6.out.then_ HCx.out (fun i hi hlt => by have := HPP.out; have := HG2.out; simp at hi; omega))
          have HZ7 := Lib.hid (Nat.le_trans HZ6.out HCx.out.size)
          have HGX := Lib.hid (show gu + 1 ≤ g6 from Nat.le_trans HZ6.out HGx.out)
          have HOL := Lib.hid (fun b (hb : vf.ownBlock = some b) => show b < g6 from Nat.lt_of_lt_of_le (HO6.out.lt b hb).2 HGx.out)
          clear hT7 HTx HU6 HO6 HR6 HC6 HCx HT6
          obtain ⟨AF, cf, rfl, hFs⟩ := Fns.of_own (p := p) HO7.out (by omega) (by have := HGU.out; omega) HG.out.args
          have HF7 := Lib.hid hFs
          clear hFs
          go_wp2_with fail
          refine (next_any HT7.out 4 (by omega) (by omega)).mono ?_
          rintro e w8 ⟨r8, j8, hr8, rfl, hT8, hc8⟩
          have HT8 := Lib.hid hT8
          have HC78 := Lib.hid hc8
          clear hT8 hc8
          go_wp2_with fail
          go_loopw [7, 8] (fun v i wr => ∃ (m : Nat) (s : ByteArray), i = .int .i64 (m : Int) ∧ m ≤ 3 ∧ v = .string s ∧ s.size < 250 ∧ Hid (∃ j, Tp wr p A n c l j) ∧ Hid (Chg [p] w7 wr)) (fun _ i _ => (intOf i).toNat)
          case atStart => exact ⟨r8, _, rfl, by omega, rfl, by decide, Lib.hid ⟨_, HT8.out⟩, HC78⟩
          case round =>
            obtain ⟨m, s, rfl, hm, rfl, hs, HTm, HCm⟩ := hrel
            have HUm := Lib.hid (HU7.out.chg HCm.out (by have := HGU.out; simp; omega))
            by_cases hm0 : 0 < m
            · have hm0I : (0 : Int) < (m : Int) := by omega
              have u2 := HUm.out.cell 2
              go_wp2_with fail
              obtain ⟨jm, hTm⟩ := HTm.out
              refine ((deed_any 2 (by omega)) 2 wr jm (by omega) (by omega) hTm (HF7.out.keep HCm.out)).mono ?_
              rintro e w9 ⟨d, rfl, hd, hT9, hc9⟩
              replace hd : d.size ≤ 5800 := hd
              have HT9 := Lib.hid hT9
              have HC9 := Lib.hid (HCm.out.trans hc9)
              clear hT9 hc9 hTm u2 HUm
              by_cases hsd : s.size + d.size < 250
              · have hsdI : (s.size : Int) + (d.size : Int) < 250 := by omega
                obtain ⟨y1, hy1, haddy1⟩ := addS s d s.size d.size (Nat.le_refl _) (Nat.le_refl _) (by omega)
                have haddy1 := haddy1 w9
                go_wp2_with fail
                refine (halts_any d w9 (by omega)).mono ?_
                rintro e w10 ⟨b, rfl, hw10⟩
                subst hw10
                cases b
                · go_wp2_with fail
                  go_roundw
                  case rel => exact ⟨m - 1, y1, by go_num, by omega, rfl, by omega, HT9, HC9⟩
                  case measure => simp [intOf]; omega
                · go_wp2_with fail
                  go_roundw
                  case rel => exact ⟨m - 1, s, by go_num, by omega, rfl, by omega, HT9, HC9⟩
                  case measure => simp [intOf]; omega
              · have hsdI : 250 ≤ (s.size : Int) + (d.size : Int) := by omega
                go_wp2_with fail
                go_roundw
                case rel => exact ⟨m - 1, s, by go_num, by omega, rfl, by omega, HT9, HC9⟩
                case measure => simp [intOf]; omega
            · have hm0I : ¬ (0 : Int) < (m : Int) := by omega
              have u2 := HUm.out.cell 2
              go_wp2_with fail
              obtain ⟨jm, hTm⟩ := HTm.out
              refine ((value_any 3 (by omega)) 3 wr jm (by omega) (by omega) hTm (HF7.out.keep HCm.out)).mono ?_
              rintro e w9 ⟨v9, rfl, hv9, hT9, hc9⟩
              replace hv9 : v9.size ≤ 1880 := hv9
              have HT9 := Lib.hid hT9
              have HC9 := Lib.hid (HCm.out.trans hc9)
              clear hT9 hc9 hTm u2 HUm
              go_upto_if 73 with fail
              have hszs : s.size + v9.size ≤ 4000 := by omega
              go_cut [10] (fun v wx => (∃ t : ByteArray, v = .string t ∧ s.size + t.size ≤ 1000) ∧ wx = w9)
              case first =>
                by_cases hbig : 400 < s.size + v9.size
                · have hbI : (400 : Int) < (s.size : Int) + (v9.size : Int) := by omega
                  go_wp2_with fail
                  go_meet
                  exact ⟨⟨_, rfl, by show s.size + 2 ≤ 1000; omega⟩, rfl⟩
                · have hbI : (s.size : Int) + (v9.size : Int) ≤ 400 := by omega
                  go_wp2_with fail
                  go_meet
                  exact ⟨⟨_, rfl, by omega⟩, rfl⟩
              case rest =>
                obtain ⟨⟨t, rfl, hst⟩, hcw⟩ := hcut
                rw [hcw]
                clear hcw
                obtain ⟨y, hy, haddy⟩ := addS s t s.size t.size (Nat.le_refl _) (Nat.le_refl _) (by omega)
                have haddy := haddy w9
                have HX9 := Lib.hid (HX.out.chg HC9.out (by have := HGX.out; have := HGU.out; simp; omega))
                have x2 := HX9.out.cell 2
                have f2 := HX9.out.frozen 2
                go_upto_region 19 with fail
                have HX10 := Lib.hid (show Whole (w9.setCell ⟨g6, 2, none⟩ (.string y)) g6 58 [.int .i32 nm, .int .i64 (a6 : Int), .string y] from by have := HX9.out.set_ 2 (.string y); simpa using this)
                have HU10 := Lib.hid ((HU7.out.chg HC9.out (by have := HGU.out; simp; omega)).far (p := ⟨g6, 2, none⟩) (by simp only; have := HGX.out; omega) (.string y))
                have HR10 := Lib.hid ((HR7.out.chg HC9.out (by have := HPP.out; simp; omega)).far (p := ⟨g6, 2, none⟩) (by simp only; have := HGX.out; have := HGU.out; have := HPP.out; omega) (.string y))
                have HO10 := Lib.hid (rown_far (p := ⟨g6, 2, none⟩) (u := .string y) (rown_chg HO7.out HC9.out (by have := HGU.out; simp; omega)) (fun hb => by have := HOL.out _ hb; simp only at this; omega))
                have HT10 := Lib.hid (HT9.out.imp fun j hj => hj.other (g := g6) (j := 2) (by have := HGX.out; have := HGU.out; omega) (fun ad e h0 => by have := (hj.spot h0 ad e).2; have := HGX.out; have := HGU.out; omega) (.string y))
                have HC10 := Lib.hid (show Chg [] w (w9.setCell ⟨g6, 2, none⟩ (.string y)) from (HC7.out.then_ HC9.out (fun i hi hlt => by have := HPP.out; have := HG2.out; simp at hi; omega)).setCell (fun hh => by simp only at hh; have := HGX.out; have := HGW.out; omega) _)
                have HZ10 := Lib.hid (show gu + 1 ≤ (w9.setCell ⟨g6, 2, none⟩ (.string y)).heap.size from by rw [size_set]; exact Nat.le_trans HZ7.out HC9.out.size)
                generalize w9.setCell ⟨g6, 2, none⟩ (.string y) = w10 at HX10 HU10 HR10 HO10 HT10 HC10 HZ10 ⊢
                clear haddy x2 f2 HX9
                have x0 := HX10.out.cell 0
                have x1 := HX10.out.cell 1
                have x2 := HX10.out.cell 2
                have u2 := HU10.out.cell 2
                have HAL := Lib.hid (show Chg [] w10 (w10.alloc (.cells #[.int .i32 nm, .int .i64 (a6 : Int), .string y] 58)) from (Chg.refl [] w10).alloc _)
                have HOA := Lib.hid (rown_keep HO10.out HAL.out)
                have hkb : k < 3 := hk3
                go_upto_region 20 with (at_builtin
                                        refine wpList_append_own _ rfl (.tmp 79) (.tmp 81) _ rfl (gu + 1) 58 i0 _ 3 32 Tryz.underlying22 hi0 hz0 hz1 hz2 rfl (by decide) (.slice AF k cf) k (fnCs fl) rfl HOA.out ⟨w10.heap.size, 0, none⟩ 1 1 [.int .i32 nm, .int .i64 (a6 : Int), .string y] rfl rfl (cells_page _ _ _) (by simp [Value.oneCell']) (by simp only [maxLen]; omega) (by omega) (by have := HZ10.out; simp; omega) ?_
                                        intro v' w11 ho11 hg11 _
                                        obtain ⟨A11, c11, rfl, _⟩ := rown_slice ho11
                                        have HO11 := Lib.hid ho11
                                        have HG11 := Lib.hid hg11
                                        have HU11 := Lib.hid (whole_grown (HU10.out.keep HAL.out) HOA.out (by decide) hg11)
                                        have f2 := HU11.out.frozen 2
                                        have e2 := HU11.out.cell 2
                                        clear ho11 hg11)
                have HU12 := Lib.hid (show Whole (w11.setCell ⟨gu, 2, none⟩ (.slice A11 (k + 1) c11)) gu 24 [.int .i64 (pg : Int), .int .i64 ((pg : Int) + 1 + (q : Int)), .slice A11 (k + 1) c11] from by have := HU11.out.set_ 2 (.slice A11 (k + 1) c11); simpa using this)
                have HO12 := Lib.hid (show (w11.setCell ⟨gu, 2, none⟩ (.slice A11 (k + 1) c11)).ownsRow (gu + 1) 58 3 (.slice A11 (k + 1) c11) (k + 1) (fnCs (fl ++ [⟨nm, (a6 : Int), y⟩])) from by
                  rw [fnCs_app, fnCs_one]
                  exact rown_far (p := ⟨gu, 2, none⟩) (u := .slice A11 (k + 1) c11) HO11.out (fun hb => by have := (HO11.out.lt _ hb).1; simp only at this; omega))
                have HR12 := Lib.hid ((whole_grown (HR10.out.keep HAL.out) HOA.out (by decide) HG11.out).far (p := ⟨gu, 2, none⟩) (by simp only; have := HGU.out; have := HPP.out; omega) (.slice A11 (k + 1) c11))
                have HT12 := Lib.hid (HT10.out.imp fun j hj => ((hj.keep HAL.out).grown HOA.out HG11.out (by decide) (by have := HGU.out; omega)).other (g := gu) (j := 2) (by have := HGU.out; omega) (fun ad e h0 => by have := (hj.spot h0 ad e).2; have := HGU.out; omega) (.slice A11 (k + 1) c11))
                have HC12 := Lib.hid (show Chg [] w (w11.setCell ⟨gu, 2, none⟩ (.slice A11 (k + 1) c11)) from (chg_grown2 (HC10.out.new HAL.out) HG11.out (fun g hg => by have := (HOA.out.lt g hg).1; have := HGW.out; omega)).setCell (fun hh => by simp only at hh; have := HGW.out; omega) _)
                have HZ12 := Lib.hid (show gu + 1 ≤ (w11.setCell ⟨gu, 2, none⟩ (.slice A11 (k + 1) c11)).heap.size from by rw [size_set]; exact Nat.le_trans HZ10.out (Nat.le_trans HAL.out.size HG11.out.size))
                have HFL := Lib.hid (show fl.length = k from by have := HO7.out.1; rw [fnCs_len] at this; omega)
                generalize w11.setCell ⟨gu, 2, none⟩ (.slice A11 (k + 1) c11) = w12 at HU12 HO12 HR12 HT12 HC12 HZ12 ⊢
                clear f2 e2 HU11 HO11 HG11 HOA HAL x0 x1 x2 u2
                have HHF := Lib.hid (show ∀ f ∈ fl ++ [⟨nm, (a6 : Int), y⟩], 0 ≤ f.args ∧ f.args ≤ 2 from fun f hf => by
                  rcases List.mem_append.1 hf with hf | hf
                  · exact HG.out.args f hf
                  · rw [List.mem_singleton] at hf; subst hf; simp only; omega)
                have HHS := Lib.hid (show ∀ f ∈ fl ++ [⟨nm, (a6 : Int), y⟩], f.code.size ≤ 1000000 from fun f hf => by
                  rcases List.mem_append.1 hf with hf | hf
                  · have := HG.out.size f hf; omega
                  · rw [List.mem_singleton] at hf; subst hf; simp only; omega)
                obtain ⟨A', c', e', hFr⟩ := Fnr.of_own HO12.out (by omega) (fun f hf => by have := HHF.out f hf; omega)
                simp only [Value.slice.injEq, true_and] at e'
                obtain ⟨e1, e2⟩ := e'
                subst e1; subst e2
                have HFR := Lib.hid hFr
                clear hFr
                have u0 := HU12.out.cell 0
                have u1 := HU12.out.cell 1
                have u2 := HU12.out.cell 2
                have HRF := Lib.hid (show rFn (fl ++ [⟨nm, (a6 : Int), y⟩]) (k : Int) = rFunc (fl ++ [⟨nm, (a6 : Int), y⟩]) y from by
                  unfold rFn
                  rw [if_neg (by rw [List.length_append, List.length_singleton, HFL.out]; omega), show ((k : Int)).toNat = k from rfl, ← HFL.out]
                  simp)
                have HNX := Lib.hid (show ∀ z : ByteArray, z.size ≤ 1000 → (rFunc (fl ++ [⟨nm, (a6 : Int), z⟩]) z).1 = 0 → GoodU (fl ++ [⟨nm, (a6 : Int), z⟩]) from fun z hz h0 => HG.out.more (by rw [HFL.out]; omega) (by rw [HFL.out]; exact HNM.out) (by simp only; omega) hz h0)
                have hy1000 : y.size ≤ 1000 := by omega
                generalize hRR : rFn (fl ++ [⟨nm, (a6 : Int), y⟩]) (k : Int) = RR at HRF
                have HRR := Lib.hid hRR
                clear hRR
                go_wp2_with fail
                refine (rfunc_any HFR.out HHS.out (k : Int)).mono ?_
                rw [HRR.out]
                rintro e w13 ⟨vh, rfl, hoh, hc13⟩
                obtain ⟨AH, cH, rfl, _⟩ := own_slice hoh
                have HU13 := Lib.hid (HU12.out.keep hc13)
                have HO13 := Lib.hid (rown_keep HO12.out hc13)
                have HR13 := Lib.hid (HR12.out.keep hc13)
                have HT13 := Lib.hid (HT12.out.imp fun j hj => hj.keep hc13)
                have HC13 := Lib.hid (HC12.out.new hc13)
                have HZ13 := Lib.hid (Nat.le_trans HZ12.out hc13.size)
                clear hoh hc13 u0 u1 u2
                by_cases he : RR.1 = 0
                · have qe : (RR.1 != 0) = false := by simpa using he
                  have HG13 := Lib.hid (HNX.out y hy1000 (by rw [← HRF.out]; exact he))
                  clear he
                  go_wp2_with fail
                  go_roundw
                  case rel => exact ⟨k + 1, fl ++ [⟨nm, (a6 : Int), y⟩], _, by go_num, by omega, HU13, HT13, HO13, HG13, HR13, HC13, HZ13⟩
                  case measure => simp [intOf]; omega
                · have qe : (RR.1 != 0) = true := by simpa using he
                  clear he
                  have HG13 := Lib.hid (HNX.out one1 (by decide) (one1_ok _))
                  have u2 := HU13.out.cell 2
                  have hkl : (fl ++ [⟨nm, (a6 : Int), y⟩])[k]? = some ⟨nm, (a6 : Int), y⟩ := by rw [← HFL.out]; simp
                  obtain ⟨gf, e, y2⟩ := rown_cell HO13.out rfl ((fnCs_get _ k _ 2 hkl (by omega)).trans rfl)
                  subst e
                  have z2 := rown_frozen (j := k * 3 + 2) HO13.out
                  have hgf := (HO13.out.lt gf rfl).1
                  have hkI3 : (k : Int) < (k : Int) + 1 := by omega
                  have HO14 := Lib.hid (show (w13.setCell ⟨gf, k * 3 + 2, none⟩ (.string ⟨#[97, 32, 49, 43]⟩)).ownsRow (gu + 1) 58 3 (.slice (some ⟨gf, 0, none⟩) (k + 1) c11) (k + 1) (fnCs (fl ++ [⟨nm, (a6 : Int), one1⟩])) from by
                    have h := rown_set (j := k * 3 + 2) (u := .string ⟨#[97, 32, 49, 43]⟩) HO13.out
                    have e : (fnCs (fl ++ [⟨nm, (a6 : Int), y⟩])).set (k * 3 + 2) (.string ⟨#[97, 32, 49, 43]⟩) = fnCs (fl ++ [⟨nm, (a6 : Int), one1⟩]) := by
                      rw [fnCs_app, fnCs_app, List.set_append_right _ _ (by rw [fnCs_len, HFL.out]; omega), fnCs_len, HFL.out, show k * 3 + 2 - k * 3 = 2 from by omega]
                      rfl
                    rw [e] at h
                    exact h)
                  have HU14 := Lib.hid (HU13.out.far (p := ⟨gf, k * 3 + 2, none⟩) (by simp only; omega) (.string ⟨#[97, 32, 49, 43]⟩))
                  have HR14 := Lib.hid (HR13.out.far (p := ⟨gf, k * 3 + 2, none⟩) (by simp only; have := HGU.out; have := HPP.out; omega) (.string ⟨#[97, 32, 49, 43]⟩))
                  have HT14 := Lib.hid (HT13.out.imp fun j hj => hj.other (g := gf) (j := k * 3 + 2) (by have := HGU.out; omega) (fun ad e h0 => by have := (hj.spot h0 ad e).2; have := HGU.out; omega) (.string ⟨#[97, 32, 49, 43]⟩))
                  have HC14 := Lib.hid (HC13.out.setCell (p := ⟨gf, k * 3 + 2, none⟩) (fun hh => by simp only at hh; have := HGW.out; omega) (.string ⟨#[97, 32, 49, 43]⟩))
                  have HZ14 := Lib.hid (show gu + 1 ≤ (w13.setCell ⟨gf, k * 3 + 2, none⟩ (.string ⟨#[97, 32, 49, 43]⟩)).heap.size from by rw [size_set]; exact HZ13.out)
                  clear hkl
                  go_wp2_with fail
                  go_roundw
                  case rel => exact ⟨k + 1, fl ++ [⟨nm, (a6 : Int), one1⟩], _, by go_num, by omega, HU14, HT14, HO14, HG13, HR14, HC14, HZ14⟩
                  case measure => simp [intOf]; omega
      · have hkI : 1 + (r6 : Int) ≤ (k : Int) := by omega
        obtain ⟨AF, cf, rfl, _⟩ := rown_slice HO6.out
        have u0 := HU6.out.cell 0
        have u1 := HU6.out.cell 1
        have u2 := HU6.out.cell 2
        have v0 := HR6.out.cell 0
        have v1 := HR6.out.cell 1
        have v2 := HR6.out.cell 2
        have f0 := HR6.out.frozen 0
        have f1 := HR6.out.frozen 1
        have f2 := HR6.out.frozen 2
        go_wp2_with fail
        have HP := Lib.hid (show UnitPost w (.returned (.agg #[.int .i64 (pg : Int), .int .i64 ((pg : Int) + 1 + (q : Int)), .slice AF k cf])) (((w6.setCell ⟨g2, 0, none⟩ (.int .i64 (pg : Int))).setCell ⟨g2, 1, none⟩ (.int .i64 ((pg : Int) + 1 + (q : Int)))).setCell ⟨g2, 2, none⟩ (.slice AF k cf)) from by
          have hfl : fl.length = k := by have := HO6.out.1; rw [fnCs_len] at this; omega
          have haw : ∀ b, (Value.slice AF k cf).ownBlock = some b → b ≠ g2 := fun b hb => by have := (HO6.out.lt b hb).1; have := HGU.out; have := HPP.out; omega
          have ho := rown_far (p := ⟨g2, 2, none⟩) (u := .slice AF k cf) (rown_far (p := ⟨g2, 1, none⟩) (u := .int .i64 ((pg : Int) + 1 + (q : Int))) (rown_far (p := ⟨g2, 0, none⟩) (u := .int .i64 (pg : Int)) HO6.out (fun hb => haw _ hb rfl)) (fun hb => haw _ hb rfl)) (fun hb => haw _ hb rfl)
          refine ⟨_, _, _, fl, rfl, by omega, by omega, by omega, by omega, ?_, HG.out, by omega, ?_⟩
          · rw [hfl]
            exact own_more_n ho (by have := HGW.out; omega)
          · exact ((HC6.out.setCell (fun hh => by simp at hh; have := HG2.out; omega) _).setCell (fun hh => by simp at hh; have := HG2.out; omega) _).setCell (fun hh => by simp at hh; have := HG2.out; omega) _)
        have hRf := ((HR6.out.set_ 0 (.int .i64 (pg : Int))).set_ 1 (.int .i64 ((pg : Int) + 1 + (q : Int)))).set_ 2 (.slice AF k cf)
        have e0 := hRf.cell 0
        have e1 := hRf.cell 1
        have e2 := hRf.cell 2
        clear hRf
        generalize ((w6.setCell ⟨g2, 0, none⟩ (.int .i64 (pg : Int))).setCell ⟨g2, 1, none⟩ (.int .i64 ((pg : Int) + 1 + (q : Int)))).setCell ⟨g2, 2, none⟩ (.slice AF k cf) = wf at HP e0 e1 e2 ⊢
        simp only [List.set_cons_zero, List.set_cons_succ, List.getElem?_cons_zero, List.getElem?_cons_succ] at e0 e1 e2
        refine bodyPost_ret (v := .agg #[.int .i64 (pg : Int), .int .i64 ((pg : Int) + 1 + (q : Int)), .slice AF k cf]) (by simp [results, Tryz.results10, go_sem, e0, e1, e2]) rfl HP.out
end
end Go.Proofs.YtbkfhndmeljlcaaGreatDoor
