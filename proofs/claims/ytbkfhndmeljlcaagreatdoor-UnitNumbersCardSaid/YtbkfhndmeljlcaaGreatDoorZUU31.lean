/-
  UU: Odds, DTurns, ChkPure.
-/
import Derived.Test.YtbkfhndmeljlcaaGreatDoorZUU1
import Derived.Test.YtbkfhndmeljlcaaGreatDoorZUU3
import Derived.Test.YtbkfhndmeljlcaaGreatDoorZUU5
import Derived.Test.YtbkfhndmeljlcaaGreatDoorZUU7
import Derived.Test.YtbkfhndmeljlcaaGreatDoorZUU8
import Derived.Test.YtbkfhndmeljlcaaGreatDoorZUU19
import Derived.Test.YtbkfhndmeljlcaaGreatDoorZUU20
import Derived.Test.YtbkfhndmeljlcaaGreatDoorZUU28
import Derived.Test.YtbkfhndmeljlcaaGreatDoorZUU30
import Derived.Deep.DeepCutAuto
import Derived.Deep.QuietTactic
import Derived.BigQuiet
namespace Go.Proofs.YtbkfhndmeljlcaaGreatDoor
open Go.RowKit
def turnCs : List TurnV → List Value
  | [] => []
  | t :: l => turnC t ++ turnCs l
theorem turnCs_len : ∀ l, (turnCs l).length = l.length * 5
  | [] => rfl
  | t :: l => by rw [turnCs, List.length_append, turnCs_len l]; simp [turnC]; omega
theorem turnCs_get : ∀ (l : List TurnV) (k : Nat) (t : TurnV) (j : Nat), l[k]? = some t → j < 5 → (turnCs l)[k * 5 + j]? = (turnC t)[j]?
  | [], k, t, j, h, hj => by simp at h
  | u :: l, 0, t, j, h, hj => by
    simp at h; subst h
    rw [turnCs, List.getElem?_append_left (by simp [turnC]; omega)]
    congr 1; omega
  | u :: l, k + 1, t, j, h, hj => by
    simp at h
    rw [turnCs, List.getElem?_append_right (by simp [turnC]; omega)]
    rw [← turnCs_get l k t j h hj]
    congr 1; simp [turnC]; omega
/-- The slice value '.slice A n c' is the turns l. -/
structure Trn (W : World) (A : Option Addr) (n : Nat) (l : List TurnV) : Prop where
  len : l.length = n
  src : Src W A (turnCs l)
  spot : 0 < n → ∀ ad, A = some ad → ad.spot = none
  ok : ∀ t ∈ l, TurnOk t
theorem Trn.keep {W W' : World} {A : Option Addr} {n : Nat} {l : List TurnV} (h : Trn W A n l) (hc : Chg [] W W') : Trn W' A n l := ⟨h.len, h.src.keep hc, h.spot, h.ok⟩
theorem Trn.cell {W : World} {A : Option Addr} {n : Nat} {l : List TurnV} (h : Trn W A n l) {k : Nat} {t : TurnV} (hk : l[k]? = some t) : ∃ b o, A = some ⟨b, o, none⟩ ∧ b < W.heap.size ∧ W.cell? ⟨b, o + k * 5, none⟩ = some (.int .i64 t.what) ∧ W.cell? ⟨b, o + k * 5 + 1, none⟩ = some (.int .i64 t.func) ∧ W.cell? ⟨b, o + k * 5 + 2, none⟩ = some (.int .i64 t.at_) ∧ W.cell? ⟨b, o + k * 5 + 3, none⟩ = some (.int .i64 t.n) ∧ W.cell? ⟨b, o + k * 5 + 4, none⟩ = some (.string t.text) := by
  have hkl := (List.getElem?_eq_some_iff.1 hk).1
  obtain ⟨⟨b, o, s⟩, e, hb, hx⟩ := h.src (by rw [turnCs_len]; omega)
  obtain rfl : s = none := h.spot (by have := h.len; omega) _ e
  refine ⟨b, o, e, hb, ?_, ?_, ?_, ?_, ?_⟩
  · have := hx _ _ ((turnCs_get l k t 0 hk (by omega)).trans rfl); rwa [add_plain] at this
  · have := hx _ _ ((turnCs_get l k t 1 hk (by omega)).trans rfl); rwa [add_plain] at this
  · have := hx _ _ ((turnCs_get l k t 2 hk (by omega)).trans rfl); rwa [add_plain] at this
  · have := hx _ _ ((turnCs_get l k t 3 hk (by omega)).trans rfl); rwa [add_plain] at this
  · have := hx _ _ ((turnCs_get l k t 4 hk (by omega)).trans rfl); rwa [add_plain] at this
/-- A row of functions stays, if another block is written. -/
theorem Fnr.besides {W : World} {A : Option Addr} {n c : Nat} {l : List FnV} (h : Fnr W A n c l) {p : Addr} (hp : ∀ ad, A = some ad → ad.block ≠ p.block) (u : Value) : Fnr (W.setCell p u) A n c l := by
  refine ⟨h.len, fun h0 => ?_, h.cap, h.max, h.spot, h.args⟩
  obtain ⟨ad, e, hb, hx⟩ := h.src h0
  refine ⟨ad, e, by rw [size_set]; exact hb, fun j v hj => ?_⟩
  have e2 : (ad.add j).block = ad.block := by unfold Addr.add; split <;> rfl
  rw [← hx j v hj]
  exact World.cell?_of_block (w := W) (Below.heap_setCell W p u _ (by rw [e2]; exact hp ad e))
def Ranged (x : Int) : Prop := -9223372036854775808 ≤ x ∧ x ≤ 9223372036854775807
def OddsPost (w : World) (e : Ending) (w' : World) : Prop :=
  ∃ (pg ms : Int) (A : Option Addr) (n c : Nat) (l : List FnV), e = .returned (.agg #[.int .i64 pg, .int .i64 ms, .slice A n c]) ∧ Ranged pg ∧ Ranged ms ∧ Fnr w' A n c l ∧ Oddly 4 l ∧ Chg [] w w'
/-- What goes round in Odd: a program that lies besides two blocks. -/
structure OdR (w W : World) (g gr : Nat) (pg ms : Int) (A : Option Addr) (n c : Nat) (l : List FnV) : Prop where
  u : Whole W g 24 [.int .i64 pg, .int .i64 ms, .slice A n c]
  r : Whole W gr 24 [.int .i64 0, .int .i64 0, .slice none 0 0]
  f : Fnr W A n c l
  a : ∀ ad, A = some ad → ad.block ≠ g ∧ ad.block ≠ gr
  p : Ranged pg
  m : Ranged ms
  c : Chg [] w W
  z : w.heap.size ≤ g ∧ g < gr ∧ gr < W.heap.size
theorem OdR.keep {w W W' : World} {g gr : Nat} {pg ms : Int} {A : Option Addr} {n c : Nat} {l : List FnV} (h : OdR w W g gr pg ms A n c l) (hc : Chg [] W W') : OdR w W' g gr pg ms A n c l :=
  ⟨h.u.keep hc, h.r.keep hc, h.f.keep hc, h.a, h.p, h.m, h.c.new hc, by have := h.z; have := hc.size; omega⟩
theorem OdR.turn {w W W' : World} {g gr : Nat} {pg ms pg' ms' : Int} {A : Option Addr} {n c : Nat} {l l' : List FnV} {v : Value} {q : Nat} (h : OdR w W g gr pg ms A n c l) (hc : Chg [] W W') (hp : Ranged pg') (hm : Ranged ms') (ho : W'.ownsRow W.heap.size 58 3 v l'.length (fnCs l')) (hO : Oddly q l') (hq : q ≤ 4) :
    ∃ A' c', v = .slice A' l'.length c' ∧ OdR w (((W'.setCell ⟨g, 0, none⟩ (.int .i64 pg')).setCell ⟨g, 1, none⟩ (.int .i64 ms')).setCell ⟨g, 2, none⟩ v) g gr pg' ms' A' l'.length c' l' := by
  have hz := h.z
  obtain ⟨A', c', rfl, hF⟩ := Fnr.of_own ho (by have := hO.few; omega) (fun f hf => (hO.fn f hf).1)
  have ha : ∀ ad, A' = some ad → ad.block ≠ g ∧ ad.block ≠ gr := fun ad e => by
    subst e
    obtain ⟨_, _, e', _, _, hb⟩ := rown_slice ho
    injection e' with e1 _ _
    have := (hb ad e1.symm).2.1
    omega
  refine ⟨A', c', rfl, ?_, ((h.r.keep hc).far (by simp only; omega) _ |>.far (by simp only; omega) _).far (by simp only; omega) _, ((hF.besides (fun ad e => (ha ad e).1) _).besides (fun ad e => (ha ad e).1) _).besides (fun ad e => (ha ad e).1) _, ha, hp, hm, ?_, ?_⟩
  · have := (((h.u.keep hc).set_ 0 (.int .i64 pg')).set_ 1 (.int .i64 ms')).set_ 2 (.slice A' l'.length c')
    simpa using this
  · exact (((h.c.new hc).setCell (fun hh => by simp only at hh; omega) _).setCell (fun hh => by simp only at hh; omega) _).setCell (fun hh => by simp only at hh; omega) _
  · rw [size_set, size_set, size_set]; have := hc.size; omega
theorem OdR.start {w : World} {A : Option Addr} {n c : Nat} {l : List FnV} {pg ms : Int} (hF : Fnr w A n c l) (hpg : Ranged pg) (hms : Ranged ms) (hsm : ∀ ad, A = some ad → ad.block < w.heap.size) :
    OdR w ((w.alloc (.cells #[.int .i64 pg, .int .i64 ms, .slice A n c] 24)).alloc (.cells #[.int .i64 0, .int .i64 0, .slice none 0 0] 24)) w.heap.size (w.heap.size + 1) pg ms A n c l := by
  have h1 := Whole.new w 24 [.int .i64 pg, .int .i64 ms, .slice A n c]
  have c1 := (Chg.refl [] w).alloc (.cells #[.int .i64 pg, .int .i64 ms, .slice A n c] 24)
  have z1 : (w.alloc (.cells #[.int .i64 pg, .int .i64 ms, .slice A n c] 24)).heap.size = w.heap.size + 1 := Array.size_push _
  generalize w.alloc (.cells #[.int .i64 pg, .int .i64 ms, .slice A n c] 24) = w1 at *
  have h2 := Whole.new w1 24 [.int .i64 0, .int .i64 0, .slice none 0 0]
  have c2 := (Chg.refl [] w1).alloc (.cells #[.int .i64 0, .int .i64 0, .slice none 0 0] 24)
  have z2 : (w1.alloc (.cells #[.int .i64 0, .int .i64 0, .slice none 0 0] 24)).heap.size = w1.heap.size + 1 := Array.size_push _
  rw [z1] at h2
  exact ⟨h1.keep c2, h2, (hF.keep c1).keep c2, fun ad e => by have := hsm ad e; omega, hpg, hms, c1.new c2, by omega⟩
theorem OdR.ret {w W : World} {g gr : Nat} {pg ms : Int} {A : Option Addr} {n c : Nat} {l : List FnV} (h : OdR w W g gr pg ms A n c l) (hO : Oddly 4 l) :
    Hid (OddsPost w (.returned (.agg #[.int .i64 pg, .int .i64 ms, .slice A n c])) (((W.setCell ⟨gr, 0, none⟩ (.int .i64 pg)).setCell ⟨gr, 1, none⟩ (.int .i64 ms)).setCell ⟨gr, 2, none⟩ (.slice A n c))) ∧
      Hid (Whole (((W.setCell ⟨gr, 0, none⟩ (.int .i64 pg)).setCell ⟨gr, 1, none⟩ (.int .i64 ms)).setCell ⟨gr, 2, none⟩ (.slice A n c)) gr 24 [.int .i64 pg, .int .i64 ms, .slice A n c]) := by
  have hz := h.z
  refine ⟨Lib.hid ⟨pg, ms, A, n, c, l, rfl, h.p, h.m, ((h.f.besides (fun ad e => (h.a ad e).2) _).besides (fun ad e => (h.a ad e).2) _).besides (fun ad e => (h.a ad e).2) _, hO, ((h.c.setCell (fun hh => by simp only at hh; omega) _).setCell (fun hh => by simp only at hh; omega) _).setCell (fun hh => by simp only at hh; omega) _⟩, Lib.hid ?_⟩
  have := ((h.r.set_ 0 (.int .i64 pg)).set_ 1 (.int .i64 ms)).set_ 2 (.slice A n c)
  simpa using this
section
variable {w : World} {A : Option Addr} {n c : Nat} {l : List FnV} {pg ms : Int} {TA : Option Addr} {tn tc : Nat} {ts : List TurnV}
set_option maxHeartbeats 4000000 in
set_option maxRecDepth 100000 in
theorem odds_any (hF : Fnr w A n c l) (hO : Oddly 0 l) (hpg : Ranged pg) (hms : Ranged ms) (hsm : 0 < n → ∀ ad, A = some ad → ad.block < w.heap.size) (hT : Trn w TA tn ts) (htn : tn ≤ 9223372036854775807) :
    Calls Tryz.prog 17 #[unitV pg ms A n c, .slice TA tn tc] w (OddsPost w) := by
  unfold unitV
  have HF := Lib.hid hF
  have HO := Lib.hid hO
  have HT := Lib.hid hT
  have HPM := Lib.hid (And.intro hpg hms)
  have HSM := Lib.hid hsm
  clear hF hO hT hpg hms hsm
  go_enter Tryz.func17, Tryz.ntmps17
  go_upto_region 1 with fail
  have HR := Lib.hid (OdR.start HF.out HPM.out.1 HPM.out.2 (fun ad e => HSM.out (by have := HO.out.pos; have := HF.out.len; omega) ad e))
  have HTk := Lib.hid (HT.out.keep (HR.out.c))
  obtain ⟨g, hg⟩ : ∃ g, g = w.heap.size := ⟨_, rfl⟩
  obtain ⟨gr, hgr⟩ : ∃ gr, gr = w.heap.size + 1 := ⟨_, rfl⟩
  rw [← hgr, ← hg] at HR
  rw [← hgr, ← hg]
  have HTG := Lib.hid (show 0 < tn → ∀ ad, TA = some ad → ad.block ≠ g from fun h0 ad e => by
    obtain ⟨ad', e', hb, _⟩ := HT.out.src (by rw [turnCs_len]; have := HT.out.len; omega)
    rw [e] at e'
    injection e' with e'
    subst e'
    omega)
  have HG := Lib.hid (show w.heap.size ≤ g ∧ w.heap.size ≤ gr from by omega)
  generalize (w.alloc (.cells #[.int .i64 pg, .int .i64 ms, .slice A n c] 24)).alloc (.cells #[.int .i64 0, .int .i64 0, .slice none 0 0] 24) = w2 at HR HTk ⊢
  clear hg hgr HPM HSM
  have htsp := HTk.out.spot
  go_wp2_with fail
  go_loopw [5] (fun i wr => ∃ (k : Nat) (pg ms : Int) (A : Option Addr) (n c : Nat) (l : List FnV), i = .int .i64 (k : Int) ∧ k ≤ 4 ∧ Hid (OdR w wr g gr pg ms A n c l) ∧ Hid (Oddly k l) ∧ Hid (Trn wr TA tn ts) ∧ Hid (0 < tn → ∀ ad, TA = some ad → ad.block ≠ g)) (fun i _ => 4 - (intOf i).toNat)
  case atStart => exact ⟨0, pg, ms, A, n, c, l, rfl, by omega, HR, HO, HTk, HTG⟩
  case round =>
    clear HR HTk HO HF HT
    obtain ⟨k, pg, ms, A, n, c, l, rfl, hk, HR, HO, HT, HTG⟩ := hrel
    by_cases hgo : k < tn ∧ k < 4
    · obtain ⟨hktn, hk4⟩ := hgo
      have hI1 : (k : Int) < (tn : Int) := by omega
      have hI2 : (k : Int) < 4 := by omega
      obtain ⟨t, htk⟩ : ∃ t, ts[k]? = some t := ⟨ts[k]'(by rw [HT.out.len]; exact hktn), by simp⟩
      obtain ⟨b, o, rfl, hb, t0, t1, t2, t3, t4⟩ := HT.out.cell htk
      have HTO := Lib.hid (HT.out.ok t (List.mem_of_getElem? htk))
      have HBG := Lib.hid (show b ≠ g from HTG.out (by omega) _ rfl)
      obtain ⟨tw, tf, ta, tnn, tx⟩ := t
      simp only at t0 t1 t2 t3 t4
      have u0 := HR.out.u.cell 0
      have u1 := HR.out.u.cell 1
      have u2 := HR.out.u.cell 2
      clear htk hb
      go_upto_region 4 with fail
      have HRd := Lib.hid (HR.out.keep (Chg.refl [] wr).drew)
      have HTd := Lib.hid (HT.out.keep (Chg.refl [] wr).drew)
      go_still_tail 5, (by kernel_rfl)
      change wpList _ _ _ _ _ wr.drew
      generalize wr.drew = w3 at HRd HTd ⊢
      go_wp2_with fail
      refine (odd_any HRd.out.f HO.out hk4 HRd.out.p HRd.out.m ⟨tw, tf, ta, tnn, tx⟩ HTO.out).mono ?_
      rintro e w4 ⟨pg', ms', v, l', rfl, hp', hm', ho', hO', hc'⟩
      obtain ⟨A', c', rfl, hR'⟩ := HRd.out.turn hc' hp' hm' ho' hO' (by omega)
      have HR' := Lib.hid hR'
      have HO' := Lib.hid hO'
      have HC' := Lib.hid hc'
      have HU' := Lib.hid (HRd.out.u.keep hc')
      clear hR' hO' hc' ho' u0 u1 u2 hp' hm'
      have u0 := HU'.out.cell 0
      have u1 := HU'.out.cell 1
      have u2 := HU'.out.cell 2
      have f0 := HU'.out.frozen 0
      have f1 := HU'.out.frozen 1
      have f2 := HU'.out.frozen 2
      have HT' := Lib.hid (show Trn (((w4.setCell ⟨g, 0, none⟩ (.int .i64 pg')).setCell ⟨g, 1, none⟩ (.int .i64 ms')).setCell ⟨g, 2, none⟩ (.slice A' l'.length c')) (some ⟨b, o, none⟩) tn ts from by
        have h := HTd.out.keep HC'.out
        refine ⟨h.len, fun h0 => ?_, h.spot, h.ok⟩
        obtain ⟨ad, e, hb', hx⟩ := h.src h0
        injection e with e
        subst e
        refine ⟨_, rfl, by simp only [size_set]; exact hb', fun j v hj => ?_⟩
        rw [← hx j v hj, add_plain]
        have hbg : b ≠ g := HBG.out
        have hh : ((((w4.setCell ⟨g, 0, none⟩ (.int .i64 pg')).setCell ⟨g, 1, none⟩ (.int .i64 ms')).setCell ⟨g, 2, none⟩ (.slice A' l'.length c')).heap[b]?) = w4.heap[b]? := by
          rw [Below.heap_setCell _ _ _ _ hbg, Below.heap_setCell _ _ _ _ hbg, Below.heap_setCell _ _ _ _ hbg]
        exact World.cell?_of_block (w := w4) hh)
      go_wp2_with fail
      go_roundw
      case rel => exact ⟨k + 1, pg', ms', A', l'.length, c', l', by go_num, by omega, HR', HO', HT', HTG⟩
      case measure => simp [intOf]; omega
    · by_cases h1 : k < tn
      · have hI1 : (k : Int) < (tn : Int) := by omega
        have hI2 : (4 : Int) ≤ (k : Int) := by omega
        have ⟨HP, hWf⟩ := HR.out.ret (HO.out.more hk)
        have v0 := HR.out.u.cell 0
        have v1 := HR.out.u.cell 1
        have v2 := HR.out.u.cell 2
        have r0 := HR.out.r.cell 0
        have r1 := HR.out.r.cell 1
        have r2 := HR.out.r.cell 2
        have f0 := HR.out.r.frozen 0
        have f1 := HR.out.r.frozen 1
        have f2 := HR.out.r.frozen 2
        go_wp2_with fail
        have e0 := hWf.out.cell 0
        have e1 := hWf.out.cell 1
        have e2 := hWf.out.cell 2
        generalize ((wr.setCell ⟨gr, 0, none⟩ (.int .i64 pg)).setCell ⟨gr, 1, none⟩ (.int .i64 ms)).setCell ⟨gr, 2, none⟩ (.slice A n c) = wf at HP e0 e1 e2 ⊢
        simp only [List.getElem?_cons_zero, List.getElem?_cons_succ] at e0 e1 e2
        refine bodyPost_ret (v := .agg #[.int .i64 pg, .int .i64 ms, .slice A n c]) (by simp [results, Tryz.results17, go_sem, e0, e1, e2]) rfl HP.out
      · have hI1 : (tn : Int) ≤ (k : Int) := by omega
        have ⟨HP, hWf⟩ := HR.out.ret (HO.out.more hk)
        have v0 := HR.out.u.cell 0
        have v1 := HR.out.u.cell 1
        have v2 := HR.out.u.cell 2
        have r0 := HR.out.r.cell 0
        have r1 := HR.out.r.cell 1
        have r2 := HR.out.r.cell 2
        have f0 := HR.out.r.frozen 0
        have f1 := HR.out.r.frozen 1
        have f2 := HR.out.r.frozen 2
        go_wp2_with fail
        have e0 := hWf.out.cell 0
        have e1 := hWf.out.cell 1
        have e2 := hWf.out.cell 2
        generalize ((wr.setCell ⟨gr, 0, none⟩ (.int .i64 pg)).setCell ⟨gr, 1, none⟩ (.int .i64 ms)).setCell ⟨gr, 2, none⟩ (.slice A n c) = wf at HP e0 e1 e2 ⊢
        simp only [List.getElem?_cons_zero, List.getElem?_cons_succ] at e0 e1 e2
        refine bodyPost_ret (v := .agg #[.int .i64 pg, .int .i64 ms, .slice A n c]) (by simp [results, Tryz.results17, go_sem, e0, e1, e2]) rfl HP.out
end
end Go.Proofs.YtbkfhndmeljlcaaGreatDoor
namespace Go.Proofs.YtbkfhndmeljlcaaGreatDoor
open Go.RowKit Go.ChangeShapes Go.WideShapes Go.Deep
theorem turn_fields : ∃ fs, Tryz.prog.underlying 84 = some (.struct fs) ∧ oneCellFields Tryz.prog fs = true ∧ fs.map (·.type) = #[3, 3, 3, 3, 9] :=
  ⟨_, Tryz.underlying84, by kernel_rfl, by kernel_rfl⟩
theorem five_list {α : Type} {l : List α} (h : l.length = 5) : ∃ a b c d e, l = [a, b, c, d, e] := by
  match l, h with
  | [a, b, c, d, e], _ => exact ⟨a, b, c, d, e, rfl⟩
section
variable {H : Type} {enc : TypeId × Value → H} {w : World} {base : Nat} {held : Bool}
theorem turns_open {fuel : Nat} {cs : List Value} {x : DataW H × List MemPlace} (h : DataW.trod enc Tryz.prog w base (fun _ => true) held fuel 35 cs = some x) (v : Value) (hv : cs = [v]) :
    ∃ A n c l, v = .slice A n c ∧ Trn w A n l ∧ n ≤ c ∧ c ≤ maxLen := by
  obtain ⟨fs, hu, hone, hty⟩ := turn_fields
  have hfs : fs.size = 5 := by have := congrArg Array.size hty; simpa using this
  obtain ⟨A, n, c, rfl, hnc, hcm, hrow⟩ := rows_open Tryz.underlying35 hu hone hfs (by kernel_rfl) h v hv
  have key : ∀ i, i < n → ∃ q : TurnV, TurnOk q ∧ ∃ a, A = some a ∧ ∀ j u, (turnC q)[j]? = some u → w.cell? ((a.add (i * 5)).add j) = some u := by
    intro i hi
    obtain ⟨a, us, rfl, hl, hc, hf⟩ := hrow i hi
    obtain ⟨v0, v1, v2, v3, v4, rfl⟩ := five_list hl
    obtain ⟨f0, g0, t0⟩ := rfield_at hty 0 _ rfl
    obtain ⟨f1, g1, t1⟩ := rfield_at hty 1 _ rfl
    obtain ⟨f2, g2, t2⟩ := rfield_at hty 2 _ rfl
    obtain ⟨f3, g3, t3⟩ := rfield_at hty 3 _ rfl
    obtain ⟨f4, g4, t4⟩ := rfield_at hty 4 _ rfl
    obtain ⟨_, _, q0⟩ := hf 0 _ _ g0 rfl
    obtain ⟨_, _, q1⟩ := hf 1 _ _ g1 rfl
    obtain ⟨_, _, q2⟩ := hf 2 _ _ g2 rfl
    obtain ⟨_, _, q3⟩ := hf 3 _ _ g3 rfl
    obtain ⟨_, _, q4⟩ := hf 4 _ _ g4 rfl
    rw [t0] at q0; rw [t1] at q1; rw [t2] at q2; rw [t3] at q3; rw [t4] at q4
    obtain ⟨z0, e0, _, w0⟩ := DataW.trod_int Tryz.underlying3 q0
    obtain ⟨z1, e1, _, w1⟩ := DataW.trod_int Tryz.underlying3 q1
    obtain ⟨z2, e2, _, w2⟩ := DataW.trod_int Tryz.underlying3 q2
    obtain ⟨z3, e3, _, w3⟩ := DataW.trod_int Tryz.underlying3 q3
    obtain ⟨s4, e4, _, w4⟩ := DataW.trod_string Tryz.underlying9 q4
    simp only [List.cons.injEq, and_true] at e0 e1 e2 e3 e4
    subst e0 e1 e2 e3 e4
    exact ⟨⟨z0, z1, z2, z3, s4⟩, ⟨arg_i64 w0, arg_i64 w1, arg_i64 w2, arg_i64 w3, w4⟩, a, rfl, hc⟩
  obtain ⟨l, hll, hlx⟩ := dlist_of n key
  obtain ⟨hsrc, hsp⟩ := rows_src (C := turnC) (Cs := turnCs) rfl (fun _ _ => rfl) (fun _ => rfl) (fun _ => ⟨_, _, rfl⟩) hll (fun i x hx => (hlx i x hx).2)
  refine ⟨A, n, c, l, rfl, ⟨hll, hsrc, hsp, fun q hq => ?_⟩, hnc, hcm⟩
  obtain ⟨i, hi, rfl⟩ := List.getElem_of_mem hq
  exact (hlx i _ (List.getElem?_eq_getElem hi)).1
end
end Go.Proofs.YtbkfhndmeljlcaaGreatDoor
namespace Go.Proofs.YtbkfhndmeljlcaaGreatDoor
open Go.RowKit
theorem callA_add (l m : List FnV) (name : Int) (h : (callA l name).2.2 = true) : callA (l ++ m) name = callA l name := by
  unfold callA at h ⊢
  cases hk : findK name l 0 with
  | none => rw [hk] at h; simp at h
  | some k =>
    rw [findK_add l m 0 k hk]
    simp only
    obtain ⟨f, _, hf, _⟩ := findK_at hk
    rw [Nat.sub_zero] at hf
    rw [List.getElem?_append_left (List.getElem?_eq_some_iff.1 hf).1]
theorem rTakes_add (l m : List FnV) (s name : Int) (h : (rTakes l s name).2.2 = true) : rTakes (l ++ m) s name = rTakes l s name := by
  unfold rTakes at h ⊢
  by_cases h955 : s = 955
  · subst h955
    exact callA_add l m name h
  · repeat' split
    all_goals first | rfl | (rename_i hh; exact absurd hh h955)
theorem rTok_add (l m : List FnV) (h : Int) (bs : List BkV) (s name : Int) (he : (rTok l h bs s name).1 = 0) : rTok (l ++ m) h bs s name = rTok l h bs s name := by
  by_cases hs : isEnd s
  · unfold rTok; rw [if_pos hs, if_pos hs]
  · unfold rTok at he ⊢
    rw [if_neg hs] at he
    rw [if_neg hs, if_neg hs]
    by_cases h0 : h < 0
    · rw [if_pos h0, if_pos h0]
    · rw [if_neg h0] at he
      rw [if_neg h0, if_neg h0]
      cases ht : rTakes l s name with
      | mk p r =>
        obtain ⟨q, ok⟩ := r
        rw [ht] at he
        cases ok with
        | false => simp at he
        | true => rw [rTakes_add l m s name (by rw [ht]), ht]
theorem rWalk_add (l m : List FnV) : ∀ (ts : List TkV) (h : Int) (bs : List BkV) (out : List Int), (rWalk l ts h bs out).1 = 0 → rWalk (l ++ m) ts h bs out = rWalk l ts h bs out
  | [], h, bs, out, _ => by rw [rWalk, rWalk]
  | t :: ts, h, bs, out, he => by
    rw [rWalk_next] at he
    rw [rWalk_next, rWalk_next]
    by_cases h0 : (rTok l h bs t.sign t.name).1 = 0
    · rw [if_pos h0] at he
      rw [rTok_add l m h bs t.sign t.name h0, if_pos h0, if_pos h0]
      exact rWalk_add l m ts _ _ _ he
    · rw [if_neg h0] at he
      exact absurd he h0
theorem rFunc_add (l m : List FnV) (code : ByteArray) (he : (rFunc l code).1 = 0) : rFunc (l ++ m) code = rFunc l code := by
  unfold rFunc at he ⊢
  cases ht : tokR code with
  | none => rfl
  | some ts =>
    rw [ht] at he
    simp only at he ⊢
    cases hn : rNest (signs ts) with
    | none => rfl
    | some R => rw [hn] at he; exact rWalk_add l m ts 0 [] [] he
theorem GoodU.func {l : List FnV} (h : GoodU l) {k : Nat} {f : FnV} (hk : l[k]? = some f) : (rFunc l f.code).1 = 0 ∧ rFn l (k : Int) = rFunc l f.code := by
  obtain ⟨_, _, _, _, h0⟩ := h.fn k f hk
  have hlt := (List.getElem?_eq_some_iff.1 hk).1
  have e := rFunc_add (l.take (k + 1)) (l.drop (k + 1)) f.code h0
  rw [List.take_append_drop] at e
  refine ⟨by rw [e]; exact h0, ?_⟩
  unfold rFn
  rw [if_neg (by omega), show ((k : Int)).toNat = k from rfl, hk]
end Go.Proofs.YtbkfhndmeljlcaaGreatDoor
