/-
  GL: Odds.
-/
import Derived.Test.YtodbeeodhekpeaaDoorZGL34
namespace Go.Proofs.YtodbeeodhekpeaaDoor
open Go.RowKit
def turnCs : List TurnV → List Value
  | [] => []
  | t :: l => turnC t ++ turnCs l
theorem turnCs_len : ∀ l, (turnCs l).length = l.length * 5
  | [] => rfl
  | t :: l => by rw [turnCs, List.length_append, turnCs_len l]; simp [turnC]; omega
theorem turnCs_get : ∀ (l : List TurnV) (k : Nat) (t : TurnV) (j : Nat), l[k]? = some t → j < 5 → (turnCs l)[k * 5 + j]? = (turnC t)[j]?
  | [], k, t, j, h, hj => by simp at h
  | u :: l, 0, t, j, h, hj => by
    simp at h; subst h
    rw [turnCs, List.getElem?_append_left (by simp [turnC]; omega)]
    congr 1; omega
  | u :: l, k + 1, t, j, h, hj => by
    simp at h
    rw [turnCs, List.getElem?_append_right (by simp [turnC]; omega)]
    rw [← turnCs_get l k t j h hj]
    congr 1; simp [turnC]; omega
/-- The slice value '.slice A n c' is the turns l. -/
structure Trn (W : World) (A : Option Addr) (n : Nat) (l : List TurnV) : Prop where
  len : l.length = n
  src : Src W A (turnCs l)
  spot : 0 < n → ∀ ad, A = some ad → ad.spot = none
  ok : ∀ t ∈ l, TurnOk t
theorem Trn.keep {W W' : World} {A : Option Addr} {n : Nat} {l : List TurnV} (h : Trn W A n l) (hc : Chg [] W W') : Trn W' A n l := ⟨h.len, h.src.keep hc, h.spot, h.ok⟩
theorem Trn.cell {W : World} {A : Option Addr} {n : Nat} {l : List TurnV} (h : Trn W A n l) {k : Nat} {t : TurnV} (hk : l[k]? = some t) : ∃ b o, A = some ⟨b, o, none⟩ ∧ b < W.heap.size ∧ W.cell? ⟨b, o + k * 5, none⟩ = some (.int .i64 t.what) ∧ W.cell? ⟨b, o + k * 5 + 1, none⟩ = some (.int .i64 t.func) ∧ W.cell? ⟨b, o + k * 5 + 2, none⟩ = some (.int .i64 t.at_) ∧ W.cell? ⟨b, o + k * 5 + 3, none⟩ = some (.int .i64 t.n) ∧ W.cell? ⟨b, o + k * 5 + 4, none⟩ = some (.string t.text) := by
  have hkl := (List.getElem?_eq_some_iff.1 hk).1
  obtain ⟨⟨b, o, s⟩, e, hb, hx⟩ := h.src (by rw [turnCs_len]; omega)
  obtain rfl : s = none := h.spot (by have := h.len; omega) _ e
  refine ⟨b, o, e, hb, ?_, ?_, ?_, ?_, ?_⟩
  · have := hx _ _ ((turnCs_get l k t 0 hk (by omega)).trans rfl); rwa [add_plain] at this
  · have := hx _ _ ((turnCs_get l k t 1 hk (by omega)).trans rfl); rwa [add_plain] at this
  · have := hx _ _ ((turnCs_get l k t 2 hk (by omega)).trans rfl); rwa [add_plain] at this
  · have := hx _ _ ((turnCs_get l k t 3 hk (by omega)).trans rfl); rwa [add_plain] at this
  · have := hx _ _ ((turnCs_get l k t 4 hk (by omega)).trans rfl); rwa [add_plain] at this
/-- A row of functions stays, if another block is written. -/
theorem Fnr.besides {W : World} {A : Option Addr} {n c : Nat} {l : List FnV} (h : Fnr W A n c l) {p : Addr} (hp : ∀ ad, A = some ad → ad.block ≠ p.block) (u : Value) : Fnr (W.setCell p u) A n c l := by
  refine ⟨h.len, fun h0 => ?_, h.cap, h.max, h.spot, h.args⟩
  obtain ⟨ad, e, hb, hx⟩ := h.src h0
  refine ⟨ad, e, by rw [size_set]; exact hb, fun j v hj => ?_⟩
  have e2 : (ad.add j).block = ad.block := by unfold Addr.add; split <;> rfl
  rw [← hx j v hj]
  exact World.cell?_of_block (w := W) (Below.heap_setCell W p u _ (by rw [e2]; exact hp ad e))
def Ranged (x : Int) : Prop := -9223372036854775808 ≤ x ∧ x ≤ 9223372036854775807
def OddsPost (w : World) (e : Ending) (w' : World) : Prop :=
  ∃ (pg ms : Int) (A : Option Addr) (n c : Nat) (l : List FnV), e = .returned (.agg #[.int .i64 pg, .int .i64 ms, .slice A n c]) ∧ Ranged pg ∧ Ranged ms ∧ Fnr w' A n c l ∧ Oddly 4 l ∧ Chg [] w w'
/-- What goes round in Odd: a program that lies besides two blocks. -/
structure OdR (w W : World) (g gr : Nat) (pg ms : Int) (A : Option Addr) (n c : Nat) (l : List FnV) : Prop where
  u : Whole W g 25 [.int .i64 pg, .int .i64 ms, .slice A n c]
  r : Whole W gr 25 [.int .i64 0, .int .i64 0, .slice none 0 0]
  f : Fnr W A n c l
  a : ∀ ad, A = some ad → ad.block ≠ g ∧ ad.block ≠ gr
  p : Ranged pg
  m : Ranged ms
  c : Chg [] w W
  z : w.heap.size ≤ g ∧ g < gr ∧ gr < W.heap.size
theorem OdR.keep {w W W' : World} {g gr : Nat} {pg ms : Int} {A : Option Addr} {n c : Nat} {l : List FnV} (h : OdR w W g gr pg ms A n c l) (hc : Chg [] W W') : OdR w W' g gr pg ms A n c l :=
  ⟨h.u.keep hc, h.r.keep hc, h.f.keep hc, h.a, h.p, h.m, h.c.new hc, by have := h.z; have := hc.size; omega⟩
theorem OdR.turn {w W W' : World} {g gr : Nat} {pg ms pg' ms' : Int} {A : Option Addr} {n c : Nat} {l l' : List FnV} {v : Value} {q : Nat} (h : OdR w W g gr pg ms A n c l) (hc : Chg [] W W') (hp : Ranged pg') (hm : Ranged ms') (ho : W'.ownsRow W.heap.size 32 3 v l'.length (fnCs l')) (hO : Oddly q l') (hq : q ≤ 4) :
    ∃ A' c', v = .slice A' l'.length c' ∧ OdR w (((W'.setCell ⟨g, 0, none⟩ (.int .i64 pg')).setCell ⟨g, 1, none⟩ (.int .i64 ms')).setCell ⟨g, 2, none⟩ v) g gr pg' ms' A' l'.length c' l' := by
  have hz := h.z
  obtain ⟨A', c', rfl, hF⟩ := Fnr.of_own ho (by have := hO.few; omega) (fun f hf => (hO.fn f hf).1)
  have ha : ∀ ad, A' = some ad → ad.block ≠ g ∧ ad.block ≠ gr := fun ad e => by
    subst e
    obtain ⟨_, _, e', _, _, hb⟩ := rown_slice ho
    injection e' with e1 _ _
    have := (hb ad e1.symm).2.1
    omega
  refine ⟨A', c', rfl, ?_, ((h.r.keep hc).far (by simp only; omega) _ |>.far (by simp only; omega) _).far (by simp only; omega) _, ((hF.besides (fun ad e => (ha ad e).1) _).besides (fun ad e => (ha ad e).1) _).besides (fun ad e => (ha ad e).1) _, ha, hp, hm, ?_, ?_⟩
  · have := (((h.u.keep hc).set_ 0 (.int .i64 pg')).set_ 1 (.int .i64 ms')).set_ 2 (.slice A' l'.length c')
    simpa using this
  · exact (((h.c.new hc).setCell (fun hh => by simp only at hh; omega) _).setCell (fun hh => by simp only at hh; omega) _).setCell (fun hh => by simp only at hh; omega) _
  · rw [size_set, size_set, size_set]; have := hc.size; omega
theorem OdR.start {w : World} {A : Option Addr} {n c : Nat} {l : List FnV} {pg ms : Int} (hF : Fnr w A n c l) (hpg : Ranged pg) (hms : Ranged ms) (hsm : ∀ ad, A = some ad → ad.block < w.heap.size) :
    OdR w ((w.alloc (.cells #[.int .i64 pg, .int .i64 ms, .slice A n c] 25)).alloc (.cells #[.int .i64 0, .int .i64 0, .slice none 0 0] 25)) w.heap.size (w.heap.size + 1) pg ms A n c l := by
  have h1 := Whole.new w 25 [.int .i64 pg, .int .i64 ms, .slice A n c]
  have c1 := (Chg.refl [] w).alloc (.cells #[.int .i64 pg, .int .i64 ms, .slice A n c] 25)
  have z1 : (w.alloc (.cells #[.int .i64 pg, .int .i64 ms, .slice A n c] 25)).heap.size = w.heap.size + 1 := Array.size_push _
  generalize w.alloc (.cells #[.int .i64 pg, .int .i64 ms, .slice A n c] 25) = w1 at *
  have h2 := Whole.new w1 25 [.int .i64 0, .int .i64 0, .slice none 0 0]
  have c2 := (Chg.refl [] w1).alloc (.cells #[.int .i64 0, .int .i64 0, .slice none 0 0] 25)
  have z2 : (w1.alloc (.cells #[.int .i64 0, .int .i64 0, .slice none 0 0] 25)).heap.size = w1.heap.size + 1 := Array.size_push _
  rw [z1] at h2
  exact ⟨h1.keep c2, h2, (hF.keep c1).keep c2, fun ad e => by have := hsm ad e; omega, hpg, hms, c1.new c2, by omega⟩
theorem OdR.ret {w W : World} {g gr : Nat} {pg ms : Int} {A : Option Addr} {n c : Nat} {l : List FnV} (h : OdR w W g gr pg ms A n c l) (hO : Oddly 4 l) :
    Hid (OddsPost w (.returned (.agg #[.int .i64 pg, .int .i64 ms, .slice A n c])) (((W.setCell ⟨gr, 0, none⟩ (.int .i64 pg)).setCell ⟨gr, 1, none⟩ (.int .i64 ms)).setCell ⟨gr, 2, none⟩ (.slice A n c))) ∧
      Hid (Whole (((W.setCell ⟨gr, 0, none⟩ (.int .i64 pg)).setCell ⟨gr, 1, none⟩ (.int .i64 ms)).setCell ⟨gr, 2, none⟩ (.slice A n c)) gr 25 [.int .i64 pg, .int .i64 ms, .slice A n c]) := by
  have hz := h.z
  refine ⟨Lib.hid ⟨pg, ms, A, n, c, l, rfl, h.p, h.m, ((h.f.besides (fun ad e => (h.a ad e).2) _).besides (fun ad e => (h.a ad e).2) _).besides (fun ad e => (h.a ad e).2) _, hO, ((h.c.setCell (fun hh => by simp only at hh; omega) _).setCell (fun hh => by simp only at hh; omega) _).setCell (fun hh => by simp only at hh; omega) _⟩, Lib.hid ?_⟩
  have := ((h.r.set_ 0 (.int .i64 pg)).set_ 1 (.int .i64 ms)).set_ 2 (.slice A n c)
  simpa using this
section
variable {w : World} {A : Option Addr} {n c : Nat} {l : List FnV} {pg ms : Int} {TA : Option Addr} {tn tc : Nat} {ts : List TurnV}
set_option maxHeartbeats 4000000 in
set_option maxRecDepth 100000 in
theorem odds_any (hF : Fnr w A n c l) (hO : Oddly 0 l) (hpg : Ranged pg) (hms : Ranged ms) (hsm : 0 < n → ∀ ad, A = some ad → ad.block < w.heap.size) (hT : Trn w TA tn ts) (htn : tn ≤ 9223372036854775807) :
    Calls Tryd.prog 16 #[unitV pg ms A n c, .slice TA tn tc] w (OddsPost w) := by
  unfold unitV
  have HF := Lib.hid hF
  have HO := Lib.hid hO
  have HT := Lib.hid hT
  have HPM := Lib.hid (And.intro hpg hms)
  have HSM := Lib.hid hsm
  clear hF hO hT hpg hms hsm
  go_enter Tryd.func16, Tryd.ntmps16
  go_upto_region 1 with fail
  have HR := Lib.hid (OdR.start HF.out HPM.out.1 HPM.out.2 (fun ad e => HSM.out (by have := HO.out.pos; have := HF.out.len; omega) ad e))
  have HTk := Lib.hid (HT.out.keep (HR.out.c))
  obtain ⟨g, hg⟩ : ∃ g, g = w.heap.size := ⟨_, rfl⟩
  obtain ⟨gr, hgr⟩ : ∃ gr, gr = w.heap.size + 1 := ⟨_, rfl⟩
  rw [← hgr, ← hg] at HR
  rw [← hgr, ← hg]
  have HTG := Lib.hid (show 0 < tn → ∀ ad, TA = some ad → ad.block ≠ g from fun h0 ad e => by
    obtain ⟨ad', e', hb, _⟩ := HT.out.src (by rw [turnCs_len]; have := HT.out.len; omega)
    rw [e] at e'
    injection e' with e'
    subst e'
    omega)
  have HG := Lib.hid (show w.heap.size ≤ g ∧ w.heap.size ≤ gr from by omega)
  generalize (w.alloc (.cells #[.int .i64 pg, .int .i64 ms, .slice A n c] 25)).alloc (.cells #[.int .i64 0, .int .i64 0, .slice none 0 0] 25) = w2 at HR HTk ⊢
  clear hg hgr HPM HSM
  have htsp := HTk.out.spot
  go_wp2_with fail
  go_loopw [5] (fun i wr => ∃ (k : Nat) (pg ms : Int) (A : Option Addr) (n c : Nat) (l : List FnV), i = .int .i64 (k : Int) ∧ k ≤ 4 ∧ Hid (OdR w wr g gr pg ms A n c l) ∧ Hid (Oddly k l) ∧ Hid (Trn wr TA tn ts) ∧ Hid (0 < tn → ∀ ad, TA = some ad → ad.block ≠ g)) (fun i _ => 4 - (intOf i).toNat)
  case atStart => exact ⟨0, pg, ms, A, n, c, l, rfl, by omega, HR, HO, HTk, HTG⟩
  case round =>
    clear HR HTk HO HF HT
    obtain ⟨k, pg, ms, A, n, c, l, rfl, hk, HR, HO, HT, HTG⟩ := hrel
    by_cases hgo : k < tn ∧ k < 4
    · obtain ⟨hktn, hk4⟩ := hgo
      have hI1 : (k : Int) < (tn : Int) := by omega
      have hI2 : (k : Int) < 4 := by omega
      obtain ⟨t, htk⟩ : ∃ t, ts[k]? = some t := ⟨ts[k]'(by rw [HT.out.len]; exact hktn), by simp⟩
      obtain ⟨b, o, rfl, hb, t0, t1, t2, t3, t4⟩ := HT.out.cell htk
      have HTO := Lib.hid (HT.out.ok t (List.mem_of_getElem? htk))
      have HBG := Lib.hid (show b ≠ g from HTG.out (by omega) _ rfl)
      obtain ⟨tw, tf, ta, tnn, tx⟩ := t
      simp only at t0 t1 t2 t3 t4
      have u0 := HR.out.u.cell 0
      have u1 := HR.out.u.cell 1
      have u2 := HR.out.u.cell 2
      clear htk hb
      go_upto_region 4 with fail
      have HRd := Lib.hid (HR.out.keep (Chg.refl [] wr).drew)
      have HTd := Lib.hid (HT.out.keep (Chg.refl [] wr).drew)
      go_still_tail 5, (by kernel_rfl)
      change wpList _ _ _ _ _ wr.drew
      generalize wr.drew = w3 at HRd HTd ⊢
      go_wp2_with fail
      refine (odd_any HRd.out.f HO.out hk4 HRd.out.p HRd.out.m ⟨tw, tf, ta, tnn, tx⟩ HTO.out).mono ?_
      rintro e w4 ⟨pg', ms', v, l', rfl, hp', hm', ho', hO', hc'⟩
      obtain ⟨A', c', rfl, hR'⟩ := HRd.out.turn hc' hp' hm' ho' hO' (by omega)
      have HR' := Lib.hid hR'
      have HO' := Lib.hid hO'
      have HC' := Lib.hid hc'
      have HU' := Lib.hid (HRd.out.u.keep hc')
      clear hR' hO' hc' ho' u0 u1 u2 hp' hm'
      have u0 := HU'.out.cell 0
      have u1 := HU'.out.cell 1
      have u2 := HU'.out.cell 2
      have f0 := HU'.out.frozen 0
      have f1 := HU'.out.frozen 1
      have f2 := HU'.out.frozen 2
      have HT' := Lib.hid (show Trn (((w4.setCell ⟨g, 0, none⟩ (.int .i64 pg')).setCell ⟨g, 1, none⟩ (.int .i64 ms')).setCell ⟨g, 2, none⟩ (.slice A' l'.length c')) (some ⟨b, o, none⟩) tn ts from by
        have h := HTd.out.keep HC'.out
        refine ⟨h.len, fun h0 => ?_, h.spot, h.ok⟩
        obtain ⟨ad, e, hb', hx⟩ := h.src h0
        injection e with e
        subst e
        refine ⟨_, rfl, by simp only [size_set]; exact hb', fun j v hj => ?_⟩
        rw [← hx j v hj, add_plain]
        have hbg : b ≠ g := HBG.out
        have hh : ((((w4.setCell ⟨g, 0, none⟩ (.int .i64 pg')).setCell ⟨g, 1, none⟩ (.int .i64 ms')).setCell ⟨g, 2, none⟩ (.slice A' l'.length c')).heap[b]?) = w4.heap[b]? := by
          rw [Below.heap_setCell _ _ _ _ hbg, Below.heap_setCell _ _ _ _ hbg, Below.heap_setCell _ _ _ _ hbg]
        exact World.cell?_of_block (w := w4) hh)
      go_wp2_with fail
      go_roundw
      case rel => exact ⟨k + 1, pg', ms', A', l'.length, c', l', by go_num, by omega, HR', HO', HT', HTG⟩
      case measure => simp [intOf]; omega
    · by_cases h1 : k < tn
      · have hI1 : (k : Int) < (tn : Int) := by omega
        have hI2 : (4 : Int) ≤ (k : Int) := by omega
        have ⟨HP, hWf⟩ := HR.out.ret (HO.out.more hk)
        have v0 := HR.out.u.cell 0
        have v1 := HR.out.u.cell 1
        have v2 := HR.out.u.cell 2
        have r0 := HR.out.r.cell 0
        have r1 := HR.out.r.cell 1
        have r2 := HR.out.r.cell 2
        have f0 := HR.out.r.frozen 0
        have f1 := HR.out.r.frozen 1
        have f2 := HR.out.r.frozen 2
        go_wp2_with fail
        have e0 := hWf.out.cell 0
        have e1 := hWf.out.cell 1
        have e2 := hWf.out.cell 2
        generalize ((wr.setCell ⟨gr, 0, none⟩ (.int .i64 pg)).setCell ⟨gr, 1, none⟩ (.int .i64 ms)).setCell ⟨gr, 2, none⟩ (.slice A n c) = wf at HP e0 e1 e2 ⊢
        simp only [List.getElem?_cons_zero, List.getElem?_cons_succ] at e0 e1 e2
        refine bodyPost_ret (v := .agg #[.int .i64 pg, .int .i64 ms, .slice A n c]) (by simp [results, Tryd.results16, go_sem, e0, e1, e2]) rfl HP.out
      · have hI1 : (tn : Int) ≤ (k : Int) := by omega
        have ⟨HP, hWf⟩ := HR.out.ret (HO.out.more hk)
        have v0 := HR.out.u.cell 0
        have v1 := HR.out.u.cell 1
        have v2 := HR.out.u.cell 2
        have r0 := HR.out.r.cell 0
        have r1 := HR.out.r.cell 1
        have r2 := HR.out.r.cell 2
        have f0 := HR.out.r.frozen 0
        have f1 := HR.out.r.frozen 1
        have f2 := HR.out.r.frozen 2
        go_wp2_with fail
        have e0 := hWf.out.cell 0
        have e1 := hWf.out.cell 1
        have e2 := hWf.out.cell 2
        generalize ((wr.setCell ⟨gr, 0, none⟩ (.int .i64 pg)).setCell ⟨gr, 1, none⟩ (.int .i64 ms)).setCell ⟨gr, 2, none⟩ (.slice A n c) = wf at HP e0 e1 e2 ⊢
        simp only [List.getElem?_cons_zero, List.getElem?_cons_succ] at e0 e1 e2
        refine bodyPost_ret (v := .agg #[.int .i64 pg, .int .i64 ms, .slice A n c]) (by simp [results, Tryd.results16, go_sem, e0, e1, e2]) rfl HP.out
end
end Go.Proofs.YtodbeeodhekpeaaDoor
