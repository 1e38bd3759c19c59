/-
  PB: PlGet, PlBackP.
-/
import Derived.Test.YtbkfhndmeljlcaaGreatDoorZPB5
import Derived.Test.YtbkfhndmeljlcaaGreatDoorZPB41
import Derived.Test.YtbkfhndmeljlcaaGreatDoorZPB42
import Derived.Test.YtbkfhndmeljlcaaGreatDoorZPB45
import Derived.Test.YtbkfhndmeljlcaaGreatDoorZPB46
namespace Go.Proofs.YtbkfhndmeljlcaaGreatDoor
open Go.RowKit
theorem parse_ok {T : List UInt8} {p m : Int} {fs : List FnV} (h : rParse T = (0, p, m, fs)) : rText p m fs = (T, 0) ∧ RightF p m fs ∧ T.length ≤ 2048 := by
  unfold rParse at h
  by_cases h2 : 2048 < T.length
  · rw [if_pos h2] at h
    injection h with h; omega
  · rw [if_neg h2] at h
    cases hp : parseP T with
    | none => rw [hp] at h; injection h with h; omega
    | some x =>
      obtain ⟨a, b, l⟩ := x
      rw [hp] at h
      simp only at h
      by_cases hr : rRight (a : Int) (b : Int) l = 0
      · rw [if_pos hr] at h
        by_cases ht : (rText (a : Int) (b : Int) l).1 = T
        · rw [if_pos ht] at h
          injection h with _ h
          injection h with h1 h
          injection h with h3 h4
          subst h1; subst h3; subst h4
          refine ⟨?_, rRight_ok.1 hr, by omega⟩
          have hu : rText (a : Int) (b : Int) l = if 2048 < (utx (a : Int) (b : Int) l).length then ([], 3) else (utx (a : Int) (b : Int) l, 0) := by unfold rText; rw [if_pos hr]
          by_cases hb : 2048 < (utx (a : Int) (b : Int) l).length
          · rw [hu, if_pos hb] at ht
            simp only at ht
            subst ht
            cases hp
          · rw [hu, if_neg hb] at ht ⊢
            simp only at ht
            rw [ht]
        · rw [if_neg ht] at h
          injection h with h; omega
      · rw [if_neg hr] at h
        injection h with h
        exact absurd h hr
theorem RdYes.small {zs : List (List UInt8)} {T : List UInt8} {p : Nat} (h : RdYes zs T p) : T.length ≤ 2048 ∧ p ≤ 64 ∧ 1 ≤ zs.length := by
  obtain ⟨_, z, r, hz, hm, hp, hl, hT, _⟩ := h
  refine ⟨?_, by rw [← hp]; exact hm.2.1, by omega⟩
  rw [hT, List.length_take]
  have := hm.1
  omega
theorem RdYes.one {zs : List (List UInt8)} {T T' : List UInt8} {p p' : Nat} (h : RdYes zs T p) (h' : RdYes zs T' p') : T = T' ∧ p = p' := by
  obtain ⟨_, z, r, hz, _, hp, _, hT, _⟩ := h
  obtain ⟨_, z', r', hz', _, hp', _, hT', _⟩ := h'
  rw [hz] at hz'
  injection hz' with e1 e2
  subst e1; subst e2
  exact ⟨hT.trans hT'.symm, hp.symm.trans hp'⟩
/-- Nothing is got, and why. -/
def GetNo (zs : List (List UInt8)) (r : Int) : Prop :=
  (r = 12 ∧ ((¬ ∃ T p, RdYes zs T p) ∨ ∃ T p, RdYes zs T p ∧ (rParse T).1 ≠ 0)) ∨
  (r = 25 ∧ ∃ (T : List UInt8) (p : Nat) (pg ms : Int) (fs : List FnV), RdYes zs T p ∧ rParse T = (0, pg, ms, fs) ∧ ((zs.length : Int) < 1 + (holdN T.length : Int) + ms ∨ (p : Int) < pg ∨ ms < (p : Int)))
def GetYes (zs : List (List UInt8)) (T : List UInt8) (p : Nat) (pg ms : Int) (fs : List FnV) : Prop :=
  RdYes zs T p ∧ rParse T = (0, pg, ms, fs) ∧ 1 + (holdN T.length : Int) + ms ≤ (zs.length : Int) ∧ pg ≤ (p : Int) ∧ (p : Int) ≤ ms
def GpPost (zs : List (List UInt8)) (w : World) (e : Ending) (w' : World) : Prop :=
  (∃ r, GetNo zs r ∧ e = .returned (.tuple #[.agg #[.int .i64 0, .int .i64 0, .slice none 0 0], .pointer none, .int .i64 0, .int .i64 r]) ∧ Chg [] w w') ∨
  (∃ (T : List UInt8) (p : Nat) (pg ms : Int) (fs : List FnV) (v : Value) (pm gC gD : Nat), GetYes zs T p pg ms fs ∧ e = .returned (.tuple #[.agg #[.int .i64 pg, .int .i64 ms, v], .pointer (some ⟨pm, 0, none⟩), .int .i64 ((1 + holdN T.length : Nat) : Int), .int .i64 0]) ∧
    w'.ownsRow w.heap.size 58 3 v fs.length (fnCs fs) ∧ fs.length ≤ 1000 ∧ (∀ f ∈ fs, okF f) ∧ Mm w' pm gC gD ((zs.drop (1 + holdN T.length)).take p).flatten [] (falses p) [] ms.toNat ∧ w.heap.size ≤ pm ∧ w.heap.size ≤ gC ∧ w.heap.size ≤ gD ∧ Chg [] w w')
section
variable (g : Nat) (cs : List Value)
/-- The result's own block, before and behind its store. -/
structure GtH (a b : World) : Prop where
  os : b.os = a.os
  tape : b.tape = a.tape
  output : b.output = a.output
  size : a.heap.size ≤ b.heap.size
  old : ∀ k, k < a.heap.size → k ≠ g → b.heap[k]? = a.heap[k]?
  st : (∃ xs : List Value, xs.length = 3 ∧ Whole a g 24 xs) → (∃ xs : List Value, xs.length = 3 ∧ Whole b g 24 xs)
  fin : Whole a g 24 cs → Whole b g 24 cs
end
section
variable {g : Nat} {cs : List Value} {a b : World}
theorem GtH.of_chg (hc : Chg [] a b) : GtH g cs a b := ⟨hc.os, hc.tape, hc.output, hc.size, fun k hk _ => hc.block k hk (by simp), fun ⟨xs, h1, h⟩ => ⟨xs, h1, h.keep hc⟩, fun h => h.keep hc⟩
theorem GtH.chg (h : GtH g cs a b) : Chg [g] a b := ⟨h.os, h.tape, h.output, h.size, fun k hk hne => h.old k hk (by simpa using hne)⟩
def gtT (g : Nat) (cs : List Value) : Turns := ⟨Chg [], GtH g cs, [12], []⟩
theorem gtT_ok : (gtT g cs).Ok := ⟨Chg.refl [], fun _ _ h => GtH.of_chg h, fun _ _ _ h k => ⟨k.os.trans h.os, k.tape.trans h.tape, k.output.trans h.output, Nat.le_trans h.size k.size, fun i hi hne => (k.old i (Nat.lt_of_lt_of_le hi h.size) hne).trans (h.old i hi hne), fun e => k.st (h.st e), fun e => k.fin (h.fin e)⟩⟩
/-- Bytes that lie elsewhere. -/
def jnF (g : Nat) (l : List UInt8) : Fact := fun v W => ∃ A c, v = .slice A l.length c ∧ Bs W A l.length c l ∧ (∀ ad, A = some ad → ad.block ≠ g)
theorem src_away {W W' : World} {A : Option Addr} {xs : List Value} (h : Src W A xs) (hc : Chg [g] W W') (hA : ∀ ad, A = some ad → ad.block ≠ g) : Src W' A xs := by
  intro hp
  obtain ⟨ad, e, hb, hx⟩ := h hp
  refine ⟨ad, e, Nat.lt_of_lt_of_le hb hc.size, fun j v hj => ?_⟩
  rw [← hx j v hj]
  refine World.cell?_of_block (w := W) (hc.block _ ?_ ?_)
  · have e2 : (ad.add j).block = ad.block := by unfold Addr.add; split <;> rfl
    rw [e2]; exact hb
  · have e2 : (ad.add j).block = ad.block := by unfold Addr.add; split <;> rfl
    rw [e2]; simpa using hA ad e
theorem keeps_jn (g : Nat) (l : List UInt8) : Keeps (Chg []) (jnF g l) := fun _ _ _ ⟨A, c, e, h, ha⟩ hc => ⟨A, c, e, h.keep hc, ha⟩
theorem keeps_jnH (g : Nat) (cs : List Value) (l : List UInt8) : Keeps (GtH g cs) (jnF g l) := fun _ _ _ ⟨A, c, e, h, ha⟩ hc => ⟨A, c, e, ⟨h.len, src_away h.src hc.chg ha, h.cap, h.max, h.spot⟩, ha⟩
def mmF (B g : Nat) (l : List UInt8) (k most : Nat) : Fact := fun v W => ∃ p gC gD, v = .pointer (some ⟨p, 0, none⟩) ∧ Mm W p gC gD l [] (falses k) [] most ∧ B ≤ p ∧ B ≤ gC ∧ B ≤ gD ∧ p ≠ g ∧ gC ≠ g ∧ gD ≠ g
theorem keeps_mm (B g : Nat) (l : List UInt8) (k most : Nat) : Keeps (Chg []) (mmF B g l k most) := fun _ _ _ ⟨p, gC, gD, e, h, r⟩ hc => ⟨p, gC, gD, e, h.keep hc, r⟩
theorem keeps_mmH (B g : Nat) (cs : List Value) (l : List UInt8) (k most : Nat) : Keeps (GtH g cs) (mmF B g l k most) := fun _ _ _ ⟨p, gC, gD, e, h, h1, h2, h3, n1, n2, n3⟩ hc => ⟨p, gC, gD, e, h.away hc.chg (by simpa using n1) (by simpa using n2) (by simpa using n3), h1, h2, h3, n1, n2, n3⟩
end
section
variable {w : World} {A : Option Addr} {n c : Nat} {ys : List Value} {zs : List (List UInt8)}
set_option maxHeartbeats 8000000 in
set_option maxRecDepth 100000 in
theorem plget_any (h : Pgs w A n c ys zs) (hn : n ≤ 100000) (hP : PowB w.heap.size w) : Calls Tryz.prog 21 #[.slice A n c] w (GpPost zs w) := by
  have HPG := Lib.hid h
  have HP := Lib.hid hP
  have HZL := Lib.hid h.zlen
  have hcap := h.cap
  have hmx := h.max
  have HNO := Lib.hid (show ∀ (r : Int) w', GetNo zs r → Chg [] w w' → GpPost zs w (.returned (.tuple #[.agg #[.int .i64 0, .int .i64 0, .slice none 0 0], .pointer none, .int .i64 0, .int .i64 r])) w' from fun r w' h1 hc => .inl ⟨r, h1, rfl, hc⟩)
  have HYES := Lib.hid (show ∀ (w' : World) (T : List UInt8) (p : Nat) (pg ms : Int) (fs : List FnV) (v : Value) (pm gC gD : Nat), GetYes zs T p pg ms fs → w'.ownsRow w.heap.size 58 3 v fs.length (fnCs fs) → fs.length ≤ 1000 → (∀ f ∈ fs, okF f) → Mm w' pm gC gD ((zs.drop (1 + holdN T.length)).take p).flatten [] (falses p) [] ms.toNat → w.heap.size ≤ pm → w.heap.size ≤ gC → w.heap.size ≤ gD → Chg [] w w' → GpPost zs w (.returned (.tuple #[.agg #[.int .i64 pg, .int .i64 ms, v], .pointer (some ⟨pm, 0, none⟩), .int .i64 ((1 + holdN T.length : Nat) : Int), .int .i64 0])) w' from fun w' T p pg ms fs v pm gC gD h1 h2 h3 h4 h5 h6 h7 h8 h9 => .inr ⟨T, p, pg, ms, fs, v, pm, gC, gD, h1, rfl, h2, h3, h4, h5, h6, h7, h8, h9⟩)
  generalize GpPost zs w = PO at HNO HYES ⊢
  have HRD := Lib.hid (fun (W : World) (hc : Chg [] w W) => plread_any (h.keep hc) hn)
  clear h hP
  unfold RpPost at HRD
  go_enter Tryz.func21, Tryz.ntmps21
  go_upto_region 1 with fail
  have hN := Whole.new w 24 [.int .i64 0, .int .i64 0, .slice none 0 0]
  have hal := (Chg.refl [] w).alloc (.cells #[.int .i64 0, .int .i64 0, .slice none 0 0] 24)
  obtain ⟨g, hg⟩ : ∃ g, g = w.heap.size := ⟨_, rfl⟩
  have hnl : ¬ g < w.heap.size := by omega
  have hw1s : (w.alloc (.cells #[.int .i64 0, .int .i64 0, .slice none 0 0] 24)).heap.size = g + 1 := by rw [hg]; simp
  rw [← hg] at hN ⊢
  have HG := Lib.hid hN
  have HW1 := Lib.hid hal
  have HGZ := Lib.hid hw1s
  have HGS := Lib.hid hg
  generalize w.alloc (.cells #[.int .i64 0, .int .i64 0, .slice none 0 0] 24) = w1 at HG HW1 HGZ ⊢
  clear hN hal hg hw1s
  go_upto_region 2 with (go_at_call 47
                         refine (HRD.out _ HW1.out).mono ?_
                         intro e w2 hq
                         rcases hq with ⟨T, p, hy, rfl, hc2⟩ | ⟨hm, rfl, hc2⟩)
  · have HY := Lib.hid hy
    obtain ⟨hTl, hp64, hz1⟩ := hy.small
    rw [HZL.out] at hz1
    have HG2 := Lib.hid (HG.out.keep hc2)
    have HW2 := Lib.hid (HW1.out.trans hc2)
    have HX2 := Lib.hid hc2
    clear hc2 hy HRD
    have HPA := Lib.hid (fun (W : World) (hp : PowB W.heap.size W) => uparse_any (w := W) T (by omega) hp)
    unfold PsPost at HPA
    have HPE := Lib.hid (show ∀ E pg ms fs, rParse T = (E, pg, ms, fs) → rParse T = (E, pg, ms, fs) from fun _ _ _ _ h => h)
    obtain ⟨E, pg, ms, fs, hpe⟩ : ∃ E pg ms fs, rParse T = (E, pg, ms, fs) := ⟨_, _, _, _, rfl⟩
    have HPR := Lib.hid hpe
    rw [hpe] at HPA
    simp only at HPA
    clear hpe HPE
    have HPGS := Lib.hid (fun (W : World) => plpages_any T (by omega) W)
    obtain ⟨S, hS⟩ : ∃ S, S = strOf T := ⟨_, rfl⟩
    rw [← hS] at HPA HPGS ⊢
    clear hS
    go_upto_region 5 with (go_at_call 32
                           refine (HPA.out _ (HP.out.here HW2.out)).mono ?_
                           rintro e w3 ⟨v3, rfl, ho3, hlen3, hok3, hc3⟩
                           obtain ⟨A3, c3, rfl, hF3⟩ := Fnr.of_own (l := fs) ho3 hlen3 (fun f hf => by have := hok3 f hf; unfold okF at this; omega)
                           have HF3 := Lib.hid hF3
                           have HO3 := Lib.hid ho3
                           have HL3 := Lib.hid hlen3
                           have HK3 := Lib.hid hok3
                           have HG3 := Lib.hid (HG2.out.keep hc3)
                           have HW3 := Lib.hid (HW2.out.trans hc3)
                           clear hc3 ho3 hlen3 hok3 hF3)
    obtain ⟨q, hq⟩ : ∃ q, q = fs.length := ⟨_, rfl⟩
    rw [← hq] at HF3 HL3 HO3 ⊢
    have HQ := Lib.hid hq
    clear hq
    have hN := Whole.new w3 24 [.int .i64 pg, .int .i64 ms, .slice A3 q c3]
    have hal := (Chg.refl [] w3).alloc (.cells #[.int .i64 pg, .int .i64 ms, .slice A3 q c3] 24)
    have HU4 := Lib.hid hN
    have HG4 := Lib.hid (HG3.out.keep hal)
    have HF4 := Lib.hid (HF3.out.keep hal)
    have HO4 := Lib.hid (rown_keep HO3.out hal)
    have HW4 := Lib.hid (HW3.out.trans hal)
    have hgu : g < w3.heap.size := HG3.out.lt
    clear hN hal
    generalize w3.heap.size = gu at HU4 hgu ⊢
    generalize w3.alloc (.cells #[.int .i64 pg, .int .i64 ms, .slice A3 q c3] 24) = w4 at HU4 HG4 HF4 HO4 HW4 ⊢
    by_cases hE : E = 0
    · subst hE
      obtain ⟨htx, hR, _⟩ := parse_ok HPR.out
      obtain ⟨a, rfl⟩ : ∃ a : Nat, pg = (a : Int) := ⟨pg.toNat, by have := hR.p0; omega⟩
      obtain ⟨m, rfl⟩ : ∃ m : Nat, ms = (m : Int) := ⟨ms.toNat, by have := hR.p0; have := hR.pm; omega⟩
      have ham : a ≤ m := by have := hR.pm; omega
      have hm64 : m ≤ 64 := by have := hR.m64; omega
      have HTX := Lib.hid (TxOk.of_fnr (pg := (a : Int)) (ms := (m : Int)) HF4.out (fun f hf => by have := HK3.out f hf; unfold okF at this; omega))
      rw [htx] at HTX
      simp only at HTX
      have HND := Lib.hid (plneed_any HTX.out hTl (fun _ => by omega) (HP.out.here HW4.out))
      obtain ⟨hh, hhe⟩ : ∃ hh, hh = holdN T.length := ⟨_, rfl⟩
      have hh33 : hh ≤ 32 := by rw [hhe]; unfold holdN; omega
      rw [show needZ T 0 (m : Int) = 1 + (hh : Int) + (m : Int) from by unfold needZ; rw [if_pos rfl, hhe]] at HND
      rw [← hhe] at HPGS
      have HHE := Lib.hid hhe
      clear htx hR hhe HTX
      have u0 := HU4.out.cell 0
      have u1 := HU4.out.cell 1
      have u2 := HU4.out.cell 2
      by_cases hbad : (n : Int) < 1 + (hh : Int) + (m : Int) ∨ (p : Int) < (a : Int) ∨ (m : Int) < (p : Int)
      · have HN := Lib.hid (show GetNo zs 25 from .inr ⟨rfl, T, p, _, _, fs, HY.out, HPR.out, by rw [← HHE.out, HZL.out]; exact hbad⟩)
        have hb3 : (n : Int) < 1 + (hh : Int) + (m : Int) ∨ (¬ (n : Int) < 1 + (hh : Int) + (m : Int) ∧ (p : Int) < (a : Int)) ∨ (¬ (n : Int) < 1 + (hh : Int) + (m : Int) ∧ ¬ (p : Int) < (a : Int) ∧ (m : Int) < (p : Int)) := by omega
        clear hbad
        rcases hb3 with hb | ⟨hb1, hb⟩ | ⟨hb1, hb2, hb⟩
        all_goals
          go_upto_region 8 with (go_at_call 19
                                 refine HND.out.mono ?_
                                 rintro e w5 ⟨rfl, hc5⟩
                                 have HG5 := Lib.hid (HG4.out.keep hc5)
                                 have HW5 := Lib.hid (HW4.out.trans hc5)
                                 have v0 := (HU4.out.keep hc5).cell 0
                                 have v1 := (HU4.out.keep hc5).cell 1
                                 have v2 := (HU4.out.keep hc5).cell 2
                                 clear hc5)
          have z0 := HG5.out.cell 0
          have z1 := HG5.out.cell 1
          have z2 := HG5.out.cell 2
          have f0 := HG5.out.frozen 0
          have f1 := HG5.out.frozen 1
          have f2 := HG5.out.frozen 2
          go_wp2_with fail
          have HCF := ((HW5.out.setCell (p := ⟨g, 0, none⟩) (fun h => absurd h hnl) (.int .i64 0)).setCell (p := ⟨g, 1, none⟩) (fun h => absurd h hnl) (.int .i64 0)).setCell (p := ⟨g, 2, none⟩) (fun h => absurd h hnl) (.slice none 0 0)
          have HSS := ((HG5.out.set_ 0 (.int .i64 0)).set_ 1 (.int .i64 0)).set_ 2 (.slice none 0 0)
          exact bodyPost_ret_by (results_row_tmp3 (p := 2) (a := 3) (b := 4) (c := 5) (ty := 24) rfl _ _ g 24 [.int .i64 0, .int .i64 0, .slice none 0 0] _ rfl HSS Tryz.underlying24 (by kernel_rfl)) rfl (HNO.out 25 _ HN.out HCF)
      · obtain ⟨hg1, hg2, hg3⟩ : ¬ (n : Int) < 1 + (hh : Int) + (m : Int) ∧ ¬ (p : Int) < (a : Int) ∧ ¬ (m : Int) < (p : Int) := by omega
        have HGY := Lib.hid (show GetYes zs T p (a : Int) (m : Int) fs from ⟨HY.out, HPR.out, by rw [← HHE.out, HZL.out]; omega, by omega, by omega⟩)
        clear hbad
        go_upto_region 10 with (first
          | (go_at_call 19
             refine HND.out.mono ?_
             rintro e w5 ⟨rfl, hc5⟩
             have HK5 := Lib.hid hc5
             have v0 := (HU4.out.keep hc5).cell 0
             have v1 := (HU4.out.keep hc5).cell 1
             have v2 := (HU4.out.keep hc5).cell 2
             clear hc5)
          | (go_at_call 44
             refine (HPGS.out _).mono ?_
             rintro e wq ⟨rfl, rfl⟩))
        clear u0 u1 u2 v0 v1 v2
        have HG6 := Lib.hid (HG4.out.keep HK5.out)
        have HU6 := Lib.hid (HU4.out.keep HK5.out)
        have HO6 := Lib.hid (rown_keep HO4.out HK5.out)
        have HW6 := Lib.hid (HW4.out.trans HK5.out)
        have hgw : g < wq.heap.size := HG6.out.lt
        have HWG := Lib.hid (show w.heap.size ≤ g from by omega)
        obtain ⟨q1, hq1⟩ : ∃ q1, q1 = 1 + hh := ⟨_, rfl⟩
        have hq1I : 1 + (hh : Int) = (q1 : Int) := by omega
        have HQ1 := Lib.hid hq1
        have HQ1I := Lib.hid hq1I
        rw [hq1I]
        obtain ⟨cs, hcs⟩ : ∃ cs : List Value, cs = [.int .i64 (a : Int), .int .i64 (m : Int), .slice A3 q c3] := ⟨_, rfl⟩
        have HCSE := Lib.hid hcs
        clear hcs
        have TOK := gtT_ok (g := g) (cs := cs)
        have HIN := Lib.hid (fun (W : World) (hW : GtH g cs wq.drew W) => (show Chg [] w W from (HW6.out.trans ((Chg.refl [] wq).drew)).then_ hW.chg (fun i hi hlt => by rw [List.mem_singleton] at hi; subst hi; exact absurd hlt hnl)))
        have HUIN := Lib.hid (fun (W : World) (hW : GtH g cs wq.drew W) => (show Whole W gu 24 [.int .i64 (a : Int), .int .i64 (m : Int), .slice A3 q c3] from (show Whole wq.drew gu 24 _ from HU6.out).chg hW.chg (by simp; omega)))
        have HPC := Lib.hid (fun (W : World) (hW : GtH g cs wq.drew W) => (HPG.out.keep (HIN.out W hW)).cut (lo := q1) (k := p) (by omega))
        obtain ⟨Ad, hAd⟩ : ∃ Ad, (if c = q1 then A else Option.map (fun x => x.add q1) A) = Ad := ⟨_, rfl⟩
        rw [hAd] at HPC
        obtain ⟨FL, hFL⟩ : ∃ FL, FL = ((zs.drop q1).take p).flatten := ⟨_, rfl⟩
        have H64 := Lib.hid (show ∀ z ∈ (zs.drop q1).take p, z.length = 64 from fun z hz => HY.out.1 z (List.mem_of_mem_drop (List.mem_of_mem_take hz)))
        have hFLl : FL.length = p * 64 := by
          have h1 := (lens_64 _ H64.out).2
          rw [hFL, h1, List.length_take, List.length_drop, HZL.out]
          omega
        have HFL := Lib.hid hFL
        have HFLL := Lib.hid hFLl
        obtain ⟨q2, hq2⟩ : ∃ q2, q2 = q1 + p := ⟨_, rfl⟩
        have hwA : IntKind.i64.wrap ((q1 : Int) + (p : Int)) = (q2 : Int) := by rw [IntWalk.i64_in _ (by omega)]; omega
        have HWA := Lib.hid hwA
        have hI1 : q1 ≤ c := by omega
        have hI2 : q1 + p ≤ c := by omega
        have hpw : p ≤ m := by omega
        have hI1I : (q1 : Int) ≤ (c : Int) := by omega
        have hI2I : (q2 : Int) ≤ (c : Int) := by omega
        have hI3 : q1 ≤ q2 := by omega
        have hI4 : q2 ≤ c := by omega
        have HPL := Lib.hid (show q2 - q1 = p from by omega)
        clear hq2 hI2
        clear hFL hFLl hwA hg1 hg2 hg3 hq1 hq1I
        refine F2.wp_flow (by kernel_rfl) (gtT g cs) TOK (by kernel_rfl) (by kernel_rfl) ?_
        refine F2.flow1h (r := .agg #[.int .i64 (a : Int), .int .i64 (m : Int), .slice A3 q c3]) TOK rfl (.out rfl rfl) rfl (fun ev W he hW e1 => by
          have hk := HUIN.out W hW
          have q0 := hk.cell 0
          have q1 := hk.cell 1
          have q2 := hk.cell 2
          clear hW hk
          go_simp) ?_
        refine F2.flow_move_out TOK rfl rfl rfl ?_
        refine F2.flow_move_out TOK rfl rfl rfl ?_
        refine F2.flow_move_out TOK rfl rfl rfl ?_
        refine F2.flow_move_out TOK rfl rfl rfl ?_
        refine F2.flow2 (r := .int .i64 (q2 : Int)) TOK rfl (.inn rfl) (.inn rfl) rfl (fun ev W he e1 e2 => by have q := HWA.out; go_simp) ?_
        refine F2.flow_slice_both (r := .slice Ad p (c - q1)) TOK (.inn rfl) (.inn rfl) (.inn rfl) (fun ev W he e1 e2 e3 => by
          have hpl := HPL.out
          rw [← hAd]
          split
          · rename_i hcq
            have hlt : ¬ q1 < q2 := by omega
            go_simp
          · go_simp) rfl ?_
        refine F2.flow_calld (jnF g FL) (keeps_jn g FL) (.inr (keeps_jnH g cs FL)) (by kernel_rfl) rfl (.cons (.inn rfl) (.cons (.const _) .nil)) (fun W hW => (pljoin_any (HPC.out W hW) H64.out (by omega)).mono ?_) ?_
        · rintro e w' ⟨A', c', rfl, hb, hc, hfr⟩
          rw [← HFL.out] at hb ⊢
          exact ⟨_, rfl, hc, A', c', rfl, hb, fun ad e => by have h1 := hfr ad e; have h2 : wq.heap.size ≤ W.heap.size := hW.size; omega⟩
        refine F2.flow1 (r := .pointer (some ⟨gu, 1, none⟩)) TOK rfl (.out rfl rfl) rfl (fun ev W he e1 => by go_simp) ?_
        refine F2.flow1h (r := .int .i64 (m : Int)) TOK rfl (.inn rfl) rfl (fun ev W he hW e1 => by
          have hk := HUIN.out W hW
          have q1 := hk.cell 1
          clear hW hk
          go_simp) ?_
        refine F2.flow_call (mmF w.heap.size g FL p m) (keeps_mm _ _ _ _ _) (.inr (keeps_mmH _ _ _ _ _ _)) (by kernel_rfl) rfl (fun ev W he hW hf => ?_) ?_
        · obtain ⟨A', c', e1, hb, _⟩ : jnF g FL (ev (.tmp 57)) W := hf.1
          have e2 : ev (.tmp 59) = .int .i64 (m : Int) := hf.2.1
          rw [show (#[Operand.tmp 57, Operand.tmp 59].toList.map ev).toArray = #[ev (.tmp 57), ev (.tmp 59)] from rfl, e1, e2]
          have hl := HFLL.out
          refine (cof_yes rfl hb.src m (by omega) (by omega) hm64).mono ?_
          rintro e w' ⟨pm, gC, gD, rfl, hM, h1, h2, h3, hc⟩
          rw [show FL.length / 64 = p from by omega] at hM
          have h4 : wq.heap.size ≤ W.heap.size := hW.size
          have h5 : w.heap.size ≤ W.heap.size := (HIN.out W hW).size
          exact ⟨_, rfl, hc, pm, gC, gD, rfl, hM, by omega, by omega, by omega, by omega, by omega, by omega⟩
        refine F2.flow_move_out TOK rfl rfl rfl ?_
        refine F2.flow_store (fun _ W => Whole W g 24 cs) (t := 2) rfl rfl (fun _ _ _ h hc => h.keep hc) (.inr (fun _ _ _ h hc => hc.fin h)) rfl (fun ev W he hW hf => ?_) ?_
        · have e1 : ev (.tmp 2) = .pointer (some ⟨g, 0, none⟩) := Det.at (.out rfl rfl) hf.1
          have e2 : ev (.tmp 50) = .agg #[.int .i64 (a : Int), .int .i64 (m : Int), .slice A3 q c3] := hf.2.1
          obtain ⟨xs, hx3, hWg⟩ := hW.st ⟨_, rfl, HG6.out⟩
          obtain ⟨x0, x1, x2, rfl⟩ := three_list hx3
          have c0 := hWg.cell 0
          have c1 := hWg.cell 1
          have c2 := hWg.cell 2
          have q0 := hWg.frozen 0
          have q1 := hWg.frozen 1
          have q2 := hWg.frozen 2
          have hph : Whole (((W.setCell ⟨g, 0, none⟩ (.int .i64 (a : Int))).setCell ⟨g, 1, none⟩ (.int .i64 (m : Int))).setCell ⟨g, 2, none⟩ (.slice A3 q c3)) g 24 cs := by
            have := ((hWg.set_ 0 (.int .i64 (a : Int))).set_ 1 (.int .i64 (m : Int))).set_ 2 (.slice A3 q c3)
            rw [HCSE.out]
            simpa using this
          have hH : GtH g cs W (((W.setCell ⟨g, 0, none⟩ (.int .i64 (a : Int))).setCell ⟨g, 1, none⟩ (.int .i64 (m : Int))).setCell ⟨g, 2, none⟩ (.slice A3 q c3)) := ⟨rfl, rfl, rfl, by rw [size_set, size_set, size_set]; exact Nat.le_refl _, fun k _ hne => (Below.heap_setCell _ ⟨g, 2, none⟩ _ k hne).trans ((Below.heap_setCell _ ⟨g, 1, none⟩ _ k hne).trans (Below.heap_setCell W ⟨g, 0, none⟩ _ k hne)), fun _ => ⟨cs, by rw [HCSE.out]; rfl, hph⟩, fun _ => hph⟩
          clear hf hW hWg
          go_simp
          exact ⟨hH, hph⟩
        refine F2.flow_assign TOK rfl (keeps_mm _ _ _ _ _) (.inr (keeps_mmH _ _ _ _ _ _)) rfl ?_
        refine F2.flow_assign TOK rfl (keeps_isV _) (.inr (keeps_isV _)) rfl ?_
        refine F2.flow1 (r := .int .i64 0) TOK rfl (.const _) rfl (fun ev W he e1 => by go_simp) ?_
        intro vs W hW hF hN
        have hst := hN 12 _ _ 2 rfl rfl rfl rfl
        obtain ⟨pm, gC, gD, e3, hM, h1, h2, h3, _⟩ : mmF w.heap.size g FL p m (vs 3) W := hF 3 _ rfl rfl
        have e4 : vs 4 = .int .i64 (q1 : Int) := hF 4 _ rfl rfl
        have e5 : vs 5 = .int .i64 0 := hF 5 _ rfl rfl
        have HCW := Lib.hid (HIN.out W hW)
        have HST := Lib.hid hst
        have HOW := Lib.hid (rown_chg (show wq.drew.ownsRow _ _ _ _ _ _ from HO6.out) hW.chg (fun i hi => by rw [List.mem_singleton] at hi; subst hi; exact .inl (by have := HG2.out.lt; exact this)))
        simp only [putAll, Act.put, List.setIfInBounds_toArray, List.set_cons_zero, List.set_cons_succ]
        rw [e3, e4, e5]
        have HM := Lib.hid hM
        have HB := Lib.hid (And.intro h1 (And.intro h2 h3))
        clear hF hW e3 e4 e5 hst hM h1 h2 h3 hN TOK
        obtain ⟨wz, hwz⟩ : ∃ wz : World, wz = W := ⟨_, rfl⟩
        rw [← hwz] at HCW HST HOW HM ⊢
        clear hwz
        have hfin := HYES.out wz T p (a : Int) (m : Int) fs (.slice A3 q c3) pm gC gD HGY.out (by rw [← HQ.out]; exact own_more_n HOW.out HW2.out.size) (by rw [← HQ.out]; exact HL3.out) HK3.out (by rw [← HHE.out, ← HQ1.out, ← HFL.out]; exact HM.out) HB.out.1 HB.out.2.1 HB.out.2.2 HCW.out
        rw [← HHE.out, ← HQ1.out] at hfin
        have HFIN := Lib.hid hfin
        clear hfin
        have hcs := HCSE.out
        subst hcs
        go_wp2_with fail
        exact bodyPost_ret_by (results_row_tmp3 (p := 2) (a := 3) (b := 4) (c := 5) (ty := 24) rfl _ _ g 24 [.int .i64 (a : Int), .int .i64 (m : Int), .slice A3 q c3] _ rfl HST.out Tryz.underlying24 (by kernel_rfl)) rfl HFIN.out
    · have hd : (E == 0) = false := by simpa using hE
      have HN := Lib.hid (show GetNo zs 12 from .inl ⟨rfl, .inr ⟨T, p, HY.out, by rw [HPR.out]; exact hE⟩⟩)
      have z0 := HG4.out.cell 0
      have z1 := HG4.out.cell 1
      have z2 := HG4.out.cell 2
      have f0 := HG4.out.frozen 0
      have f1 := HG4.out.frozen 1
      have f2 := HG4.out.frozen 2
      clear hE
      go_wp2_with fail
      have HCF := ((HW4.out.setCell (p := ⟨g, 0, none⟩) (fun h => absurd h hnl) (.int .i64 0)).setCell (p := ⟨g, 1, none⟩) (fun h => absurd h hnl) (.int .i64 0)).setCell (p := ⟨g, 2, none⟩) (fun h => absurd h hnl) (.slice none 0 0)
      have HSS := ((HG4.out.set_ 0 (.int .i64 0)).set_ 1 (.int .i64 0)).set_ 2 (.slice none 0 0)
      exact bodyPost_ret_by (results_row_tmp3 (p := 2) (a := 3) (b := 4) (c := 5) (ty := 24) rfl _ _ g 24 [.int .i64 0, .int .i64 0, .slice none 0 0] _ rfl HSS Tryz.underlying24 (by kernel_rfl)) rfl (HNO.out 12 _ HN.out HCF)
  · have HN := Lib.hid (show GetNo zs 12 from .inl ⟨rfl, .inl hm⟩)
    have HG2 := Lib.hid (HG.out.keep hc2)
    have HW2 := Lib.hid (HW1.out.trans hc2)
    have z0 := HG2.out.cell 0
    have z1 := HG2.out.cell 1
    have z2 := HG2.out.cell 2
    have f0 := HG2.out.frozen 0
    have f1 := HG2.out.frozen 1
    have f2 := HG2.out.frozen 2
    clear hc2 hm HRD
    go_wp2_with fail
    have HCF := ((HW2.out.setCell (p := ⟨g, 0, none⟩) (fun h => absurd h hnl) (.int .i64 0)).setCell (p := ⟨g, 1, none⟩) (fun h => absurd h hnl) (.int .i64 0)).setCell (p := ⟨g, 2, none⟩) (fun h => absurd h hnl) (.slice none 0 0)
    have HSS := ((HG2.out.set_ 0 (.int .i64 0)).set_ 1 (.int .i64 0)).set_ 2 (.slice none 0 0)
    exact bodyPost_ret_by (results_row_tmp3 (p := 2) (a := 3) (b := 4) (c := 5) (ty := 24) rfl _ _ g 24 [.int .i64 0, .int .i64 0, .slice none 0 0] _ rfl HSS Tryz.underlying24 (by kernel_rfl)) rfl (HNO.out 12 _ HN.out HCF)
end
end Go.Proofs.YtbkfhndmeljlcaaGreatDoor
namespace Go.Proofs.YtbkfhndmeljlcaaGreatDoor
open Go.RowKit
/-- k of the pages that are put; the others are zeros. -/
def zsAt (T : List UInt8) (p P k : Nat) : List (List UInt8) := ((plCs T p).map Prod.snd).take k ++ List.replicate (P - k) (zeros 64)
theorem zsAt_len (T : List UInt8) (p P k : Nat) (h : k ≤ 1 + holdN T.length + p) (hP : k ≤ P) : (zsAt T p P k).length = P := by
  unfold zsAt
  rw [List.length_append, List.length_take, List.length_map, plCs_len, List.length_replicate]
  omega
theorem zsAt_put (T : List UInt8) (p P k : Nat) (h : k < 1 + holdN T.length + p) (hP : k < P) {b : List UInt8} (hb : (plCs T p)[k]? = some (k, b)) (j : Nat) {z : List UInt8} (hz : (zsAt T p P (k + 1))[j]? = some z) : (j = k ∧ z = b) ∨ (j ≠ k ∧ (zsAt T p P k)[j]? = some z) := by
  have hl : ∀ q, q ≤ 1 + holdN T.length + p → (((plCs T p).map Prod.snd).take q).length = q := fun q hq => by
    rw [List.length_take, List.length_map, plCs_len]; omega
  unfold zsAt at hz ⊢
  rcases Nat.lt_trichotomy j k with hj | hj | hj
  · right
    refine ⟨by omega, ?_⟩
    rw [List.getElem?_append_left (by rw [hl _ (by omega)]; omega), List.getElem?_take, if_pos (by omega)] at hz
    rw [List.getElem?_append_left (by rw [hl _ (by omega)]; omega), List.getElem?_take, if_pos hj]
    exact hz
  · left
    subst hj
    rw [List.getElem?_append_left (by rw [hl _ (by omega)]; omega), List.getElem?_take, if_pos (by omega), List.getElem?_map, hb] at hz
    simp only [Option.map_some] at hz
    injection hz with hz
    exact ⟨rfl, hz.symm⟩
  · right
    refine ⟨by omega, ?_⟩
    rw [List.getElem?_append_right (by rw [hl _ (by omega)]; omega), hl _ (by omega), List.getElem?_replicate] at hz
    rw [List.getElem?_append_right (by rw [hl _ (by omega)]; omega), hl _ (by omega), List.getElem?_replicate]
    split at hz
    · rw [if_pos (by omega)]; exact hz
    · cases hz
theorem plT_flat (T : List UInt8) : ∀ k, (∀ i, i < k → i * 64 ≤ T.length) → ((plT T k).map Prod.snd).flatten = T.take (k * 64) ++ zeros (k * 64 - (T.take (k * 64)).length)
  | 0, _ => by simp [plT, zeros]
  | k + 1, h => by
    have ih := plT_flat T k (fun i hi => h i (by omega))
    have hk := h k (by omega)
    have e0 : (T.take (k * 64)).length = k * 64 := by rw [List.length_take]; omega
    rw [e0, Nat.sub_self, show zeros 0 = [] from rfl, List.append_nil] at ih
    rw [plT, List.map_append, List.flatten_append, ih]
    show T.take (k * 64) ++ [pgT T k].flatten = _
    rw [show [pgT T k].flatten = pgT T k from by simp]
    unfold pgT
    have e1 : T.take ((k + 1) * 64) = T.take (k * 64) ++ (T.drop (k * 64)).take 64 := by
      rw [show (k + 1) * 64 = k * 64 + 64 from by omega, List.take_add]
    rw [e1, ← List.append_assoc, List.length_append, e0]
    congr 2
    omega
theorem plM_flat (f : Nat) : ∀ k, ((plM f k).map Prod.snd).flatten = zeros (k * 64)
  | 0 => by simp [plM, zeros]
  | k + 1 => by
    rw [plM, List.map_append, List.flatten_append, plM_flat f k]
    show zeros (k * 64) ++ [zeros 64].flatten = _
    rw [show [zeros 64].flatten = zeros 64 from by simp]
    unfold zeros
    rw [List.replicate_append_replicate]
    congr 1
    omega
/-- The whole: the Meta, the text, the memory, and what is left. -/
theorem zsAt_all (T : List UInt8) (p P : Nat) : zsAt T p P (1 + holdN T.length + p) = metaL T.length p :: ((plT T (holdN T.length)).map Prod.snd ++ ((plM (1 + holdN T.length) p).map Prod.snd ++ List.replicate (P - (1 + holdN T.length + p)) (zeros 64))) := by
  unfold zsAt
  rw [List.take_of_length_le (by rw [List.length_map, plCs_len]; exact Nat.le_refl _)]
  unfold plCs
  simp
theorem zsAt_read (T : List UInt8) (p P : Nat) (hT : T.length ≤ 2048) (hp : p ≤ 64) (hP : 1 + holdN T.length + p ≤ P) : RdYes (zsAt T p P (1 + holdN T.length + p)) T p ∧ (((zsAt T p P (1 + holdN T.length + p)).drop (1 + holdN T.length)).take p).flatten = zeros (p * 64) := by
  obtain ⟨m1, m2, m3⟩ := meta_is T.length p hT hp
  have hlt : ((plT T (holdN T.length)).map Prod.snd).length = holdN T.length := by rw [List.length_map, plT_len]
  have hlm : ((plM (1 + holdN T.length) p).map Prod.snd).length = p := by rw [List.length_map, plM_len]
  have hfl := plT_flat T (holdN T.length) (fun i hi => by unfold holdN at hi; omega)
  have hle : T.length ≤ holdN T.length * 64 := by unfold holdN; omega
  rw [List.take_of_length_le hle] at hfl
  refine ⟨⟨fun z hz => ?_, metaL T.length p, _, zsAt_all T p P, m3, m2, ?_, ?_, ?_⟩, ?_⟩
  · obtain ⟨i, hi, rfl⟩ := List.getElem_of_mem hz
    rw [zsAt_len T p P _ (Nat.le_refl _) hP] at hi
    unfold zsAt at hz ⊢
    have hl : (((plCs T p).map Prod.snd).take (1 + holdN T.length + p)).length = 1 + holdN T.length + p := by rw [List.length_take, List.length_map, plCs_len]; omega
    rcases List.mem_append.1 hz with h | h
    · have h2 := List.mem_of_mem_take h
      rw [List.mem_map] at h2
      obtain ⟨x, hx, e⟩ := h2
      obtain ⟨k, hk, rfl⟩ := List.getElem_of_mem hx
      obtain ⟨b, hb, hb64⟩ := plCs_at T p k (by rw [plCs_len] at hk; exact hk)
      rw [List.getElem?_eq_getElem hk] at hb
      injection hb with hb
      rw [← e, hb]; exact hb64
    · rw [List.mem_replicate] at h
      rw [h.2, zeros_len]
  · rw [m1, zsAt_len T p P _ (Nat.le_refl _) hP]; omega
  · rw [m1, List.take_left' hlt, hfl, List.take_left]
  · rw [m1, List.take_left' hlt, hfl, List.drop_left]
    intro b hb
    unfold zeros at hb
    exact (List.mem_replicate.1 hb).2
  · rw [zsAt_all, show 1 + holdN T.length = holdN T.length + 1 from by omega, List.drop_succ_cons, List.drop_left' hlt, List.take_left' (by rw [show holdN T.length + 1 = 1 + holdN T.length from by omega]; exact hlm)]
    exact plM_flat _ p
end Go.Proofs.YtbkfhndmeljlcaaGreatDoor
