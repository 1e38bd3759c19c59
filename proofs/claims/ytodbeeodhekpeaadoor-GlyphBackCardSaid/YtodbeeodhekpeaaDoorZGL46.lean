/-
  GL: DToks, LawGlT.
-/
import Derived.Test.YtodbeeodhekpeaaDoorZGL17
import Derived.Test.YtodbeeodhekpeaaDoorZGL33
import Derived.Test.YtodbeeodhekpeaaDoorZGL35
import Derived.Test.YtodbeeodhekpeaaDoorZGL39
import Derived.Test.YtodbeeodhekpeaaDoorZGL42
import Derived.Test.YtodbeeodhekpeaaDoorZGL45
namespace Go.Proofs.YtodbeeodhekpeaaDoor
open Go.RowKit Go.ChangeShapes Go.WideShapes Go.Deep
structure Tkr (W : World) (A : Option Addr) (n : Nat) (l : List TkV) : Prop where
  len : l.length = n
  src : Src W A (tkCs l)
  spot : 0 < n → ∀ ad, A = some ad → ad.spot = none
  rng : ∀ t ∈ l, TkRng t
theorem Tkr.keep {W W' : World} {A : Option Addr} {n : Nat} {l : List TkV} (h : Tkr W A n l) (hc : Chg [] W W') : Tkr W' A n l := ⟨h.len, h.src.keep hc, h.spot, h.rng⟩
theorem tkCs_take : ∀ (l : List TkV) (k : Nat), tkCs (l.take k) = (tkCs l).take (k * 3)
  | [], k => by simp [tkCs]
  | t :: l, 0 => by simp [tkCs]
  | t :: l, k + 1 => by
    rw [List.take_succ_cons, tkCs, tkCs, tkCs_take l k]
    have e : (tkC t).length = 3 := rfl
    rw [List.take_append, e, show (k + 1) * 3 - 3 = k * 3 from by omega, List.take_of_length_le (l := tkC t) (by rw [e]; omega)]
/-- Cut behind the k-th. -/
theorem Tkr.cut {W : World} {A : Option Addr} {n c k : Nat} {l : List TkV} (h : Tkr W A n l) (hk : k ≤ n) (hc : k ≤ c) (hm : k ≤ 100000) : Tks W A k c (l.take k) ∧ ∀ t ∈ l.take k, TkRng t := by
  refine ⟨⟨by rw [List.length_take, h.len]; omega, fun hp => ?_, hc, hm, fun h0 => h.spot (by omega)⟩, fun t ht => h.rng t (List.mem_of_mem_take ht)⟩
  rw [tkCs_take, List.length_take, tkCs_len] at hp
  obtain ⟨ad, e, hb, hx⟩ := h.src (by rw [tkCs_len]; omega)
  refine ⟨ad, e, hb, fun j u hj => hx j u ?_⟩
  rw [tkCs_take, List.getElem?_take] at hj
  split at hj
  · exact hj
  · cases hj
theorem token_fields : ∃ fs, Tryd.prog.underlying 48 = some (.struct fs) ∧ oneCellFields Tryd.prog fs = true ∧ fs.map (·.type) = #[21, 2, 21] :=
  ⟨_, Tryd.underlying48, by kernel_rfl, by kernel_rfl⟩
theorem three_list {α : Type} {l : List α} (h : l.length = 3) : ∃ a b c, l = [a, b, c] := by
  match l, h with
  | [a, b, c], _ => exact ⟨a, b, c, rfl⟩
section
variable {H : Type} {enc : TypeId × Value → H} {w : World} {base : Nat} {held : Bool}
theorem toks_open {fuel : Nat} {cs : List Value} {x : DataW H × List MemPlace} (h : DataW.trod enc Tryd.prog w base (fun _ => true) held fuel 40 cs = some x) (v : Value) (hv : cs = [v]) :
    ∃ A n c l, v = .slice A n c ∧ Tkr w A n l ∧ n ≤ c ∧ c ≤ maxLen := by
  obtain ⟨fs, hu, hone, hty⟩ := token_fields
  have hfs : fs.size = 3 := by have := congrArg Array.size hty; simpa using this
  obtain ⟨A, n, c, rfl, hnc, hcm, hrow⟩ := rows_open Tryd.underlying40 hu hone hfs (by kernel_rfl) h v hv
  have key : ∀ i, i < n → ∃ q : TkV, TkRng q ∧ ∃ a, A = some a ∧ ∀ j u, (tkC q)[j]? = some u → w.cell? ((a.add (i * 3)).add j) = some u := by
    intro i hi
    obtain ⟨a, us, rfl, hl, hc, hf⟩ := hrow i hi
    obtain ⟨v0, v1, v2, rfl⟩ := three_list hl
    obtain ⟨f0, g0, t0⟩ := rfield_at hty 0 _ rfl
    obtain ⟨f1, g1, t1⟩ := rfield_at hty 1 _ rfl
    obtain ⟨f2, g2, t2⟩ := rfield_at hty 2 _ rfl
    obtain ⟨_, _, q0⟩ := hf 0 _ _ g0 rfl
    obtain ⟨_, _, q1⟩ := hf 1 _ _ g1 rfl
    obtain ⟨_, _, q2⟩ := hf 2 _ _ g2 rfl
    rw [t0] at q0; rw [t1] at q1; rw [t2] at q2
    obtain ⟨z0, e0, _, w0⟩ := DataW.trod_int Tryd.underlying21 q0
    obtain ⟨z1, e1, _, w1⟩ := DataW.trod_int Tryd.underlying2 q1
    obtain ⟨z2, e2, _, w2⟩ := DataW.trod_int Tryd.underlying21 q2
    simp only [List.cons.injEq, and_true] at e0 e1 e2
    subst e0 e1 e2
    exact ⟨⟨z0, z1, z2⟩, ⟨arg_i32 w0, arg_i64 w1, arg_i32 w2⟩, a, rfl, hc⟩
  obtain ⟨l, hll, hlx⟩ := dlist_of n key
  obtain ⟨hsrc, hsp⟩ := rows_src (C := tkC) (Cs := tkCs) rfl (fun _ _ => rfl) (fun _ => rfl) (fun _ => ⟨_, _, rfl⟩) hll (fun i x hx => (hlx i x hx).2)
  refine ⟨A, n, c, l, rfl, ⟨hll, hsrc, hsp, fun q hq => ?_⟩, hnc, hcm⟩
  obtain ⟨i, hi, rfl⟩ := List.getElem_of_mem hq
  exact (hlx i _ (List.getElem?_eq_getElem hi)).1
end
end Go.Proofs.YtodbeeodhekpeaaDoor
namespace Go.Proofs.YtodbeeodhekpeaaDoor
open Go.RowKit
section
variable {w : World} {A : Option Addr} {n c : Nat} {l : List Int} {TA : Option Addr} {tn tc : Nat} {ts : List TurnV} {KA : Option Addr} {kn kc : Nat} {kl : List TkV}
set_option maxHeartbeats 8000000 in
set_option maxRecDepth 100000 in
theorem glyphTells_any (hs : Src w A (nms l)) (hlen : l.length = n) (hspot : 0 < n → ∀ ad, A = some ad → ad.spot = none) (hn : n ≤ 9223372036854775807) (hrng : ∀ x ∈ l, -9223372036854775808 ≤ x ∧ x ≤ 9223372036854775807)
    (hT : Trn w TA tn ts) (htn : tn ≤ 9223372036854775807) (raw : ByteArray) (hraw : raw.size ≤ 9223372036854775807) (hK : Tkr w KA kn kl) (hkn : kn ≤ kc ∧ kc ≤ 9223372036854775807) (r : Int) (hP : PowB w.heap.size w) :
    Calls Tryd.prog 5 #[.slice A n c, .slice TA tn tc, .string raw, .slice KA kn kc, .int .i32 r] w (BoolPost true w) := by
  have HP := Lib.hid hP
  have HUN := Lib.hid (unit_any (c := c) hs hlen hspot hn hrng)
  have HT := Lib.hid hT
  have HK := Lib.hid hK
  clear hs hlen hspot hrng hT hn hK hP
  go_enter Tryd.func5, Tryd.ntmps5
  go_upto_if 15 with fail
  go_cut [2] (fun v wx => ∃ s : ByteArray, v = .string s ∧ s.size ≤ 80 ∧ w = wx)
  case first =>
    by_cases h80 : 80 < raw.size
    · have h80I : (80 : Int) < (raw.size : Int) := by omega
      go_wp2_with fail
      go_meet
      exact ⟨_, rfl, by simp; omega, rfl⟩
    · have h80I : (raw.size : Int) ≤ 80 := by omega
      go_wp2_with fail
      go_meet
      exact ⟨_, rfl, by omega, rfl⟩
  case rest =>
    obtain ⟨s, rfl, hs80, rfl⟩ := hcut
    go_upto_if 20 with fail
    go_cut [3] (fun v wx => ∃ (KB : Option Addr) (kb cb : Nat) (zl : List TkV), v = .slice KB kb cb ∧ kb ≤ 20 ∧ Hid (Tks w KB kb cb zl) ∧ Hid (∀ t ∈ zl, TkRng t) ∧ w = wx)
    case first =>
      by_cases h20 : 20 < kn
      · have h20I : (20 : Int) < (kn : Int) := by omega
        have h20J : (20 : Int) ≤ (kc : Int) := by omega
        have hcut := HK.out.cut (k := 20) (c := kc) (by omega) (by omega) (by omega)
        have HC1 := Lib.hid hcut.1
        have HC2 := Lib.hid hcut.2
        clear hcut
        go_wp2_with fail
        go_meet
        exact ⟨_, _, _, _, rfl, by omega, HC1, HC2, rfl⟩
      · have h20I : (kn : Int) ≤ 20 := by omega
        have hcut := HK.out.cut (k := kn) (c := kc) (by omega) (by omega) (by omega)
        have HC1 := Lib.hid hcut.1
        have HC2 := Lib.hid hcut.2
        clear hcut
        go_wp2_with fail
        go_meet
        exact ⟨_, _, _, _, rfl, by omega, HC1, HC2, rfl⟩
    case rest =>
      obtain ⟨KB, kb, cb, zl, rfl, hkb, HZ, HZR, rfl⟩ := hcut
      clear HK hkn
      go_wp2_with fail
      refine HUN.out.mono ?_
      rintro e w2 ⟨pg, ms, v, fl, rfl, hp0, hp1, hm0, hm1, ho, hg, hfl0, hc2⟩
      obtain ⟨FA, fc, rfl, hFr⟩ := Fnr.of_own ho (by have := hg.lo; omega) (fun f hf => by have := hg.args f hf; omega)
      have HSM := Lib.hid (show 0 < fl.length → ∀ ad, FA = some ad → ad.block < w2.heap.size from fun h0 ad e => by
        subst e
        obtain ⟨_, _, e', _, _, hb⟩ := rown_slice ho
        injection e' with e1 _ _
        exact (hb ad e1.symm).2.2.2)
      have HX := Lib.hid (odds_any (pg := pg) (ms := ms) (tc := tc) hFr (hg.oddly hfl0) ⟨by omega, by omega⟩ ⟨by omega, by omega⟩ HSM.out (HT.out.keep hc2) htn)
      have HC2 := Lib.hid hc2
      clear ho hg hFr hp0 hp1 hm0 hm1 hc2 hfl0 HUN HT HSM
      generalize fl.length = fn at HX ⊢
      go_wp2_with fail
      refine HX.out.mono ?_
      rintro e w5 ⟨pg2, ms2, A5, n5, c5, l5, rfl, _, _, hF5, hO5, hc5⟩
      have HF5 := Lib.hid hF5
      have HO5 := Lib.hid hO5
      have HC5 := Lib.hid (HC2.out.new hc5)
      have HN5 := Lib.hid hF5.len
      have hmx := hF5.max
      clear hF5 hO5 hc5 HX HC2
      have hfld := unit_funcs pg2 ms2 A5 n5 c5
      go_wp2_with fail
      go_loopw [29] (fun i wr => ∃ k : Nat, i = .int .i64 (k : Int) ∧ k ≤ n5 ∧ Hid (Chg [] w5 wr)) (fun i _ => n5 - (intOf i).toNat)
      case atStart => exact ⟨0, rfl, by omega, Lib.hid (Chg.refl [] _)⟩
      case round =>
        obtain ⟨k, rfl, hk, HCr⟩ := hrel
        by_cases hkn : k < n5
        · have hkI : (k : Int) < (n5 : Int) := by omega
          obtain ⟨t, htk⟩ : ∃ t, l5[k]? = some t := ⟨l5[k]'(by rw [HN5.out]; exact hkn), by simp⟩
          have htz := (HO5.out.fn t (List.mem_of_getElem? htk)).2.1
          obtain ⟨fb, fo, rfl, hfbl, e0, e1, e2⟩ := (HF5.out.keep HCr.out).cell htk
          obtain ⟨tn', ta, code⟩ := t
          simp only at e0 e1 e2 htz
          clear htk
          go_upto_region 8 with fail
          have hX := Whole.new wr 32 [.int .i32 tn', .int .i64 ta, .string code]
          have hc2 := (Chg.refl [] wr).alloc (.cells #[.int .i32 tn', .int .i64 ta, .string code] 32)
          have HX2 := Lib.hid hX
          have HC2 := Lib.hid (HCr.out.new hc2)
          generalize wr.heap.size = gx at HX2 ⊢
          generalize wr.alloc (.cells #[.int .i32 tn', .int .i64 ta, .string code] 32) = w6 at HX2 HC2 ⊢
          clear hX hc2 e0 e1 e2 hfbl
          have x2 := HX2.out.cell 2
          obtain ⟨y, hy⟩ : ∃ y, code ++ s = y := ⟨_, rfl⟩
          have HYS := Lib.hid (show y.size ≤ 100000 from by rw [← hy, ByteArray.size_append']; omega)
          have HSZ := Lib.hid (show code.size ≤ 100000 from by omega)
          have hadd : ∀ W, (Op.stringOp .add code s).run Tryd.prog W = .ok (.string y) W := fun W => by
            rw [← hy]; exact run_string_add_sum _ _ _ (by omega)
          clear hy htz
          go_wp2_with (first
            | (go_at_call 14
               with_reducible refine (gsame_any code (by have := HSZ.out; omega) (HP.out.here (HC5.out.trans HC2.out))).mono ?_
               rintro e w7 ⟨rfl, hc7⟩
               have HC7 := Lib.hid (HC2.out.new hc7)
               have y2 := (HX2.out.keep hc7).cell 2
               clear hc7)
            | (go_at_call 14
               with_reducible refine (gsame_any y (by have := HYS.out; omega) (HP.out.here (HC5.out.trans HC7.out))).mono ?_
               rintro e w8 ⟨rfl, hc8⟩
               have HC8 := Lib.hid (HC7.out.new hc8)
               clear hc8))
          go_roundw
          case rel => exact ⟨k + 1, by go_num, by omega, HC8⟩
          case measure => simp [intOf]; omega
        · have hkI : ¬ (k : Int) < (n5 : Int) := by omega
          have HC6 := Lib.hid (HC5.out.trans HCr.out)
          have HZ6 := Lib.hid (HZ.out.keep HC6.out)
          go_wp2_with (first
            | (go_at_call 14
               with_reducible refine (gsame_any s (by omega) (HP.out.here HC6.out)).mono ?_
               rintro e w7 ⟨rfl, hc7⟩
               have HC7 := Lib.hid (HC6.out.new hc7)
               have HZ7 := Lib.hid (HZ6.out.keep hc7)
               clear hc7)
            | (go_at_call 13
               with_reducible refine (grune1_any r).mono ?_
               rintro e w8 ⟨rfl, hc8⟩
               have HC8 := Lib.hid (HC7.out.new hc8)
               have HZ8 := Lib.hid (HZ7.out.keep hc8)
               clear hc8)
            | (go_at_call 17
               with_reducible refine (gtext_any HZ8.out HZR.out (by omega) (HP.out.here HC8.out)).mono ?_
               rintro e w9 ⟨rfl, hc9⟩
               have HC9 := Lib.hid (HC8.out.new hc9)
               have HZ9 := Lib.hid (HZ8.out.keep hc9)
               clear hc9)
            | (go_at_call 18
               with_reducible refine (rtext_any HZ9.out HZR.out (by omega)).mono ?_
               rintro e wa ⟨rfl, hca⟩
               have HCA := Lib.hid (HC9.out.new hca)
               clear hca)
            | (go_at_call 15
               with_reducible refine (gl_known (HP.out.here HCA.out)).mono ?_
               rintro e wb ⟨rfl, hcb⟩
               have HCB := Lib.hid (HCA.out.new hcb)
               clear hcb))
          go_ret
          exact ⟨rfl, HCB.out⟩
end
end Go.Proofs.YtodbeeodhekpeaaDoor
