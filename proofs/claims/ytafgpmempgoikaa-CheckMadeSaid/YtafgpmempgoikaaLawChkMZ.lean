/-
  The walk of CheckMade.
-/
import Derived.Test.YtafgpmempgoikaaZNestWithin1
import Derived.Test.YtafgpmempgoikaaZNestWithin2
import Derived.Test.YtafgpmempgoikaaZNestWithin3
import Derived.Test.YtafgpmempgoikaaZNestWithin4
import Derived.Test.YtafgpmempgoikaaZNestWithin5
import Derived.Test.YtafgpmempgoikaaZNestWithin6
import Derived.Test.YtafgpmempgoikaaFrZ
import Derived.Test.YtafgpmempgoikaaCTakesZ
import Derived.Test.YtafgpmempgoikaaWkMemZ
import Derived.Test.YtafgpmempgoikaaWkHalveZ
import Derived.Test.YtafgpmempgoikaaWkEndZ
import Derived.Test.YtafgpmempgoikaaWkLeaveZ
import Derived.Test.YtafgpmempgoikaaWkTurnZ
import Derived.Test.YtafgpmempgoikaaWkStepZ
import Derived.Test.YtafgpmempgoikaaWkPureZ
import Derived.Test.YtafgpmempgoikaaGl1Z
import Derived.Test.YtafgpmempgoikaaGl2Z
import Derived.Test.YtafgpmempgoikaaGlPureZ
import Derived.Test.YtafgpmempgoikaaGlMemZ
import Derived.Test.YtafgpmempgoikaaGlTakeZ
import Derived.Test.YtafgpmempgoikaaGlTokZ
import Derived.Test.YtafgpmempgoikaaWkFuncZ
import Derived.Test.YtafgpmempgoikaaOddZ
import Derived.Test.YtafgpmempgoikaaOddsZ
import Derived.Test.YtafgpmempgoikaaChkSameZ
import Derived.Test.YtafgpmempgoikaaChkTakesZ
import Derived.Test.YtafgpmempgoikaaChkKnownZ
import Derived.Test.YtafgpmempgoikaaChkPureZ
import Derived.Test.YtafgpmempgoikaaEndOkZ
import Derived.Test.YtafgpmempgoikaaValueEZ
import Derived.Test.YtafgpmempgoikaaUnitEZ
import Derived.Test.YtafgpmempgoikaaMdRunesZ
import Derived.Test.YtafgpmempgoikaaMdToksZ
import Derived.Test.YtafgpmempgoikaaMdWalkZ
namespace Go.Proofs.Ytafgpmempgoikaa
open Go.RowKit
/-- A program, and a copy of it in which a code is another one. -/
structure Md (w W : World) (gx gw gf n c : Nat) (pg ms nm ar : Int) (cd : ByteArray) (l : List FnV) : Prop where
  x : Whole W gx 30 [.int .i32 nm, .int .i64 ar, .string cd]
  u : Whole W gw 26 [.int .i64 pg, .int .i64 ms, .slice (some ⟨gf, 0, none⟩) n c]
  o : W.ownsRow (gw + 1) 30 3 (.slice (some ⟨gf, 0, none⟩) n c) n (fnCs l)
  ch : Chg [] w W
  z : w.heap.size ≤ gx ∧ gx < gw ∧ gw < W.heap.size
section
variable {w W : World} {gx gw gf n c : Nat} {pg ms nm ar : Int} {cd : ByteArray} {l : List FnV}
theorem Md.new {W' : World} (h : Md w W gx gw gf n c pg ms nm ar cd l) (hc : Chg [] W W') : Md w W' gx gw gf n c pg ms nm ar cd l :=
  ⟨h.x.keep hc, h.u.keep hc, rown_keep h.o hc, h.ch.new hc, by have := h.z; have := hc.size; omega⟩
theorem Md.gf_ (h : Md w W gx gw gf n c pg ms nm ar cd l) : gw < gf ∧ gf < W.heap.size := by
  have := h.o.lt gf rfl
  omega
theorem Md.code (h : Md w W gx gw gf n c pg ms nm ar cd l) {k : Nat} {f : FnV} (hk : l[k]? = some f) (s : ByteArray) : Md w (W.setCell ⟨gf, k * 3 + 2, none⟩ (.string s)) gx gw gf n c pg ms nm ar cd (l.set k ⟨f.name, f.args, s⟩) := by
  have hz := h.z
  have hg := h.gf_
  refine ⟨h.x.far (by simp only; omega) _, h.u.far (by simp only; omega) _, ?_, h.ch.setCell (fun hh => by simp only at hh; omega) _, by rw [size_set]; exact hz⟩
  have := rown_set (j := k * 3 + 2) (u := .string s) h.o
  rw [fnCs_set l k f ⟨f.name, f.args, s⟩ 2 _ hk (by omega) rfl] at this
  exact this
theorem Md.at_ (h : Md w W gx gw gf n c pg ms nm ar cd l) {k : Nat} {f : FnV} (hk : l[k]? = some f) : W.cell? ⟨gf, k * 3 + 2, none⟩ = some (.string f.code) ∧ W.frozen? ⟨gf, k * 3 + 2, none⟩ = false := by
  obtain ⟨g, e, h1⟩ := rown_cell h.o rfl ((fnCs_get l k f 2 hk (by omega)).trans rfl)
  injection e with e
  injection e with e
  subst e
  exact ⟨h1, rown_frozen h.o⟩
end
/-- check.Func answers such a number. -/
def FnE (r : Int) (w : World) (e : Ending) (w' : World) : Prop := ∃ A m c, e = .returned (.tuple #[.slice A m c, .int .i64 r]) ∧ Chg [] w w'
theorem FnE.of {R : Int × List Int} {r : Int} (hr : R.1 = r) {w : World} {e : Ending} {w' : World} (h : FnPost R w e w') : FnE r w e w' := by
  obtain ⟨v, rfl, ho, hc⟩ := h
  obtain ⟨A, c, rfl, _⟩ := own_slice ho
  subst hr
  exact ⟨A, _, c, rfl, hc⟩
theorem set_same {l : List FnV} {k : Nat} {f : FnV} (h : l[k]? = some f) : l.set k f = l := by
  apply List.ext_getElem?
  intro j
  rw [List.getElem?_set]
  by_cases e : k = j
  · subst e
    rw [if_pos rfl, if_pos (List.getElem?_eq_some_iff.1 h).1, h]
  · rw [if_neg e]
section
variable {w : World} {A : Option Addr} {n c : Nat} {l : List Int}
set_option maxHeartbeats 16000000 in
set_option maxRecDepth 100000 in
theorem checkMade_any (hs : Src w A (nms l)) (hlen : l.length = n) (hspot : 0 < n → ∀ ad, A = some ad → ad.spot = none) (hn : n ≤ 9223372036854775807) (hrng : ∀ x ∈ l, -9223372036854775808 ≤ x ∧ x ≤ 9223372036854775807) :
    Calls Try.prog 9 #[.slice A n c] w (LawPost w) := by
  obtain ⟨i0, hi0, hz0, hz1, hz2⟩ := info_parts info_func
  have HUN := Lib.hid (E.unit_any (c := c) hs hlen hspot hn hrng)
  clear hs hlen hspot hn hrng
  go_enter Try.func9, Try.ntmps9
  go_wp2_with fail
  refine HUN.out.mono ?_
  rintro e w2 ⟨pg, ms, v, fl, rfl, hp0, hp1, hm0, hm1, ho, hg, hfl0, hc2⟩
  obtain ⟨FA, fc, rfl, hFr⟩ := Fnr.of_own ho (by have := hg.u.lo; omega) (fun f hf => by have := hg.u.args f hf; omega)
  have HGD := Lib.hid hg
  have HF2 := Lib.hid hFr
  have HC2 := Lib.hid hc2
  have hf3 := hg.u.lo
  clear HUN ho hg hFr hp0 hp1 hm0 hm1 hc2 hfl0
  obtain ⟨fn, hfn⟩ : ∃ fn, fn = fl.length := ⟨_, rfl⟩
  rw [← hfn] at HF2 hf3 ⊢
  have hfm : fn ≤ 1000 := HF2.out.max
  have HFN := Lib.hid hfn
  clear hfn
  go_upto_region 2 with fail
  have hU := Whole.new w2 26 [.int .i64 pg, .int .i64 ms, .slice FA fn fc]
  have hal := (Chg.refl [] w2).alloc (.cells #[.int .i64 pg, .int .i64 ms, .slice FA fn fc] 26)
  have HF3 := Lib.hid (HF2.out.keep hal)
  have HC3 := Lib.hid (HC2.out.new hal)
  obtain ⟨gu, hgu⟩ : ∃ gu, gu = w2.heap.size := ⟨_, rfl⟩
  rw [← hgu] at hU ⊢
  have HU3 := Lib.hid hU
  generalize w2.alloc (.cells #[.int .i64 pg, .int .i64 ms, .slice FA fn fc] 26) = w3 at HF3 HC3 HU3 ⊢
  clear hU hal hgu HF2 HC2
  have u2 := HU3.out.cell 2
  go_wp2_with fail
  clear u2
  go_loopw [20] (fun i wr => ∃ k : Nat, i = .int .i64 (k : Int) ∧ k ≤ fn ∧ Hid (Chg [] w3 wr)) (fun i _ => fn - (intOf i).toNat)
  case atStart => exact ⟨0, rfl, by omega, Lib.hid (Chg.refl _ _)⟩
  case round =>
    obtain ⟨k, rfl, hk, HCr⟩ := hrel
    by_cases hkn : k < fn
    · have hkI : (k : Int) < (fn : Int) := by omega
      obtain ⟨f, hfk⟩ : ∃ f, fl[k]? = some f := ⟨fl[k]'(by rw [← HFN.out]; exact hkn), by simp⟩
      have hcs := HGD.out.u.size f (List.mem_of_getElem? hfk)
      have HMF := Lib.hid (made_facts HGD.out hfk)
      have HCS := Lib.hid hcs
      have HFr := Lib.hid (HF3.out.keep HCr.out)
      have HFC := Lib.hid (fun (V : World) (hV : Chg [] w3 V) => show Calls Try.prog 23 #[.agg #[.int .i64 pg, .int .i64 ms, .slice FA fn fc], .int .i64 (k : Int)] V (FnE 0 V) from
        (cfunc_any (HF3.out.keep hV) (fun f hf => by have := HGD.out.u.size f hf; omega) (k : Int)).mono fun e w' h => FnE.of HMF.out.1 h)
      obtain ⟨fb, fo, rfl, hfbl, e0, e1, e2⟩ := HFr.out.cell hfk
      have HFK := Lib.hid hfk
      clear hcs
      obtain ⟨nm, ar, cd⟩ := f
      simp only at e0 e1 e2 HCS HMF
      clear hfk
      go_upto_region 5 with fail
      have hX := Whole.new wr 30 [.int .i32 nm, .int .i64 ar, .string cd]
      have hal := (Chg.refl [] wr).alloc (.cells #[.int .i32 nm, .int .i64 ar, .string cd] 30)
      have HC4 := Lib.hid hal
      have hz4 : (wr.alloc (.cells #[.int .i32 nm, .int .i64 ar, .string cd] 30)).heap.size = wr.heap.size + 1 := Array.size_push _
      obtain ⟨gx, hgx⟩ : ∃ g, g = wr.heap.size := ⟨_, rfl⟩
      rw [← hgx] at hX hz4 ⊢
      have HX := Lib.hid hX
      have HGX := Lib.hid (show wr.heap.size ≤ gx from by omega)
      generalize wr.alloc (.cells #[.int .i32 nm, .int .i64 ar, .string cd] 30) = w4 at HC4 HX hz4 ⊢
      have HZ4 := Lib.hid hz4
      clear hX hal hgx e0 e1 e2 hfbl HFr hz4
      have HU4 := Lib.hid (HU3.out.keep (HCr.out.new HC4.out))
      have u0 := HU4.out.cell 0
      have u1 := HU4.out.cell 1
      have u2 := HU4.out.cell 2
      go_wp2_with fail
      refine (HFC.out w4 (HCr.out.new HC4.out)).mono ?_
      rintro e w5 ⟨A5, m5, c5, rfl, hc5⟩
      have HC5 := Lib.hid (HC4.out.new hc5)
      have HX5 := Lib.hid (HX.out.keep hc5)
      have HU5 := Lib.hid (HU4.out.keep hc5)
      have hx5 : gx < w5.heap.size := by have := HZ4.out; have := hc5.size; omega
      have HX5z := Lib.hid hx5
      clear hc5 u0 u1 u2 HU4 HFC HX HZ4 HC4 hx5
      have u0 := HU5.out.cell 0
      have u1 := HU5.out.cell 1
      have u2 := HU5.out.cell 2
      go_upto_region 9 with fail
      have hW := Whole.new w5 26 [.int .i64 pg, .int .i64 ms, .slice (some ⟨fb, fo, none⟩) fn fc]
      have hal := (Chg.refl [] w5).alloc (.cells #[.int .i64 pg, .int .i64 ms, .slice (some ⟨fb, fo, none⟩) fn fc] 26)
      have hz6 : (w5.alloc (.cells #[.int .i64 pg, .int .i64 ms, .slice (some ⟨fb, fo, none⟩) fn fc] 26)).heap.size = w5.heap.size + 1 := Array.size_push _
      have HX6 := Lib.hid (HX5.out.keep hal)
      have HU6 := Lib.hid (HU5.out.keep hal)
      have HC6 := Lib.hid (HC5.out.new hal)
      obtain ⟨gw, hgw⟩ : ∃ g, g = w5.heap.size := ⟨_, rfl⟩
      rw [← hgw] at hW hz6 ⊢
      have HGW := Lib.hid (show gx < gw from by have := HX5z.out; omega)
      have HW6 := Lib.hid hW
      generalize w5.alloc (.cells #[.int .i64 pg, .int .i64 ms, .slice (some ⟨fb, fo, none⟩) fn fc] 26) = w6 at HX6 HU6 HC6 HW6 hz6 ⊢
      have HZ6 := Lib.hid hz6
      clear hal hW hgw hz6 HX5 HU5 HC5 HX5z u0 u1 u2
      have hal : Chg [] w6 (w6.alloc (.cells #[] 30)) := (Chg.refl [] w6).alloc _
      have HL := Lib.hid (show fl.length = fn from HFN.out.symm)
      have HX4 := Lib.hid (show ∀ j u, (fnCs fl)[j]? = some u → (w6.alloc (.cells #[] 30)).cell? ((⟨fb, fo, none⟩ : Addr).add j) = some u from by
        obtain ⟨ad, e, _, hx⟩ := ((HF3.out.keep (HCr.out.new HC6.out)).src.keep hal) (by rw [fnCs_len, HL.out]; omega)
        injection e with e
        subst e
        exact hx)
      have HO4 := Lib.hid (own_more_n (own_empty3 w6 30) (show gw + 1 ≤ w6.heap.size from by have := HZ6.out; omega))
      have HAL := Lib.hid hal
      have u2a := (HU6.out.keep hal).cell 2
      have u2 := HU6.out.cell 2
      clear hal
      go_upto_region 10 with (at_builtin
                              refine wpList_append_own _ rfl (.tmp 34) (.tmp 36) _ rfl (gw + 1) 30 i0 _ 3 32 Try.underlying24 hi0 hz0 hz1 hz2 rfl (by decide) (.slice (some ⟨w6.heap.size, 0, none⟩) 0 0) 0 [] rfl HO4.out ⟨fb, fo, none⟩ fn fc (fnCs fl) rfl (by rw [fnCs_len, HL.out]) HX4.out (fnCs_ones fl) (by simp only [maxLen]; omega) (by omega) (by have := HZ6.out; have := HAL.out.size; omega) ?_
                              intro v' w7 ho7 hg7 _
                              rw [Nat.zero_add, List.nil_append] at ho7
                              have hw7 := whole_grown (HW6.out.keep HAL.out) HO4.out (by decide) hg7
                              obtain ⟨gf, c7, rfl⟩ : ∃ gf c7, v' = .slice (some ⟨gf, 0, none⟩) fn c7 := by
                                rcases ho7.2 with ⟨_, h0⟩ | ⟨g, cap, cur, e, _⟩
                                · omega
                                · exact ⟨g, cap, e⟩
                              have w2c := hw7.cell 2
                              have fw2 := hw7.frozen 2
                              have HO7 := Lib.hid ho7
                              have HG7 := Lib.hid hg7
                              clear ho7 hg7 hw7)
      have HM := Lib.hid (show Md wr (w7.setCell ⟨gw, 2, none⟩ (.slice (some ⟨gf, 0, none⟩) fn c7)) gx gw gf fn c7 pg ms nm ar cd fl from by
        have hg7 := HG7.out
        have hgx := HGX.out
        have hgw := HGW.out
        have hz6 := HZ6.out
        refine ⟨((HX6.out.keep HAL.out).grownNe hg7 (fun e => by simp [Value.ownBlock] at e; omega)).far (by simp only; omega) _, ?_, ?_, ?_, ?_⟩
        · have := (whole_grown (HW6.out.keep HAL.out) HO4.out (by decide) hg7).set_ 2 (.slice (some ⟨gf, 0, none⟩) fn c7)
          simpa using this
        · exact rown_far HO7.out (fun hb => by have := (HO7.out.lt _ hb).1; simp only at this; omega)
        · exact (chg_grown2 (HC6.out.new HAL.out) hg7 (fun b hb => by have := (HO4.out.lt b hb).1; omega)).setCell (fun hh => by simp only at hh; omega) _
        · rw [size_set]; have := hg7.size; have := HAL.out.size; omega)
      clear HX6 HU6 HC6 HW6 HZ6 HX4 HO4 HAL u2a u2 w2c fw2 HO7 HG7 HGX HGW
      generalize w7.setCell ⟨gw, 2, none⟩ (.slice (some ⟨gf, 0, none⟩) fn c7) = w8 at HM ⊢
      have x2 : w8.cell? ⟨gx, 2, none⟩ = some (.string cd) := HM.out.x.cell 2
      obtain ⟨s1, hs1⟩ : ∃ y, y = cd ++ ⟨#[32, 49]⟩ := ⟨_, rfl⟩
      obtain ⟨s2, hs2⟩ : ∃ y, y = cd ++ ⟨#[44]⟩ := ⟨_, rfl⟩
      obtain ⟨s3, hs3⟩ : ∃ y, y = ⟨#[43]⟩ ++ cd := ⟨_, rfl⟩
      have k1 : (⟨#[32, 49]⟩ : ByteArray).size = 2 := rfl
      have k2 : (⟨#[44]⟩ : ByteArray).size = 1 := rfl
      have k3 : (⟨#[43]⟩ : ByteArray).size = 1 := rfl
      have a1 : ∀ W, (Op.stringOp .add cd ⟨#[32, 49]⟩).run Try.prog W = .ok (.string s1) W := fun W => by rw [hs1]; exact run_string_add_sum W _ _ (by have := HCS.out; omega)
      have a2 : ∀ W, (Op.stringOp .add cd ⟨#[44]⟩).run Try.prog W = .ok (.string s2) W := fun W => by rw [hs2]; exact run_string_add_sum W _ _ (by have := HCS.out; omega)
      have a3 : ∀ W, (Op.stringOp .add ⟨#[43]⟩ cd).run Try.prog W = .ok (.string s3) W := fun W => by rw [hs3]; exact run_string_add_sum W _ _ (by have := HCS.out; omega)
      have z1 : s1.size ≤ 1002 := by rw [hs1, ByteArray.size_append']; have := HCS.out; omega
      have z2 : s2.size ≤ 1002 := by rw [hs2, ByteArray.size_append']; have := HCS.out; omega
      have z3 : s3.size ≤ 1002 := by rw [hs3, ByteArray.size_append']; have := HCS.out; omega
      have HS3 := Lib.hid (show ∀ y ∈ [s1, s2, s3], y.size ≤ 1002 ∧ (y.size ≤ 512 → (rFn (fl.set k ⟨nm, ar, y⟩) (k : Int)).1 = 14) from fun y hy => by
        simp only [List.mem_cons, List.not_mem_nil, or_false] at hy
        rcases hy with e | e | e
        · exact ⟨by rw [e]; exact z1, HMF.out.2.1 y (.inl (by rw [e]; exact hs1))⟩
        · exact ⟨by rw [e]; exact z2, HMF.out.2.1 y (.inr (.inl (by rw [e]; exact hs2)))⟩
        · exact ⟨by rw [e]; exact z3, HMF.out.2.1 y (.inr (.inr (by rw [e]; exact hs3)))⟩)
      have a1w := a1 w8
      have a2w := a2 w8
      have a3w := a3 w8
      clear hs1 hs2 hs3 k1 k2 k3 a1 a2 a3 z1 z2 z3
      go_upto_region 11 with fail
      have hS := Whole.new w8 9 [.string s1, .string s2, .string s3]
      have hal := (Chg.refl [] w8).alloc (.cells #[.string s1, .string s2, .string s3] 9)
      have HM9 := Lib.hid (HM.out.new hal)
      have hgf := HM.out.gf_
      obtain ⟨gs, hgs⟩ : ∃ g, g = w8.heap.size := ⟨_, rfl⟩
      rw [← hgs] at hS hgf ⊢
      have HGS := Lib.hid (show gf ≠ gs from by omega)
      have HS := Lib.hid hS
      generalize w8.alloc (.cells #[.string s1, .string s2, .string s3] 9) = w9 at HM9 HS ⊢
      clear hS hal hgs hgf HM x2 a1w a2w a3w
      have HFLK := Lib.hid (show fl[k]? = some ⟨nm, ar, cd⟩ from HFK.out)
      have HKL := Lib.hid (show ∀ z : ByteArray, (fl.set k ⟨nm, ar, z⟩)[k]? = some ⟨nm, ar, z⟩ from fun z => by rw [List.getElem?_set, if_pos rfl, if_pos (List.getElem?_eq_some_iff.1 HFLK.out).1])
      have HCL := Lib.hid (show ∀ (z : ByteArray) (r : Int) (V : World), z.size ≤ 1100 → (rFn (fl.set k ⟨nm, ar, z⟩) (k : Int)).1 = r → Md wr V gx gw gf fn c7 pg ms nm ar cd (fl.set k ⟨nm, ar, z⟩) → Calls Try.prog 23 #[.agg #[.int .i64 pg, .int .i64 ms, .slice (some ⟨gf, 0, none⟩) fn c7], .int .i64 (k : Int)] V (FnE r V) from fun z r V hz hr hM => by
        have hall : ∀ g ∈ fl.set k ⟨nm, ar, z⟩, (0 ≤ g.args ∧ g.args ≤ 2) ∧ g.code.size ≤ 1100 := fun g hg => by
          rcases List.mem_or_eq_of_mem_set hg with h | h
          · exact ⟨HGD.out.u.args g h, by have := HGD.out.u.size g h; omega⟩
          · subst h
            exact ⟨HGD.out.u.args ⟨nm, ar, cd⟩ (List.mem_of_getElem? HFLK.out), hz⟩
        obtain ⟨A', c', e', hF⟩ := Fnr.of_own hM.o (by omega) (fun g hg => by have := (hall g hg).1; omega)
        injection e' with e1 _ e2
        subst e1; subst e2
        exact (cfunc_any hF (fun g hg => by have := (hall g hg).2; omega) (k : Int)).mono fun e w' h => FnE.of hr h)
      clear HFK
      go_wp2_with fail
      go_loopw [50] (fun i wx => ∃ q : Nat, i = .int .i64 (q : Int) ∧ q ≤ 3 ∧ Hid (∃ z, Md wr wx gx gw gf fn c7 pg ms nm ar cd (fl.set k ⟨nm, ar, z⟩)) ∧ Hid (Whole wx gs 9 [.string s1, .string s2, .string s3])) (fun i _ => 3 - (intOf i).toNat)
      case atStart => exact ⟨0, rfl, by omega, Lib.hid ⟨cd, by rw [set_same HFLK.out]; exact HM9.out⟩, HS⟩
      case round =>
        obtain ⟨q, rfl, hq, HMq, HSq⟩ := hrel
        obtain ⟨z, hMz⟩ := HMq.out
        have HMz := Lib.hid hMz
        clear hMz HMq
        by_cases hq3 : q < 3
        · have hqI : (q : Int) < 3 := by omega
          obtain ⟨y, hy, hym⟩ : ∃ y, [Value.string s1, .string s2, .string s3][q]? = some (.string y) ∧ y ∈ [s1, s2, s3] := by
            have hc : q = 0 ∨ q = 1 ∨ q = 2 := by omega
            rcases hc with rfl | rfl | rfl
            · exact ⟨s1, rfl, by simp⟩
            · exact ⟨s2, rfl, by simp⟩
            · exact ⟨s3, rfl, by simp⟩
          have hcell := (HSq.out.cell q).trans hy
          obtain ⟨hy1, hy2⟩ := HS3.out y hym
          have HY2 := Lib.hid hy2
          clear hy hym hy2
          by_cases h512 : y.size ≤ 512
          · have h5I : (y.size : Int) ≤ 512 := by omega
            have w2c := HMz.out.u.cell 2
            obtain ⟨c2z, f2z⟩ := HMz.out.at_ (HKL.out z)
            go_upto_region 15 with fail
            have hM10 := HMz.out.code (HKL.out z) y
            rw [List.set_set] at hM10
            have HM10 := Lib.hid hM10
            have HS10 := Lib.hid (HSq.out.far (p := ⟨gf, k * 3 + 2, none⟩) (fun hh => HGS.out hh.symm) (.string y))
            generalize wr.setCell ⟨gf, k * 3 + 2, none⟩ (.string y) = w10 at HM10 HS10 ⊢
            clear hM10 hcell w2c c2z f2z HMz HSq
            have u0 := HM10.out.u.cell 0
            have u1 := HM10.out.u.cell 1
            have u2 := HM10.out.u.cell 2
            go_wp2_with fail
            refine (HCL.out y 14 w10 (by omega) (HY2.out h512) HM10.out).mono ?_
            rintro e w11 ⟨A11, m11, c11, rfl, hc11⟩
            have HM11 := Lib.hid (HM10.out.new hc11)
            have HS11 := Lib.hid (HS10.out.keep hc11)
            clear hc11 u0 u1 u2 HM10 HS10
            go_wp2_with fail
            go_roundw
            case rel => exact ⟨q + 1, by go_num, by omega, Lib.hid ⟨y, HM11.out⟩, HS11⟩
            case measure => simp [intOf]; omega
          · have h5I : (512 : Int) < (y.size : Int) := by omega
            go_wp2_with fail
            go_roundw
            case rel => exact ⟨q + 1, by go_num, by omega, Lib.hid ⟨z, HMz.out⟩, HSq⟩
            case measure => simp [intOf]; omega
        · have hqI : (3 : Int) ≤ (q : Int) := by omega
          obtain ⟨t1, ht1⟩ : ∃ y, y = ⟨#[97, 63]⟩ ++ cd := ⟨_, rfl⟩
          obtain ⟨t2, ht2⟩ : ∃ y, y = t1 ++ ⟨#[58]⟩ := ⟨_, rfl⟩
          obtain ⟨t3, ht3⟩ : ∃ y, y = t2 ++ ⟨#[32, 55, 59]⟩ := ⟨_, rfl⟩
          have k1 : (⟨#[97, 63]⟩ : ByteArray).size = 2 := rfl
          have k2 : (⟨#[58]⟩ : ByteArray).size = 1 := rfl
          have k3 : (⟨#[32, 55, 59]⟩ : ByteArray).size = 3 := rfl
          have z1 : t1.size ≤ 1002 := by rw [ht1, ByteArray.size_append']; have := HCS.out; omega
          have z2 : t2.size ≤ 1003 := by rw [ht2, ByteArray.size_append']; omega
          have z3 : t3.size ≤ 1006 := by rw [ht3, ByteArray.size_append']; omega
          have a1 : (Op.stringOp .add ⟨#[97, 63]⟩ cd).run Try.prog wr = .ok (.string t1) wr := by rw [ht1]; exact run_string_add_sum wr _ _ (by have := HCS.out; omega)
          have a2 : (Op.stringOp .add t1 ⟨#[58]⟩).run Try.prog wr = .ok (.string t2) wr := by rw [ht2]; exact run_string_add_sum wr _ _ (by omega)
          have a3 : (Op.stringOp .add t2 ⟨#[32, 55, 59]⟩).run Try.prog wr = .ok (.string t3) wr := by rw [ht3]; exact run_string_add_sum wr _ _ (by omega)
          have HR3 := Lib.hid (HMF.out.2.2 t3 (by rw [ht3, ht2, ht1]))
          clear ht1 ht2 ht3 k1 k2 k3 z1 z2
          have x2 := HMz.out.x.cell 2
          have w2c := HMz.out.u.cell 2
          obtain ⟨c2z, f2z⟩ := HMz.out.at_ (HKL.out z)
          go_upto_region 20 with fail
          have hM10 := HMz.out.code (HKL.out z) t3
          rw [List.set_set] at hM10
          have HM10 := Lib.hid hM10
          generalize wr.setCell ⟨gf, k * 3 + 2, none⟩ (.string t3) = w10 at HM10 ⊢
          clear hM10 x2 w2c c2z f2z HMz HSq a1 a2 a3
          have u0 := HM10.out.u.cell 0
          have u1 := HM10.out.u.cell 1
          have u2 := HM10.out.u.cell 2
          obtain ⟨r, hr⟩ : ∃ r, r = (rFn (fl.set k ⟨nm, ar, t3⟩) (k : Int)).1 := ⟨_, rfl⟩
          go_wp2_with fail
          refine (HCL.out t3 r w10 (by omega) hr.symm HM10.out).mono ?_
          rintro e w11 ⟨A11, m11, c11, rfl, hc11⟩
          have HM11 := Lib.hid (HM10.out.new hc11)
          rw [← hr] at HR3
          have HCW := Lib.hid (HCr.out.new HM11.out.ch)
          have w2c := HM11.out.u.cell 2
          obtain ⟨c2z, f2z⟩ := HM11.out.at_ (HKL.out t3)
          clear hc11 u0 u1 u2 HM10 hr HM11
          by_cases h512 : t3.size ≤ 512
          · have h5I : (t3.size : Int) ≤ 512 := by omega
            rcases HR3.out h512 with rfl | rfl
            · clear HR3
              go_wp2_with fail
              go_roundw
              case rel => exact ⟨k + 1, by go_num, by omega, HCW⟩
              case measure => simp [intOf]; omega
            · clear HR3
              go_wp2_with fail
              go_roundw
              case rel => exact ⟨k + 1, by go_num, by omega, HCW⟩
              case measure => simp [intOf]; omega
          · have h5I : (512 : Int) < (t3.size : Int) := by omega
            clear HR3
            go_wp2_with fail
            go_roundw
            case rel => exact ⟨k + 1, by go_num, by omega, HCW⟩
            case measure => simp [intOf]; omega
    · have hkI : (fn : Int) ≤ (k : Int) := by omega
      have HCZ := Lib.hid (HC3.out.new HCr.out)
      go_wp2_with fail
      refine cknown_any.mono ?_
      rintro e w12 ⟨rfl, hc12⟩
      have HP := Lib.hid (show LawPost w (.returned (.bool true)) w12 from ⟨rfl, HCZ.out.new hc12⟩)
      clear hc12
      go_wp2_with fail
      go_ret
      exact HP.out
end
end Go.Proofs.Ytafgpmempgoikaa
