/-
  EC: URight, GoodR, EgTop0, EgSame, EngQn, RightA.
-/
import Derived.Test.YtfhgnoajfipjdaaZEC6
import Derived.Test.YtfhgnoajfipjdaaZEC22
import Derived.Test.YtfhgnoajfipjdaaZEC26
import Derived.Test.YtfhgnoajfipjdaaZEC28
import Derived.Test.YtfhgnoajfipjdaaZEC32
import Derived.Deep.QuietTactic
import Derived.BigQuiet
namespace Go.Proofs.Ytfhgnoajfipjdaa
open Go.RowKit
structure RightU (pages most : Int) (l : List FnV) : Prop where
  p0 : 0 ≤ pages
  pm : pages ≤ most
  m64 : most ≤ 64
  few : l.length ≤ 32
  fn : ∀ (k : Nat) (f : FnV), l[k]? = some f → nameB f.name = true ∧ findI l f.name = (k : Int) ∧ 0 ≤ f.args ∧ f.args ≤ 4
  ok : ∀ k : Nat, k < l.length → (rFn l (k : Int)).1 = 0
  small : ∀ f ∈ l, f.code.size ≤ 1000000
def RightPost (W : World) (r : Int) (e : Ending) (w' : World) : Prop := e = .returned (.int .i64 r) ∧ Chg [] W w'
section
variable {W : World} {A : Option Addr} {n c : Nat} {l : List FnV} {pages most : Int}
set_option maxHeartbeats 8000000 in
set_option maxRecDepth 100000 in
theorem right_ok (h : Fnr W A n c l) (hr : RightU pages most l) : Calls Try.prog 22 #[unitV pages most A n c] W (RightPost W 0) := by
  have hn32 : n ≤ 32 := by rw [← h.len]; exact hr.few
  have hp0 := hr.p0
  have hpm := hr.pm
  have hm64 := hr.m64
  have H := Lib.hid h
  have HR := Lib.hid hr
  have HCF := Lib.hid (fun (w : World) (hc : Chg [] W w) (k : Int) => cfunc_any (pages := pages) (most := most) (h.keep hc) hr.small k)
  have HFI := Lib.hid (fun (w : World) (hc : Chg [] W w) (nm : Int) => cfind_any (pages := pages) (most := most) (h.keep hc) nm)
  unfold unitV at HCF HFI ⊢
  clear h hr
  have b1 : decide (pages < 0) = false := by simp; omega
  have b2 : decide (most < pages) = false := by simp; omega
  have b3 : decide (64 < most) = false := by simp; omega
  have b4 : decide (32 < (n : Int)) = false := by simp; omega
  go_enter Try.func22, Try.ntmps22
  go_upto_region 1 with fail
  have hN := Whole.new W 28 [.int .i64 pages, .int .i64 most, .slice A n c]
  have hal : Chg [] W (W.alloc (.cells #[.int .i64 pages, .int .i64 most, .slice A n c] 28)) := (Chg.refl [] W).alloc _
  obtain ⟨g, hg⟩ : ∃ g, g = W.heap.size := ⟨_, rfl⟩
  rw [← hg] at hN ⊢
  have HU := Lib.hid hN
  have HC := Lib.hid hal
  generalize W.alloc (.cells #[.int .i64 pages, .int .i64 most, .slice A n c] 28) = w1 at HU HC ⊢
  clear hN hal hg
  have u0 := HU.out.cell 0
  have u1 := HU.out.cell 1
  have u2 := HU.out.cell 2
  go_wp2_with fail
  go_loopw [30] (fun i wr => ∃ k : Nat, i = .int .i64 (k : Int) ∧ k ≤ n ∧ Hid (Chg [] w1 wr)) (fun i _ => n - (intOf i).toNat)
  case atStart => exact ⟨0, rfl, by omega, Lib.hid (Chg.refl [] _)⟩
  case round =>
    obtain ⟨k, rfl, hk, HCr⟩ := hrel
    have HUr := Lib.hid (HU.out.keep HCr.out)
    by_cases hkn : k < n
    · have hkI : (k : Int) < (n : Int) := by omega
      obtain ⟨t, htk⟩ : ∃ t, l[k]? = some t := ⟨l[k]'(by rw [H.out.len]; exact hkn), by simp⟩
      obtain ⟨hnm, hfi, ha0, ha4⟩ := HR.out.fn k t htk
      obtain ⟨fb, fo, rfl, hfbl, e0, e1, e2⟩ := (H.out.keep (HC.out.new HCr.out)).cell htk
      obtain ⟨tn, ta, tc⟩ := t
      simp only at e0 e1 e2 hnm hfi ha0 ha4
      clear htk
      go_upto_region 8 with fail
      have hX := Whole.new wr 51 [.int .i32 tn, .int .i64 ta, .string tc]
      have hc2 := (Chg.refl [] wr).alloc (.cells #[.int .i32 tn, .int .i64 ta, .string tc] 51)
      have HX2 := Lib.hid hX
      have HC2 := Lib.hid (HCr.out.new hc2)
      have HU2 := Lib.hid (HUr.out.keep hc2)
      generalize wr.heap.size = gx at HX2 ⊢
      generalize wr.alloc (.cells #[.int .i32 tn, .int .i64 ta, .string tc] 51) = w3 at HX2 HC2 HU2 ⊢
      clear hX e0 e1 e2 hfbl hc2
      have x0 := HX2.out.cell 0
      have x1 := HX2.out.cell 1
      have v0 := HU2.out.cell 0
      have v1 := HU2.out.cell 1
      have v2 := HU2.out.cell 2
      have q1 : decide (ta < 0) = false := by simp; omega
      have q2 : decide (4 < ta) = false := by simp; omega
      have HNM := Lib.hid (fun w => gname_any tn w)
      rw [hnm] at HNM
      have HFX := Lib.hid (HFI.out w3 (HC.out.new HC2.out) tn)
      rw [hfi] at HFX
      clear hnm hfi
      go_wp2_with (first
        | (go_at_call 62
           refine (HNM.out _).mono ?_
           rintro e w4 ⟨rfl, rfl⟩)
        | (go_at_call 51
           refine HFX.out.mono ?_
           rintro e w5 ⟨rfl, hc5⟩
           have y1 := cell_keep (by simpa using x1 : w3.cell? ⟨gx, 1, none⟩ = some (.int .i64 ta)) hc5
           have HC5 := Lib.hid (HC2.out.new hc5)
           clear hc5))
      exact ⟨⟨k + 1, by simp, by omega, HC5⟩, by simp [intOf]; omega⟩
    · have hkI : (n : Int) ≤ (k : Int) := by omega
      have v0 := HUr.out.cell 0
      have v1 := HUr.out.cell 1
      have v2 := HUr.out.cell 2
      go_wp2_with fail
      go_loopw [61] (fun i ws => ∃ k : Nat, i = .int .i64 (k : Int) ∧ k ≤ n ∧ Hid (Chg [] w1 ws)) (fun i _ => n - (intOf i).toNat)
      case atStart => exact ⟨0, rfl, by omega, HCr⟩
      case round =>
        obtain ⟨j, rfl, hj, HCs⟩ := hrel
        have HUs := Lib.hid (HU.out.keep HCs.out)
        by_cases hjn : j < n
        · have hjI : (j : Int) < (n : Int) := by omega
          have s0 := HUs.out.cell 0
          have s1 := HUs.out.cell 1
          have s2 := HUs.out.cell 2
          have HOK := Lib.hid (HR.out.ok j (by rw [H.out.len]; exact hjn))
          have HFN := Lib.hid (HCF.out wr (HC.out.new HCs.out) (j : Int))
          generalize rFn l (j : Int) = R at HOK HFN
          go_wp2_with fail
          refine HFN.out.mono ?_
          rintro e w5 ⟨v, rfl, ho, hc5⟩
          have HC5 := Lib.hid (HCs.out.new hc5)
          obtain ⟨Av, cv, rfl, _⟩ := own_slice ho
          rw [HOK.out]
          clear ho hc5
          go_wp2_with fail
          go_roundw
          case rel => exact ⟨j + 1, by go_num, by omega, HC5⟩
          case measure => simp [intOf]; omega
        · have hjI : (n : Int) ≤ (j : Int) := by omega
          have HP := Lib.hid (show RightPost W 0 (.returned (.int .i64 0)) wr from ⟨rfl, HC.out.new HCs.out⟩)
          go_wp2_with fail
          go_ret
          exact HP.out
end
end Go.Proofs.Ytfhgnoajfipjdaa
namespace Go.Proofs.Ytfhgnoajfipjdaa
open Go.RowKit
theorem GoodU.find {l : List FnV} (h : GoodU l) {k : Nat} {f : FnV} (hk : l[k]? = some f) : findI l f.name = (k : Int) ∧ nameB f.name = true := by
  have nm : ∀ (i : Nat) (g : FnV), l[i]? = some g → nmL[i]? = some g.name := fun i g hg => (h.fn i g hg).1
  have hlo := h.lo
  have hkl := (List.getElem?_eq_some_iff.1 hk).1
  have e := nm k f hk
  have hk3 : k = 0 ∨ k = 1 ∨ k = 2 := by omega
  rcases hk3 with rfl | rfl | rfl
  · have hn : f.name = 102 := by simpa [nmL] using e.symm
    match l, hk with
    | a :: r, hk =>
      simp only [List.getElem?_cons_zero, Option.some.injEq] at hk
      subst hk
      refine ⟨?_, by rw [hn]; decide⟩
      simp [findI, findK]
  · have hn : f.name = 103 := by simpa [nmL] using e.symm
    match l, hk with
    | a :: b :: r, hk =>
      have h0 := nm 0 a rfl
      have hn0 : a.name = 102 := by simpa [nmL] using h0.symm
      simp only [List.getElem?_cons_zero, List.getElem?_cons_succ, Option.some.injEq] at hk
      subst hk
      refine ⟨?_, by rw [hn]; decide⟩
      simp [findI, findK, hn0, hn]
  · have hn : f.name = 945 := by simpa [nmL] using e.symm
    match l, hk with
    | a :: b :: d :: r, hk =>
      have h0 := nm 0 a rfl
      have hn0 : a.name = 102 := by simpa [nmL] using h0.symm
      have h1 := nm 1 b rfl
      have hn1 : b.name = 103 := by simpa [nmL] using h1.symm
      simp only [List.getElem?_cons_zero, List.getElem?_cons_succ, Option.some.injEq] at hk
      subst hk
      refine ⟨?_, by rw [hn]; decide⟩
      simp [findI, findK, hn0, hn1, hn]
theorem GoodU.right {l : List FnV} (h : GoodU l) {pg ms : Int} (h0 : 0 ≤ pg) (h1 : pg ≤ ms) (h2 : ms ≤ 64) : RightU pg ms l := by
  refine ⟨h0, h1, h2, by have := h.lo; omega, fun k f hk => ?_, fun k hk => ?_, fun f hf => by have := h.size f hf; omega⟩
  · have ha := h.args f (List.mem_of_getElem? hk)
    exact ⟨(h.find hk).2, (h.find hk).1, ha.1, by omega⟩
  · have hf := h.func (List.getElem?_eq_getElem hk)
    rw [hf.2]
    exact hf.1
theorem RightU.rfunc {l : List FnV} {pg ms : Int} (h : RightU pg ms l) {k : Nat} {f : FnV} (hk : l[k]? = some f) : (rFunc l f.code).1 = 0 := by
  have hlt := (List.getElem?_eq_some_iff.1 hk).1
  have := h.ok k hlt
  unfold rFn at this
  rw [if_neg (by omega), show ((k : Int)).toNat = k from rfl, hk] at this
  exact this
end Go.Proofs.Ytfhgnoajfipjdaa
namespace Go.Proofs.Ytfhgnoajfipjdaa
open Go.RowKit
theorem readable_of {pages most : Int} {l : List FnV} (h : RightU pages most l) : Readable l := by
  intro f hf
  obtain ⟨k, hk⟩ := List.getElem?_of_mem hf
  have hkl := (List.getElem?_eq_some_iff.1 hk).1
  refine ⟨(h.fn k f hk).2.2.1, ?_⟩
  have h0 := h.ok k hkl
  unfold rFn at h0
  rw [if_neg (by omega), Int.toNat_natCast, hk] at h0
  simp only at h0
  unfold rFunc at h0
  cases ht : tokR f.code with
  | none => rw [ht] at h0; simp only [tokE] at h0; exfalso; revert h0; split <;> simp
  | some ts =>
    rw [ht] at h0
    simp only at h0
    cases hn : rNest (signs ts) with
    | none => rw [hn] at h0; simp at h0
    | some R => exact ⟨ts, R, rfl, hn⟩
/-- Asks as a slice, in a row of asks. -/
def QSl (w : World) (v : Value) (qs : List (Int × Int)) : Prop := ∃ A c, v = .slice A qs.length c ∧ qs.length ≤ c ∧ Src w A (qsC qs) ∧ (∀ ad, A = some ad → ad.spot = none) ∧ (0 < qs.length → ∀ ad, A = some ad → ∃ cs fz, w.heap[ad.block]? = some (.cells cs 53 fz))
theorem QSl.keep {w w' : World} {v : Value} {qs : List (Int × Int)} (h : QSl w v qs) (hc : Chg [] w w') : QSl w' v qs := by
  obtain ⟨A, c, e, h1, h2, h3, h4⟩ := h
  refine ⟨A, c, e, h1, h2.keep hc, h3, fun h0 ad ha => ?_⟩
  obtain ⟨cs, fz, hb⟩ := h4 h0 ad ha
  have hlt : ad.block < w.heap.size := by
    rcases Nat.lt_or_ge ad.block w.heap.size with h | h
    · exact h
    · rw [Array.getElem?_eq_none h] at hb; cases hb
  exact ⟨cs, fz, (hc.block _ hlt (by simp)).trans hb⟩
theorem rown_src {w : World} {B n k : Nat} {e : TypeId} {v : Value} {xs : List Value} (h : w.ownsRow B e k v n xs) : ∃ A c, v = .slice A n c ∧ n ≤ c ∧ Src w A xs ∧ ∀ ad, A = some ad → ad.spot = none := by
  have hx := h.1
  rcases h.2 with ⟨rfl, rfl⟩ | ⟨g, cap, cur, rfl, hb, hg, hn, hc, hs, ht⟩
  · exact ⟨none, 0, rfl, Nat.le_refl _, fun h0 => by rw [hx] at h0; simp at h0, fun ad h => by cases h⟩
  · refine ⟨_, cap, rfl, hn, fun h0 => ⟨_, rfl, ?_, fun j u hj => h.cells rfl j u hj⟩, fun ad h => by injection h with h; subst h; rfl⟩
    rcases Nat.lt_or_ge g w.heap.size with h | h
    · exact h
    · rw [Array.getElem?_eq_none h] at hg; cases hg
theorem qsC_drop (qs : List (Int × Int)) : ∀ n, qsC (qs.drop n) = (qsC qs).drop (n * 2) := by
  induction qs with
  | nil => intro n; simp [qsC]
  | cons x l ih =>
    intro n
    cases n with
    | zero => simp
    | succ n =>
      rw [List.drop_succ_cons, ih n, show (n + 1) * 2 = n * 2 + 1 + 1 from by omega]
      simp [qsC]
theorem qsl_drop {w : World} {B m c n : Nat} {A : Option Addr} {qs : List (Int × Int)} (h : w.ownsRow B 53 2 (.slice A m c) m (qsC qs)) (hm : m = qs.length) (hn : n ≤ m) : QSl w (.slice (if c = n then A else Option.map (fun x => x.add (n * 2)) A) (m - n) (c - n)) (qs.drop n) := by
  obtain ⟨A', c', e', hc, hs, hA⟩ := rown_src h
  injection e' with e1 _ e3
  subst e1
  subst e3
  refine ⟨_, c - n, by rw [List.length_drop, hm], by rw [List.length_drop]; omega, fun h0 => ?_, fun ad had => ?_, fun h0 ad had => ?_⟩
  · rw [qsC_len, List.length_drop] at h0
    obtain ⟨ad, rfl, hlt, hx⟩ := hs (by rw [qsC_len]; omega)
    obtain ⟨b, o, sp⟩ := ad
    obtain rfl : sp = none := hA _ rfl
    rw [if_neg (by omega)]
    refine ⟨⟨b, o + n * 2, none⟩, by simp [add_plain], hlt, fun j u hj => ?_⟩
    have := hx (n * 2 + j) u (by rw [qsC_drop, List.getElem?_drop] at hj; exact hj)
    rw [add_plain] at this ⊢
    rw [Nat.add_assoc]
    exact this
  · split at had
    · exact hA ad had
    · cases A with
      | none => cases had
      | some x =>
        simp only [Option.map_some] at had
        injection had with had
        subst had
        obtain ⟨b, o, sp⟩ := x
        obtain rfl : sp = none := hA _ rfl
        simp [add_plain]
  · rw [List.length_drop] at h0
    rcases h.2 with ⟨e1, e2⟩ | ⟨g, cap, cur, e1, hb, hg, _⟩
    · subst e2; omega
    · injection e1 with e1 _ e3
      subst e1
      subst e3
      have hbl : ad.block = g := by
        split at had
        · injection had with had; rw [← had]
        · simp only [Option.map_some, Option.some.injEq] at had; rw [← had, add_plain]
      rw [hbl]
      exact ⟨_, _, hg⟩
section
variable {w : World} {p : Nat} {rs : List (Option Int)} {qs : List (Int × Int)} {a q : Value}
set_option maxHeartbeats 2000000 in
set_option maxRecDepth 100000 in
theorem asks_every (h : Rq w p rs qs a q) (hq : qs.length ≤ 1000000000) : Calls Try.prog 20 #[.pointer (some ⟨p, 0, none⟩)] w (AsksPost w qs) := by
  by_cases h0 : 0 < qs.length
  · exact asks_any h hq h0
  · obtain rfl : qs = [] := List.eq_nil_of_length_eq_zero (by omega)
    obtain ⟨i0, hi, hz0, hz1, hz2⟩ := info_parts info_rask
    obtain ⟨A2, c2, rfl, _, hcm2, hsp⟩ := rown_slice h.asks
    have e1 := h.rec_.cell 1
    have HSP := Lib.hid hsp
    clear h h0 hsp
    have HP := Lib.hid (show AsksPost w [] (.returned (.slice none 0 0)) w from ⟨_, rfl, World.ownsRow_nil _ _ _ _, Chg.refl _ _⟩)
    rcases A2 with _ | ⟨g, o, sp⟩
    · go_enter Try.func20, Try.ntmps20
      go_wp2_with fail
      go_ret
      exact HP.out
    · obtain rfl : sp = none := (HSP.out _ rfl).1
      go_enter Try.func20, Try.ntmps20
      go_wp2_with fail
      go_ret
      exact HP.out
end
end Go.Proofs.Ytfhgnoajfipjdaa
namespace Go.Proofs.Ytfhgnoajfipjdaa
open Go.RowKit
theorem qs_cells {w : World} {A : Option Addr} {qs : List (Int × Int)} (hs : Src w A (qsC qs)) (hp : ∀ ad, A = some ad → ad.spot = none) {k : Nat} (hk : k < qs.length) : ∃ b o, A = some ⟨b, o, none⟩ ∧ w.cell? ⟨b, o + k * 2, none⟩ = some (.int .i32 qs[k].1) ∧ w.cell? ⟨b, o + k * 2 + 1, none⟩ = some (.int .i64 qs[k].2) := by
  obtain ⟨ad, rfl, _, hx⟩ := hs (by rw [qsC_len]; omega)
  obtain ⟨b, o, sp⟩ := ad
  obtain rfl : sp = none := hp _ rfl
  have h := qs_get (List.getElem?_eq_getElem hk)
  have h0 := hx _ _ h.1
  have h1 := hx _ _ h.2
  rw [add_plain] at h0 h1
  exact ⟨b, o, rfl, h0, by rw [Nat.add_assoc]; exact h1⟩
section
variable {w : World}
set_option maxHeartbeats 8000000 in
set_option maxRecDepth 100000 in
theorem eresults_any {val trap fuel : Int} {u1 u2 : Value} {qs : List (Int × Int)} (h1 : QSl w u1 qs) (h2 : QSl w u2 qs) (hq : qs.length ≤ 1000000) :
    Calls Try.prog 17 #[.agg #[.int .i64 val, .int .i64 trap, .int .i64 fuel, u1], .agg #[.int .i64 val, .int .i64 trap, .int .i64 fuel, u2]] w (fun e w' => e = .returned (.bool true) ∧ Chg [] w w') := by
  obtain ⟨A1, c1, rfl, hc1, hs1, hp1, _⟩ := h1
  obtain ⟨A2, c2, rfl, hc2, hs2, hp2, _⟩ := h2
  have HS1 := Lib.hid hs1
  have HS2 := Lib.hid hs2
  have HP1 := Lib.hid hp1
  have HP2 := Lib.hid hp2
  obtain ⟨n, hn⟩ : ∃ n, n = qs.length := ⟨_, rfl⟩
  rw [← hn] at hc1 hc2 hq ⊢
  have HN := Lib.hid hn
  clear hs1 hs2 hp1 hp2 hn
  go_enter Try.func17, Try.ntmps17
  go_upto_region 1 with fail
  have hw1 := Whole.new w 34 [.int .i64 val, .int .i64 trap, .int .i64 fuel, .slice A1 n c1]
  have ha1 := (Chg.refl [] w).alloc (.cells #[.int .i64 val, .int .i64 trap, .int .i64 fuel, .slice A1 n c1] 34)
  have hs1 : (w.alloc (.cells #[.int .i64 val, .int .i64 trap, .int .i64 fuel, .slice A1 n c1] 34)).heap.size = w.heap.size + 1 := Array.size_push _
  have hw2 := Whole.new (w.alloc (.cells #[.int .i64 val, .int .i64 trap, .int .i64 fuel, .slice A1 n c1] 34)) 34 [.int .i64 val, .int .i64 trap, .int .i64 fuel, .slice A2 n c2]
  have ha2 := (Chg.refl [] (w.alloc (.cells #[.int .i64 val, .int .i64 trap, .int .i64 fuel, .slice A1 n c1] 34))).alloc (.cells #[.int .i64 val, .int .i64 trap, .int .i64 fuel, .slice A2 n c2] 34)
  rw [hs1] at hw2
  have hw1 := hw1.keep ha2
  have hcc := ha1.new ha2
  generalize (w.alloc (.cells #[.int .i64 val, .int .i64 trap, .int .i64 fuel, .slice A1 n c1] 34)).alloc (.cells #[.int .i64 val, .int .i64 trap, .int .i64 fuel, .slice A2 n c2] 34) = w1 at hw1 hw2 hcc ⊢
  generalize w.heap.size + 1 = g2 at hw2 ⊢
  obtain ⟨g1, hg1⟩ : ∃ g, g = w.heap.size := ⟨_, rfl⟩
  rw [← hg1] at hw1 ⊢
  have e0 := hw1.cell 0
  have e1 := hw1.cell 1
  have e2 := hw1.cell 2
  have e3 := hw1.cell 3
  have f0 := hw2.cell 0
  have f1 := hw2.cell 1
  have f2 := hw2.cell 2
  have f3 := hw2.cell 3
  have HC1 := Lib.hid hcc
  clear hw1 hw2 ha1 ha2 hs1 hg1 hcc
  have n0 : (val != val) = false := by simp
  have n1 : (trap != trap) = false := by simp
  have n2 : (fuel != fuel) = false := by simp
  have n3 : ((n : Int) != (n : Int)) = false := by simp
  go_wp2_with fail
  go_loopw [37] (fun i wr => ∃ k : Nat, i = .int .i64 (k : Int) ∧ k ≤ n ∧ Hid (Chg [] w1 wr)) (fun i _ => n - (intOf i).toNat)
  case atStart => exact ⟨0, rfl, Nat.zero_le _, Lib.hid (Chg.refl _ _)⟩
  case round =>
    obtain ⟨k, rfl, hk, hcr⟩ := hrel
    have r0 := cell_keep e3 hcr.out
    have r1 := cell_keep f3 hcr.out
    clear e0 e1 e2 e3 f0 f1 f2 f3
    by_cases hlt : k < n
    · have hkI : (k : Int) < (n : Int) := by omega
      have hk0 : (0 : Int) ≤ (k : Int) := by omega
      obtain ⟨b1, o1, hA1, x1, x2⟩ := qs_cells (HS1.out.keep (HC1.out.new hcr.out)) HP1.out (k := k) (by have := HN.out; omega)
      obtain ⟨b2, o2, hA2, y1, y2⟩ := qs_cells (HS2.out.keep (HC1.out.new hcr.out)) HP2.out (k := k) (by have := HN.out; omega)
      subst hA1 hA2
      generalize (qs[k]'(by have := HN.out; omega)).1 = q1 at x1 y1
      generalize (qs[k]'(by have := HN.out; omega)).2 = q2 at x2 y2
      go_upto_region 6 with fail
      go_cut [50] (fun v wx => v = .bool false ∧ Hid (Chg [] w1 wx))
      case first =>
        go_quiet (fail)
        go_wp2_with fail
        go_meet
        exact ⟨rfl, Lib.hid (hcr.out.new ((Chg.refl [] wr).drewN nq))⟩
      case rest =>
        obtain ⟨rfl, hwc⟩ := hcut
        go_wp2_with fail
        go_roundw
        case rel => exact ⟨k + 1, by go_num, by omega, hwc⟩
        case measure => simp [intOf]; omega
    · have hkI : ¬ (k : Int) < (n : Int) := by omega
      have HP := Lib.hid (show Chg [] w wr from HC1.out.new hcr.out)
      go_wp2_with fail
      go_ret
      exact ⟨rfl, HP.out⟩
end
end Go.Proofs.Ytfhgnoajfipjdaa
namespace Go.Proofs.Ytfhgnoajfipjdaa
open Go.RowKit
theorem pop_qn {s s1 : EgV} {x : Int} (h : s.pop = some (x, s1)) : s1.qs = s.qs := by
  unfold EgV.pop at h
  split at h
  · cases h
  · injection h with h; injection h with _ h; subst h; rfl
theorem jump_qn {s s1 : EgV} {v : Int} (h : s.jump v = some s1) : s1.qs = s.qs := by
  unfold EgV.jump at h
  split at h
  · cases h
  · split at h
    · cases h
    · injection h with h
      subst h
      rfl
theorem call_qn {cd : List CodeV} {k : Nat} {s s1 : EgV} (h : eCall cd k s = some s1) : s1.qs = s.qs := by
  unfold eCall at h
  split at h
  · cases h
  · split at h
    · cases h
    · injection h with h
      subst h
      rfl
theorem mem_qn {most : Nat} {sg tr : Int} {s s1 : EgV} (h : eMem most sg s = some (tr, s1)) : s1.qs = s.qs := by
  unfold eMem at h
  split at h
  · injection h with h; injection h with _ h; subst h; rfl
  · split at h
    · cases h
    · rename_i x s2 hp
      have e := pop_qn hp
      split at h
      · split at h <;> (injection h with h; injection h with _ h; subst h; exact e)
      · split at h
        · split at h <;> (injection h with h; injection h with _ h; subst h; exact e)
        · split at h
          · cases h
          · rename_i k s3 hp3
            have e3 := pop_qn hp3
            by_cases hc : 0 ≤ k ∧ k + (if sg = 36 then 8 else 1) ≤ (s3.L.length : Int)
            · rw [if_pos hc] at h
              injection h with h; injection h with _ h; subst h; exact e3.trans e
            · rw [if_neg hc] at h
              injection h with h; injection h with _ h; subst h; exact e3.trans e
theorem reckon_qn {sg tr : Int} {s s1 : EgV} (h : eReckon sg s = some (tr, s1)) : s1.qs = s.qs := by
  unfold eReckon at h
  split at h
  · split at h
    · cases h
    · split at h
      · cases h
      · injection h with h; injection h with _ h; subst h; rfl
  · split at h
    · split at h
      · cases h
      · rename_i x s2 hp
        have e := pop_qn hp
        split at h
        · cases h
        · injection h with h; injection h with _ h; subst h
          exact e
    · have hb : ∀ b s2, (if sg = 33 then some ((0 : Int), s) else s.pop) = some (b, s2) → s2.qs = s.qs := fun b s2 hh => by
        by_cases h33 : sg = 33
        · rw [if_pos h33] at hh; injection hh with hh; injection hh with _ hh; subst hh; rfl
        · rw [if_neg h33] at hh; exact pop_qn hh
      generalize (if sg = 33 then some ((0 : Int), s) else s.pop) = q at h hb
      cases q with
      | none => cases h
      | some q =>
        obtain ⟨b, s2⟩ := q
        have e := hb b s2 rfl
        simp only at h
        split at h
        · cases h
        · rename_i a s3 hp
          have e3 := pop_qn hp
          injection h with h; injection h with _ h; subst h
          split
          · exact e3.trans e
          · exact e3.trans e
theorem step_qn {us : List FnV} {cd : List CodeV} {rs : List (Option Int)} {most : Nat} {t : TkV} {v tr : Int} {s s1 : EgV} (h : eStep us cd rs most t v s = some (tr, s1)) (h9 : t.sign ≠ 960) : s1.qs = s.qs := by
  have fin : ∀ {q : Option EgV}, (∀ z, q = some z → z.qs = s.qs) → q.map (fun z => ((0 : Int), z)) = some (tr, s1) → s1.qs = s.qs := fun {q} hq hh => by
    cases q with
    | none => cases hh
    | some z => simp only [Option.map_some] at hh; injection hh with hh; injection hh with _ hh; subst hh; exact hq z rfl
  unfold eStep at h
  by_cases c1 : t.sign = 48
  · rw [if_pos c1] at h
    injection h with h; injection h with _ h; subst h; rfl
  rw [if_neg c1] at h
  by_cases c2 : t.sign = 46
  · rw [if_pos c2] at h
    split at h
    · cases h
    · injection h with h; injection h with _ h; subst h; rfl
  rw [if_neg c2] at h
  by_cases c3 : t.sign = 44
  · rw [if_pos c3] at h
    cases hp : s.pop with
    | none => rw [hp] at h; cases h
    | some q =>
      obtain ⟨x, s2⟩ := q
      rw [hp] at h
      simp only [Option.map_some] at h
      injection h with h; injection h with _ h; subst h
      exact pop_qn hp
  rw [if_neg c3] at h
  by_cases c4 : t.sign = 63
  · rw [if_pos c4] at h
    split at h
    · cases h
    · rename_i x s2 hp
      have e := pop_qn hp
      split at h
      · exact fin (fun z hz => (jump_qn hz).trans e) h
      · injection h with h; injection h with _ h; subst h; exact e
  rw [if_neg c4] at h
  by_cases c5 : t.sign = 58 ∨ t.sign = 93 ∨ t.sign = 126
  · rw [if_pos c5] at h
    exact fin (fun z hz => jump_qn hz) h
  rw [if_neg c5] at h
  by_cases c6 : t.sign = 59 ∨ t.sign = 91
  · rw [if_pos c6] at h
    injection h with h; injection h with _ h; subst h; rfl
  rw [if_neg c6] at h
  by_cases c7 : t.sign = 35 ∨ t.sign = 164 ∨ t.sign = 64 ∨ t.sign = 169 ∨ t.sign = 36 ∨ t.sign = 174
  · rw [if_pos c7] at h
    exact mem_qn h
  rw [if_neg c7] at h
  by_cases c8 : t.sign = 955
  · rw [if_pos c8] at h
    split at h
    · injection h with h; injection h with _ h; subst h; rfl
    · split at h
      · cases h
      · exact fin (fun z hz => call_qn hz) h
  rw [if_neg c8] at h
  rw [if_neg h9] at h
  by_cases c10 : t.sign = 161
  · rw [if_pos c10] at h
    injection h with h; injection h with _ h; subst h; rfl
  · rw [if_neg c10] at h
    exact reckon_qn h

theorem step_q1 {us : List FnV} {cd : List CodeV} {rs : List (Option Int)} {most : Nat} {t : TkV} {v tr : Int} {s s1 : EgV} (h : eStep us cd rs most t v s = some (tr, s1)) : s1.qs.length ≤ s.qs.length + 1 := by
  by_cases h9 : t.sign = 960
  · unfold eStep at h
    rw [if_neg (by omega), if_neg (by omega), if_neg (by omega), if_neg (by omega), if_neg (by omega), if_neg (by omega), if_neg (by omega), if_neg (by omega), if_pos h9] at h
    split at h
    · cases h
    · rename_i x s2 hp
      have e := pop_qn hp
      split at h <;> (injection h with h; injection h with _ h; subst h; simp [e])
  · rw [step_qn h h9]; omega
theorem eRun_qn {us : List FnV} {cd : List CodeV} {rs : List (Option Int)} {most : Nat} : ∀ (n : Nat) (s : EgV) (tr : Int) (s' : EgV), eRun us cd rs most n s = some (tr, s') → s'.qs.length + s'.fuel ≤ s.qs.length + s.fuel
  | 0, _, _, _, h => by cases h
  | n + 1, s, tr, s', h => by
    rw [eRun] at h
    cases hc : s.cs.getLast? with
    | none => rw [hc] at h; injection h with h; injection h with _ h; subst h; exact Nat.le_refl _
    | some c =>
      rw [hc] at h
      simp only at h
      cases hf : cd[c.fn]? with
      | none => rw [hf] at h; cases h
      | some f =>
        rw [hf] at h
        simp only at h
        by_cases h1 : c.next = f.ts.length
        · rw [if_pos h1] at h
          exact eRun_qn n (s.calls s.cs.dropLast) tr s' h
        rw [if_neg h1] at h
        by_cases h2 : s.fuel = 0
        · rw [if_pos h2] at h
          injection h with h; injection h with _ h; subst h; exact Nat.le_refl _
        rw [if_neg h2] at h
        cases ht : f.ts[c.next]? with
        | none => rw [ht] at h; cases h
        | some t =>
          cases hg : f.go[c.next]? with
          | none => rw [ht, hg] at h; cases h
          | some go =>
            rw [ht, hg] at h
            simp only at h
            cases hs : eStep us cd rs most t go ⟨s.fuel - 1, s.st, s.cs.dropLast ++ [c.at_ (c.next + 1)], s.L, s.V, s.qs⟩ with
            | none => rw [hs] at h; cases h
            | some z =>
              obtain ⟨tr1, s1⟩ := z
              rw [hs] at h
              simp only at h
              have e1 := step_q1 hs
              have e2 := step_fu hs
              simp only at e1 e2
              split at h
              · have := eRun_qn n s1 tr s' h
                omega
              · injection h with h; injection h with _ h; subst h; omega
theorem eDo_qn {us : List FnV} {rs : List (Option Int)} {most k fuel : Nat} {args : List Int} {L : List UInt8} {V : List Bool} {qs : List (Int × Int)} {val tr : Int} {s' : EgV} (h : eDo us rs most k fuel args L V qs = some (val, tr, s')) : s'.qs.length + s'.fuel ≤ qs.length + fuel := by
  unfold eDo at h
  cases h0 : eCall (us.map codeOf) k ⟨fuel, args, [], L, V, qs⟩ with
  | none => rw [h0] at h; cases h
  | some s0 =>
    rw [h0] at h
    simp only at h
    have e1 := call_fu h0
    have e2 := call_qn h0
    simp only at e1 e2
    cases h1 : eRun us (us.map codeOf) rs most (2 * fuel + 2) s0 with
    | none => rw [h1] at h; cases h
    | some z =>
      obtain ⟨tr1, s1⟩ := z
      rw [h1] at h
      simp only at h
      have e3 := eRun_qn _ _ _ _ h1
      rw [e1, e2] at e3
      split at h
      · cases hp : s1.pop with
        | none => rw [hp] at h; cases h
        | some q =>
          obtain ⟨x, s2⟩ := q
          rw [hp] at h
          simp only [Option.map_some, Option.some.injEq, Prod.mk.injEq] at h
          obtain ⟨_, _, rfl⟩ := h
          have e4 := pop_fu hp
          have e5 := pop_qn hp
          rw [e4, e5]; exact e3
      · simp only [Option.some.injEq, Prod.mk.injEq] at h
        obtain ⟨_, _, rfl⟩ := h
        exact e3
end Go.Proofs.Ytfhgnoajfipjdaa
namespace Go.Proofs.Ytfhgnoajfipjdaa
open Go.RowKit
/-- Pages, names, args are right. -/
structure FormU (pages most : Int) (l : List FnV) : Prop where
  p0 : 0 ≤ pages
  pm : pages ≤ most
  m64 : most ≤ 64
  few : l.length ≤ 32
  fn : ∀ (k : Nat) (f : FnV), l[k]? = some f → nameB f.name = true ∧ findI l f.name = (k : Int) ∧ 0 ≤ f.args ∧ f.args ≤ 4
  small : ∀ f ∈ l, f.code.size ≤ 1000000
/-- What Right answers then. -/
def RightAns (l : List FnV) (r : Int) : Prop := (r = 0 ∧ ∀ k : Nat, k < l.length → (rFn l (k : Int)).1 = 0) ∨ (r ≠ 0 ∧ ∃ k : Nat, k < l.length ∧ (rFn l (k : Int)).1 = r ∧ ∀ i : Nat, i < k → (rFn l (i : Int)).1 = 0)
theorem RightAns.one {f : FnV} {r : Int} (h : RightAns [f] r) : r = (rFn [f] 0).1 := by
  rcases h with ⟨rfl, h⟩ | ⟨_, k, hk, h, _⟩
  · exact (h 0 (by simp)).symm
  · obtain rfl : k = 0 := by simp at hk; omega
    exact h.symm
section
variable {W : World} {A : Option Addr} {n c : Nat} {l : List FnV} {pages most : Int}
set_option maxHeartbeats 8000000 in
set_option maxRecDepth 100000 in
theorem uright_any (h : Fnr W A n c l) (hr : FormU pages most l) : Calls Try.prog 22 #[unitV pages most A n c] W (fun e w' => ∃ r, RightAns l r ∧ e = .returned (.int .i64 r) ∧ Chg [] W w') := by
  have hn32 : n ≤ 32 := by rw [← h.len]; exact hr.few
  have hp0 := hr.p0
  have hpm := hr.pm
  have hm64 := hr.m64
  have H := Lib.hid h
  have HR := Lib.hid hr
  have HCF := Lib.hid (fun (w : World) (hc : Chg [] W w) (k : Int) => cfunc_any (pages := pages) (most := most) (h.keep hc) hr.small k)
  have HFI := Lib.hid (fun (w : World) (hc : Chg [] W w) (nm : Int) => cfind_any (pages := pages) (most := most) (h.keep hc) nm)
  unfold unitV at HCF HFI ⊢
  clear h hr
  have b1 : decide (pages < 0) = false := by simp; omega
  have b2 : decide (most < pages) = false := by simp; omega
  have b3 : decide (64 < most) = false := by simp; omega
  have b4 : decide (32 < (n : Int)) = false := by simp; omega
  go_enter Try.func22, Try.ntmps22
  go_upto_region 1 with fail
  have hN := Whole.new W 28 [.int .i64 pages, .int .i64 most, .slice A n c]
  have hal : Chg [] W (W.alloc (.cells #[.int .i64 pages, .int .i64 most, .slice A n c] 28)) := (Chg.refl [] W).alloc _
  obtain ⟨g, hg⟩ : ∃ g, g = W.heap.size := ⟨_, rfl⟩
  rw [← hg] at hN ⊢
  have HU := Lib.hid hN
  have HC := Lib.hid hal
  generalize W.alloc (.cells #[.int .i64 pages, .int .i64 most, .slice A n c] 28) = w1 at HU HC ⊢
  clear hN hal hg
  have u0 := HU.out.cell 0
  have u1 := HU.out.cell 1
  have u2 := HU.out.cell 2
  go_wp2_with fail
  go_loopw [30] (fun i wr => ∃ k : Nat, i = .int .i64 (k : Int) ∧ k ≤ n ∧ Hid (Chg [] w1 wr)) (fun i _ => n - (intOf i).toNat)
  case atStart => exact ⟨0, rfl, by omega, Lib.hid (Chg.refl [] _)⟩
  case round =>
    obtain ⟨k, rfl, hk, HCr⟩ := hrel
    have HUr := Lib.hid (HU.out.keep HCr.out)
    by_cases hkn : k < n
    · have hkI : (k : Int) < (n : Int) := by omega
      obtain ⟨t, htk⟩ : ∃ t, l[k]? = some t := ⟨l[k]'(by rw [H.out.len]; exact hkn), by simp⟩
      obtain ⟨hnm, hfi, ha0, ha4⟩ := HR.out.fn k t htk
      obtain ⟨fb, fo, rfl, hfbl, e0, e1, e2⟩ := (H.out.keep (HC.out.new HCr.out)).cell htk
      obtain ⟨tn, ta, tc⟩ := t
      simp only at e0 e1 e2 hnm hfi ha0 ha4
      clear htk
      go_upto_region 8 with fail
      have hX := Whole.new wr 51 [.int .i32 tn, .int .i64 ta, .string tc]
      have hc2 := (Chg.refl [] wr).alloc (.cells #[.int .i32 tn, .int .i64 ta, .string tc] 51)
      have HX2 := Lib.hid hX
      have HC2 := Lib.hid (HCr.out.new hc2)
      have HU2 := Lib.hid (HUr.out.keep hc2)
      generalize wr.heap.size = gx at HX2 ⊢
      generalize wr.alloc (.cells #[.int .i32 tn, .int .i64 ta, .string tc] 51) = w3 at HX2 HC2 HU2 ⊢
      clear hX e0 e1 e2 hfbl hc2
      have x0 := HX2.out.cell 0
      have x1 := HX2.out.cell 1
      have v0 := HU2.out.cell 0
      have v1 := HU2.out.cell 1
      have v2 := HU2.out.cell 2
      have q1 : decide (ta < 0) = false := by simp; omega
      have q2 : decide (4 < ta) = false := by simp; omega
      have HNM := Lib.hid (fun w => gname_any tn w)
      rw [hnm] at HNM
      have HFX := Lib.hid (HFI.out w3 (HC.out.new HC2.out) tn)
      rw [hfi] at HFX
      clear hnm hfi
      go_wp2_with (first
        | (go_at_call 62
           refine (HNM.out _).mono ?_
           rintro e w4 ⟨rfl, rfl⟩)
        | (go_at_call 51
           refine HFX.out.mono ?_
           rintro e w5 ⟨rfl, hc5⟩
           have y1 := cell_keep (by simpa using x1 : w3.cell? ⟨gx, 1, none⟩ = some (.int .i64 ta)) hc5
           have HC5 := Lib.hid (HC2.out.new hc5)
           clear hc5))
      exact ⟨⟨k + 1, by simp, by omega, HC5⟩, by simp [intOf]; omega⟩
    · have hkI : (n : Int) ≤ (k : Int) := by omega
      have v0 := HUr.out.cell 0
      have v1 := HUr.out.cell 1
      have v2 := HUr.out.cell 2
      go_wp2_with fail
      go_loopw [61] (fun i ws => ∃ k : Nat, i = .int .i64 (k : Int) ∧ k ≤ n ∧ Hid (∀ i : Nat, i < k → (rFn l (i : Int)).1 = 0) ∧ Hid (Chg [] w1 ws)) (fun i _ => n - (intOf i).toNat)
      case atStart => exact ⟨0, rfl, by omega, Lib.hid (fun i hi => absurd hi (by omega)), HCr⟩
      case round =>
        obtain ⟨j, rfl, hj, HZ, HCs⟩ := hrel
        have HUs := Lib.hid (HU.out.keep HCs.out)
        by_cases hjn : j < n
        · have hjI : (j : Int) < (n : Int) := by omega
          have s0 := HUs.out.cell 0
          have s1 := HUs.out.cell 1
          have s2 := HUs.out.cell 2
          have HFN := Lib.hid (HCF.out wr (HC.out.new HCs.out) (j : Int))
          have HR0 := Lib.hid (show ∃ R, R = rFn l (j : Int) from ⟨_, rfl⟩)
          obtain ⟨R, hR⟩ := HR0.out
          have HRE := Lib.hid hR
          rw [← hR] at HFN
          clear HR0 hR
          by_cases hz : R.1 = 0
          · go_wp2_with fail
            refine HFN.out.mono ?_
            rintro e w5 ⟨v, rfl, ho, hc5⟩
            have HC5 := Lib.hid (HCs.out.new hc5)
            obtain ⟨Av, cv, rfl, _⟩ := own_slice ho
            rw [hz]
            clear ho hc5
            go_wp2_with fail
            go_roundw
            case rel => exact ⟨j + 1, by go_num, by omega, Lib.hid (fun i hi => by
              rcases Nat.lt_or_ge i j with h | h
              · exact HZ.out i h
              · obtain rfl : i = j := by omega
                rw [← HRE.out]; exact hz), HC5⟩
            case measure => simp [intOf]; omega
          · have hne : (R.1 != 0) = true := by simpa using hz
            go_wp2_with fail
            refine HFN.out.mono ?_
            rintro e w5 ⟨v, rfl, ho, hc5⟩
            obtain ⟨Av, cv, rfl, _⟩ := own_slice ho
            have HP := Lib.hid (show ∃ r, RightAns l r ∧ Ending.returned (.int .i64 R.1) = .returned (.int .i64 r) ∧ Chg [] W w5 from ⟨R.1, .inr ⟨hz, j, by rw [H.out.len]; exact hjn, by rw [← HRE.out], HZ.out⟩, rfl, (HC.out.new HCs.out).new hc5⟩)
            clear ho hc5
            go_wp2_with fail
            go_ret
            exact HP.out
        · have hjI : (n : Int) ≤ (j : Int) := by omega
          have HP := Lib.hid (show ∃ r, RightAns l r ∧ Ending.returned (.int .i64 0) = .returned (.int .i64 r) ∧ Chg [] W wr from ⟨0, .inl ⟨rfl, fun i hi => HZ.out i (by rw [H.out.len] at hi; omega)⟩, rfl, HC.out.new HCs.out⟩)
          go_wp2_with fail
          go_ret
          exact HP.out
end
end Go.Proofs.Ytfhgnoajfipjdaa
