/-
  The walk of NestTells.
-/
import Derived.Test.YtafgpmempgoikaaZNestWithin1
import Derived.Test.YtafgpmempgoikaaZNestWithin2
import Derived.Test.YtafgpmempgoikaaZNestWithin3
import Derived.Test.YtafgpmempgoikaaZNestWithin4
import Derived.Test.YtafgpmempgoikaaZNestWithin5
import Derived.Test.YtafgpmempgoikaaZNestWithin6
import Derived.Test.YtafgpmempgoikaaOddZ
import Derived.Test.YtafgpmempgoikaaOddsZ
import Derived.Test.YtafgpmempgoikaaDRowsZ
import Derived.Test.YtafgpmempgoikaaDTurnsZ
namespace Go.Proofs.Ytafgpmempgoikaa
open Go.RowKit
/-- A program of a tape with some things turned. -/
structure OddU (W : World) (A : Option Addr) (n c : Nat) (l : List FnV) : Prop where
  f : Fnr W A n c l
  o : Oddly 4 l
theorem OddU.keep {W W' : World} {A : Option Addr} {n c : Nat} {l : List FnV} (h : OddU W A n c l) (hc : Chg [] W W') : OddU W' A n c l := ⟨h.f.keep hc, h.o⟩
theorem Tks.none_ (W : World) : Tks W none 0 0 [] := ⟨rfl, fun h => absurd h (by simp [tkCs]), Nat.le_refl _, by omega, fun h => absurd h (by omega)⟩
section
variable {w : World} {A : Option Addr} {n c : Nat} {l : List Int} {B : Option Addr} {m d : Nat} {ys : List Int} {TA : Option Addr} {tn tc : Nat} {ts : List TurnV}
set_option maxHeartbeats 4000000 in
set_option maxRecDepth 100000 in
theorem nestTells_any (hs : Src w A (nms l)) (hlen : l.length = n) (hspot : 0 < n → ∀ ad, A = some ad → ad.spot = none) (hn : n ≤ 9223372036854775807) (hrng : ∀ x ∈ l, -9223372036854775808 ≤ x ∧ x ≤ 9223372036854775807)
    (ks : Src w B (nms ys)) (klen : ys.length = m) (kspot : 0 < m → ∀ ad, B = some ad → ad.spot = none) (km : m ≤ 9223372036854775807) (krng : ∀ x ∈ ys, -9223372036854775808 ≤ x ∧ x ≤ 9223372036854775807)
    (hT : Trn w TA tn ts) (htn : tn ≤ 9223372036854775807) :
    Calls Try.prog 3 #[.slice B m d, .slice A n c, .slice TA tn tc] w (LawPost w) := by
  have HUN := Lib.hid (unit_any (c := c) hs hlen hspot hn hrng)
  have HK := Lib.hid (And.intro ks (And.intro klen (And.intro kspot krng)))
  have HT := Lib.hid hT
  clear hs hlen hspot hn hrng ks klen kspot krng hT
  go_enter Try.func3, Try.ntmps3
  go_wp2_with fail
  refine HUN.out.mono ?_
  rintro e w1 ⟨pg, ms, v, fl, rfl, hp0, hp1, hm0, hm1, ho, hg, hfl0, hc1⟩
  obtain ⟨FA, fc, rfl, hFr⟩ := Fnr.of_own ho (by have := hg.lo; omega) (fun f hf => by have := hg.args f hf; omega)
  have HOD := Lib.hid (odds_any (w := w1) (pg := pg) (ms := ms) (TA := TA) (tn := tn) (tc := tc) (ts := ts) hFr (hg.oddly hfl0) ⟨by omega, by omega⟩ ⟨by omega, by omega⟩ (fun h0 ad e => by
    subst e
    obtain ⟨_, _, e', _, _, hb⟩ := rown_slice ho
    injection e' with e1 _ _
    exact (hb ad e1.symm).2.2.2) (HT.out.keep hc1) htn)
  have HC1 := Lib.hid hc1
  clear HUN ho hg hfl0 hFr hp0 hp1 hm0 hm1 hc1
  go_wp2_with fail
  refine HOD.out.mono ?_
  clear HOD
  rintro e w2 ⟨pg2, ms2, FA, fn, fc, fl, rfl, hp2, hm2, hF2, hO2, hc2⟩
  have HC2 := Lib.hid (HC1.out.new hc2)
  have HU := Lib.hid (show OddU w2 FA fn fc fl from ⟨hF2, hO2⟩)
  have hfm : fn ≤ 1000 := hF2.max
  clear hF2 hO2 hc2 HC1 hp2 hm2
  have hff := funcs_of w2 (.int .i64 pg2) (.int .i64 ms2) (.slice FA fn fc)
  go_wp2_with fail
  go_loopw [17] (fun i wr => ∃ k : Nat, i = .int .i64 (k : Int) ∧ k ≤ fn ∧ Hid (Chg [] w2 wr)) (fun i _ => fn - (intOf i).toNat)
  case atStart => exact ⟨0, rfl, by omega, Lib.hid (Chg.refl _ _)⟩
  case round =>
    obtain ⟨k, rfl, hk, HCr⟩ := hrel
    by_cases hkn : k < fn
    · have hkI : (k : Int) < (fn : Int) := by omega
      obtain ⟨f, hfk⟩ : ∃ f, fl[k]? = some f := ⟨fl[k]'(by rw [HU.out.f.len]; exact hkn), by simp⟩
      obtain ⟨fb, fo, rfl, hfbl, e0, e1, e2⟩ := (HU.out.f.keep HCr.out).cell hfk
      have hcs := (HU.out.o.fn f (List.mem_of_getElem? hfk)).2.1
      have HCS := Lib.hid hcs
      clear hfk hcs
      go_upto_region 4 with fail
      have hal := (Chg.refl [] wr).alloc (.cells #[.int .i32 f.name, .int .i64 f.args, .string f.code] 30)
      have hX := Whole.new wr 30 [.int .i32 f.name, .int .i64 f.args, .string f.code]
      have x2 := hX.cell 2
      have HC2' := Lib.hid (HCr.out.new hal)
      obtain ⟨gx, hgx⟩ : ∃ g, g = wr.heap.size := ⟨_, rfl⟩
      rw [← hgx] at x2 ⊢
      generalize wr.alloc (.cells #[.int .i32 f.name, .int .i64 f.args, .string f.code] 30) = w3 at x2 HC2' ⊢
      clear hal hX hgx e0 e1 e2 hfbl HCr
      go_wp2_with fail
      refine (tokens_any f.code (by have := HCS.out; omega)).mono ?_
      rintro e w4 ⟨hc4, ⟨tk, v, htk, hl, rfl, ho⟩ | ⟨htk, rfl⟩⟩
      · obtain ⟨TA4, c4, rfl, hT4⟩ := Tks.of_own ho (by omega)
        have HT4 := Lib.hid hT4
        have HC4 := Lib.hid (HC2'.out.new hc4)
        clear ho hT4 hc4 x2 htk
        go_wp2_with fail
        refine (nsame_any HT4.out).mono ?_
        rintro e w5 ⟨rfl, hc5⟩
        have HC5 := Lib.hid (HC4.out.new hc5)
        clear hc5
        go_wp2_with fail
        go_roundw
        case rel => exact ⟨k + 1, by go_num, by omega, HC5⟩
        case measure => simp [intOf]; omega
      · have HC4 := Lib.hid (HC2'.out.new hc4)
        clear hc4 x2 htk
        have HT4 := Lib.hid (Tks.none_ w4)
        go_wp2_with fail
        refine (nsame_any HT4.out).mono ?_
        rintro e w5 ⟨rfl, hc5⟩
        have HC5 := Lib.hid (HC4.out.new hc5)
        clear hc5
        go_wp2_with fail
        go_roundw
        case rel => exact ⟨k + 1, by go_num, by omega, HC5⟩
        case measure => simp [intOf]; omega
    · have hkI : (fn : Int) ≤ (k : Int) := by omega
      have HCx := Lib.hid (HC2.out.new HCr.out)
      have HKx := Lib.hid (And.intro (HK.out.1.keep HCx.out) HK.out.2)
      clear HCr HC2
      go_wp2_with fail
      refine (nrow_any HKx.out.1 HKx.out.2.2.1 HKx.out.2.1 km HKx.out.2.2.2).mono ?_
      rintro e w3 ⟨v, tk, rfl, ho, hl, hc3⟩
      obtain ⟨TA4, c4, rfl, hT4⟩ := Tks.of_own ho (by omega)
      have HT4 := Lib.hid hT4
      have HC3 := Lib.hid (HCx.out.new hc3)
      clear ho hT4 hc3
      go_wp2_with fail
      refine (nsame_any HT4.out).mono ?_
      rintro e w4 ⟨rfl, hc4⟩
      have HC4 := Lib.hid (HC3.out.new hc4)
      clear hc4
      go_wp2_with fail
      refine nknown_any.mono ?_
      rintro e w5 ⟨rfl, hc5⟩
      have HP := Lib.hid (show LawPost w (.returned (.bool true)) w5 from ⟨rfl, HC4.out.new hc5⟩)
      clear hc5
      go_wp2_with fail
      go_ret
      exact HP.out
end
end Go.Proofs.Ytafgpmempgoikaa
