/-
  N: ShadeA, HomeAll.
-/
import Derived.Test.YtddjgncdjdjgeaaGreatZN1
import Derived.Test.YtddjgncdjdjgeaaGreatZN2
import Derived.Test.YtddjgncdjdjgeaaGreatZN6
import Derived.Test.YtddjgncdjdjgeaaGreatZN11
import Derived.Deep.RegionHeld3
import Derived.Deep.RegionWith
import Derived.Deep.DeepCutAuto
namespace Go.Proofs.YtddjgncdjdjgeaaGreat
open Go.RowKit
/-- One change. -/
def applyC (P : List (List UInt8)) (a : ChV) : List (List UInt8) := if 0 ≤ a.page ∧ a.page < P.length then P.set a.page.toNat a.B else P
def applyL (P : List (List UInt8)) (ls : List ChV) : List (List UInt8) := ls.foldl applyC P
theorem applyC_len (P : List (List UInt8)) (a : ChV) : (applyC P a).length = P.length := by unfold applyC; split <;> simp
theorem applyL_len : ∀ (ls : List ChV) (P : List (List UInt8)), (applyL P ls).length = P.length
  | [], _ => rfl
  | a :: ls, P => by show (applyL (applyC P a) ls).length = _; rw [applyL_len ls, applyC_len]
theorem applyL_take (P : List (List UInt8)) (ls : List ChV) (k : Nat) (a : ChV) (h : ls[k]? = some a) : applyL P (ls.take (k + 1)) = applyC (applyL P (ls.take k)) a := by
  obtain ⟨hk, he⟩ := List.getElem?_eq_some_iff.1 h
  unfold applyL
  rw [List.take_succ_eq_append_getElem hk, List.foldl_append, he]; rfl
/-- The first k of the slices us are fresh rows that hold P's lists. -/
structure Fr (B : Nat) (w : World) (g n : Nat) (us : List Value) (P : List (List UInt8)) (k : Nat) : Prop where
  len : us.length = n
  lenP : P.length = n
  row : Whole w g 30 us
  at_ : ∀ j, j < k → ∀ r, P[j]? = some r → ∃ x, us[j]? = some (.slice (some ⟨x, 0, none⟩) r.length r.length) ∧ Whole w x 5 (bts r) ∧ B ≤ x
theorem Fr.keep {B : Nat} {w w' : World} {g n : Nat} {us : List Value} {P : List (List UInt8)} {k : Nat} (h : Fr B w g n us P k) (hc : Chg [] w w') : Fr B w' g n us P k :=
  ⟨h.len, h.lenP, h.row.keep hc, fun j hj r hr => by obtain ⟨x, h1, h2, h3⟩ := h.at_ j hj r hr; exact ⟨x, h1, h2.keep hc, h3⟩⟩
/-- One row is set, which may be a new one. -/
theorem Fr.set_ {B : Nat} {w : World} {g n : Nat} {us : List Value} {P : List (List UInt8)} {k k' j x : Nat} {r : List UInt8} (h : Fr B w g n us P k) (hj : j < n) (hx : Whole w x 5 (bts r)) (hB : B ≤ x) (hk : ∀ i, i < k' → i < k ∨ i = j) :
    Fr B (w.setCell ⟨g, j, none⟩ (.slice (some ⟨x, 0, none⟩) r.length r.length)) g n (us.set j (.slice (some ⟨x, 0, none⟩) r.length r.length)) (P.set j r) k' := by
  refine ⟨by rw [List.length_set, h.len], by rw [List.length_set, h.lenP], h.row.set_ j _, fun i hi q hq => ?_⟩
  by_cases e : j = i
  · subst e
    rw [List.getElem?_set_self (by rw [h.lenP]; exact hj)] at hq
    injection hq with hq
    subst hq
    refine ⟨x, by rw [List.getElem?_set_self (by rw [h.len]; exact hj)], hx.far (hx.ne_ h.row (by decide)) _, hB⟩
  · rw [List.getElem?_set_ne e] at hq
    obtain ⟨y, h1, h2, h3⟩ := h.at_ i (by have := hk i hi; omega) q hq
    exact ⟨y, by rw [List.getElem?_set_ne e]; exact h1, h2.far (h2.ne_ h.row (by decide)) _, h3⟩
/-- Slices that are nil. -/
def nils (n : Nat) : List Value := List.replicate n (.slice none 0 0)
theorem nils_len (n : Nat) : (nils n).length = n := by simp [nils]
theorem make_rows (n : Nat) (h : n ≤ 1000000) (w : World) : (Instr.makeSlice 66 (.int .i64 (n : Int)) (.int .i64 (n : Int))).run Tryz.prog w = .ok (.slice (some ⟨w.heap.size, 0, none⟩) n n) (w.alloc (.cells (nils n).toArray 30)) := by
  obtain ⟨i, hi, hz, hs, hb⟩ := info_parts info_bytes
  exact run_make1 (P := Tryz.prog) 66 30 i _ rfl Tryz.underlying66 hi hz hs n (by rw [hb]; omega) (by omega) w
/-- What Apply answers: rows of its own. -/
def ApplyPost (w : World) (P : List (List UInt8)) (e : Ending) (w' : World) : Prop :=
  ∃ g us, e = .returned (.slice (some ⟨g, 0, none⟩) P.length P.length) ∧ Fr w.heap.size w' g P.length us P P.length ∧ w.heap.size ≤ g ∧ Chg [] w w'
section
variable {w : World} {A C : Option Addr} {n c m d : Nat} {vs : List Value} {P : List (List UInt8)} {ls : List ChV}
set_option maxHeartbeats 2000000 in
set_option maxRecDepth 100000 in
theorem apply_any (hA : Src w A vs) (hsp : 0 < n → ∀ ad, A = some ad → ad.spot = none) (hn : vs.length = n) (hn1 : n ≤ 1000) (hL : Lists w vs P) (hP : ∀ l ∈ P, l.length ≤ 1000000) (hC : Chs w C ls) (hm : ls.length = m) (hm1 : m ≤ 1000) (hls : ∀ a ∈ ls, a.B.length ≤ 1000000) :
    Calls Tryz.prog 99 #[.slice A n c, .slice C m d] w (ApplyPost w (applyL P ls)) := by
  have hmk := make_rows n (by omega)
  have hPn : P.length = n := by rw [← hL.1, hn]
  have HA := Lib.hid hA
  have HL := Lib.hid hL
  have HC := Lib.hid hC
  have HP := Lib.hid hP
  have HN := Lib.hid hn
  have HM := Lib.hid hm
  have HPN := Lib.hid hPn
  have HLS := Lib.hid hls
  clear hA hL hC hP hn hm hPn hls
  go_enter Tryz.func99, Tryz.ntmps99
  go_wp2_with fail
  have hW := Whole.new w 30 (nils n)
  have hc1 : Chg [] w (w.alloc (.cells (nils n).toArray 30)) := (Chg.refl [] w).alloc _
  obtain ⟨g, hg⟩ : ∃ g, g = w.heap.size := ⟨_, rfl⟩
  rw [← hg] at hW ⊢
  have hgw := Lib.hid (show w.heap.size ≤ g by omega)
  have HC1 := Lib.hid hc1
  generalize w.alloc (.cells (nils n).toArray 30) = w1 at hW HC1 ⊢
  clear hg hc1
  go_loopw [15] (fun v wr => ∃ (k : Nat) (us : List Value), k ≤ n ∧ v = .int .i64 (k : Int) ∧ Hid (Fr w.heap.size wr g n us P k) ∧ Hid (Chg [] w wr)) (fun v _ => n - (intOf v).toNat)
  case atStart => exact ⟨0, _, Nat.zero_le _, rfl, Lib.hid ⟨nils_len n, HPN.out, hW, fun j hj => absurd hj (by omega)⟩, HC1⟩
  case round =>
    obtain ⟨k, us, hk, rfl, HF, HCr⟩ := hrel
    by_cases hlt : k < n
    · have hkI : (k : Int) < (n : Int) := by omega
      obtain ⟨⟨bA, oA, sA⟩, rfl, _, hxA⟩ := (HA.out.keep HCr.out) (by rw [HN.out]; omega)
      obtain rfl : sA = none := hsp (by omega) _ rfl
      obtain ⟨xv, hxv⟩ : ∃ x, vs[k]? = some x := ⟨_, List.getElem?_eq_getElem (by rw [HN.out]; exact hlt)⟩
      obtain ⟨X, hX⟩ : ∃ X, P[k]? = some X := ⟨_, List.getElem?_eq_getElem (by rw [HPN.out]; exact hlt)⟩
      obtain ⟨A5, n5, c5, rfl, hB5⟩ := HL.out.2 k xv X hxv hX
      have ck := hxA k _ hxv
      rw [add_plain] at ck
      have hXl := HP.out X (List.mem_of_getElem? hX)
      have hlX := hB5.len
      have HB5 := Lib.hid (hB5.keep HCr.out)
      have HXk := Lib.hid hX
      clear hxA hxv hX hB5
      go_wp2_with fail
      refine (shfresh_any HB5.out (by omega)).mono ?_
      rintro e w5 ⟨rfl, hW5, hc5⟩
      have HF5 := Lib.hid (HF.out.keep hc5)
      have HC5 := Lib.hid (HCr.out.new hc5)
      have HW5 := Lib.hid hW5
      have hge := HCr.out.size
      have HGE := Lib.hid hge
      have c7 := HF5.out.row.cell k
      have f7 := HF5.out.row.frozen k
      obtain ⟨uk, huk⟩ : ∃ u, us[k]? = some u := ⟨_, List.getElem?_eq_getElem (by rw [HF.out.len]; exact hlt)⟩
      rw [huk] at c7
      clear hW5 hc5 ck huk hge
      go_wp2_with fail
      go_roundw
      case rel =>
        have hPs : P.set k X = P := by
          apply List.ext_getElem?
          intro i
          by_cases e : k = i
          · subst e; rw [List.getElem?_set_self (by rw [HPN.out]; exact hlt), HXk.out]
          · rw [List.getElem?_set_ne e]
        have := HF5.out.set_ (k' := k + 1) hlt HW5.out HGE.out (fun i hi => by omega)
        rw [hPs, hlX] at this
        exact ⟨k + 1, _, by omega, by go_num, Lib.hid this, Lib.hid (HC5.out.setCell (fun h => absurd h (by have := hgw.out; show ¬ g < _; omega)) _)⟩
      case measure => simp [intOf]; omega
    · have hkI : ¬ (k : Int) < (n : Int) := by omega
      have hkn := Lib.hid (show k = n by omega)
      have HF0 : Hid (Fr w.heap.size wr g n us P n) := Lib.hid (by have := HF.out; rwa [hkn.out] at this)
      clear hk hlt HF hkn
      go_wp2_with fail
      go_loopw [28] (fun v w5 => ∃ (k : Nat) (us : List Value), k ≤ m ∧ v = .int .i64 (k : Int) ∧ Hid (Fr w.heap.size w5 g n us (applyL P (ls.take k)) n) ∧ Hid (Chg [] w w5)) (fun v _ => m - (intOf v).toNat)
      case atStart => exact ⟨0, us, Nat.zero_le _, rfl, HF0, HCr⟩
      case round =>
        obtain ⟨q, us2, hq, rfl, HF, HC2⟩ := hrel
        clear HF0 HCr
        by_cases hlt : q < m
        · have hqI : (q : Int) < (m : Int) := by omega
          obtain ⟨gc, o, rfl, hgc, hat⟩ := (HC.out.keep HC2.out).cells (by rw [HM.out]; omega)
          obtain ⟨a, ha⟩ : ∃ a, ls[q]? = some a := ⟨_, List.getElem?_eq_getElem (by rw [HM.out]; exact hlt)⟩
          obtain ⟨d0, d1⟩ := hat q a ha
          have hok := HC.out.ok a (List.mem_of_getElem? ha)
          have HBa := Lib.hid (hok.bs.keep HC2.out)
          have hal := HLS.out a (List.mem_of_getElem? ha)
          have hbn := hok.bs.len
          have HAt := Lib.hid (applyL_take P ls q a ha)
          clear hat ha hok
          obtain ⟨pgv, bA, bn, bc, B⟩ := a
          simp only at d0 d1 HBa hal hbn
          have hn1' := hn1
          by_cases hp : 0 ≤ pgv ∧ pgv < (n : Int)
          · obtain ⟨hp0, hp1⟩ := hp
            have HApp := Lib.hid (show applyL P (ls.take (q + 1)) = (applyL P (ls.take q)).set pgv.toNat B by rw [HAt.out, applyC, if_pos (by rw [applyL_len, HPN.out]; exact ⟨hp0, hp1⟩)])
            have HB0 := Lib.hid (show wr.heap.size = wr.heap.size from rfl)
            go_upto_region 11 with fail
            have hwc := Whole.new wr 51 [.int .i64 pgv, .slice bA bn bc]
            have hal1 : Chg [] wr (wr.alloc (.cells #[.int .i64 pgv, .slice bA bn bc] 51)) := (Chg.refl [] wr).alloc _
            obtain ⟨g9, hg9⟩ : ∃ g9, g9 = wr.heap.size := ⟨_, rfl⟩
            rw [← hg9] at hwc ⊢
            have HF6 := Lib.hid (HF.out.keep hal1)
            have HB6 := Lib.hid (HBa.out.keep hal1)
            have HC6 := Lib.hid (HC2.out.new hal1)
            generalize wr.alloc (.cells #[.int .i64 pgv, .slice bA bn bc] 51) = w6 at hwc HF6 HB6 HC6 ⊢
            have k0 := hwc.cell 0
            have k1 := hwc.cell 1
            have kg := hwc.lt
            have HK := Lib.hid (show w6.heap.size = w6.heap.size from rfl)
            clear hg9 HB0
            obtain ⟨pn, hpn⟩ : ∃ pn : Nat, pgv = (pn : Int) := ⟨pgv.toNat, by omega⟩
            subst hpn
            have hpl : pn < n := by omega
            rw [Int.toNat_natCast] at HApp
            obtain ⟨uk, huk⟩ : ∃ u, us2[pn]? = some u := ⟨_, List.getElem?_eq_getElem (by rw [HF6.out.len]; exact hpl)⟩
            have HUK := Lib.hid huk
            clear huk
            go_region_with (go_at_call 123
                            refine (shfresh_any (HB6.out.keep (wdrew (Chg.refl [] _))) (by omega)).mono ?_
                            rintro e w7 ⟨rfl, hW7, hc7⟩
                            have k7 := (HF6.out.row.keep (wdrew hc7)).cell pn
                            have f7 := (HF6.out.row.keep (wdrew hc7)).frozen pn
                            rw [HUK.out] at k7
                            have d7 := cell_keep k0 (wdrew hc7)
                            have d8 := cell_keep k1 (wdrew hc7))
            all_goals go_wp2_with fail
            all_goals go_roundw
            all_goals first
              | (simp [intOf]; omega)
              | (have hfr := (HF6.out.keep (wdrew hc7)).set_ (k' := n) (r := B) hpl hW7 HC6.out.size (fun i hi => .inl hi)
                 rw [hbn] at hfr
                 exact ⟨q + 1, _, by omega, by go_num, Lib.hid (by rw [HApp.out]; exact hfr), Lib.hid ((HC6.out.new (wdrew hc7)).setCell (fun h => absurd h (by have := hgw.out; show ¬ g < _; omega)) _)⟩)
          · have HApp := Lib.hid (show applyL P (ls.take (q + 1)) = applyL P (ls.take q) by rw [HAt.out, applyC, if_neg (by rw [applyL_len, HPN.out]; exact hp)])
            by_cases hp0 : 0 ≤ pgv
            · have hp1 : ¬ pgv < (n : Int) := fun h => hp ⟨hp0, h⟩
              go_wp2_with fail
              go_roundw
              case rel => exact ⟨q + 1, us2, by omega, by go_num, Lib.hid (by rw [HApp.out]; exact HF.out.keep ((Chg.refl _ _).alloc _)), Lib.hid (HC2.out.alloc _)⟩
              case measure => simp [intOf]; omega
            · go_wp2_with fail
              go_roundw
              case rel => exact ⟨q + 1, us2, by omega, by go_num, Lib.hid (by rw [HApp.out]; exact HF.out.keep ((Chg.refl _ _).alloc _)), Lib.hid (HC2.out.alloc _)⟩
              case measure => simp [intOf]; omega
        · have hqI : ¬ (q : Int) < (m : Int) := by omega
          have HQ := Lib.hid (show ls.take q = ls from List.take_of_length_le (by rw [HM.out]; omega))
          have hlen : (applyL P ls).length = n := by rw [applyL_len, HPN.out]
          clear hlt
          go_wp2_with fail
          go_ret
          refine ⟨g, us2, by rw [hlen]; rfl, ?_, hgw.out, HC2.out⟩
          rw [hlen, ← HQ.out]
          rw [HQ.out]; have := HF.out; rw [HQ.out] at this; exact this
end
end Go.Proofs.YtddjgncdjdjgeaaGreat
namespace Go.Proofs.YtddjgncdjdjgeaaGreat
open Go.RowKit
/-- The first n pages. -/
def pagesL (s : St) (L : Int) (n : Nat) : List (List UInt8) := (List.range n).map fun i => sectL s.S s.V.length (2 + L.toNat + i)
/-- All pages, or none. -/
def allL (s : St) (L P E : Int) : List (List UInt8) := if rightR L P E s.V.length = true then pagesL s L P.toNat else []
theorem pagesL_next (s : St) (L : Int) (n : Nat) : pagesL s L (n + 1) = pagesL s L n ++ [sectL s.S s.V.length (2 + L.toNat + n)] := by
  unfold pagesL; rw [List.range_succ, List.map_append]; rfl
theorem pagesL_len (s : St) (L : Int) (n : Nat) : (pagesL s L n).length = n := by simp [pagesL]
theorem hasR_at {L P E : Int} {n k : Nat} (h : rightR L P E n = true) (hk : (k : Int) < P) : hasR L P E k n = true ∧ (homeI L P k).toNat = 2 + L.toNat + k ∧ 2 + L.toNat + k < n ∧ homeI L P k = ((2 + L.toNat + k : Nat) : Int) := by
  have h1 := hasR_in (i := k) h (by omega) hk
  obtain ⟨a, b, c, d, e, f⟩ := rightR_true.1 h
  have e1 := homeI_in (L := L) (P := P) (i := k) a b d (by omega) hk
  exact ⟨h1, by rw [e1]; omega, by omega, by rw [e1]; omega⟩
/-- Rows of the call's own. -/
def RowsPost (w : World) (ls : List (List UInt8)) (e : Ending) (w' : World) : Prop :=
  ∃ v vs, e = .returned v ∧ w'.ownsRow w.heap.size 30 1 v ls.length vs ∧ Rows w.heap.size w' vs ls ∧ Chg [] w w'
section
variable {w : World} {p bL bS bW : Nat} {s : St}
set_option maxHeartbeats 1000000 in
set_option maxRecDepth 100000 in
theorem hall_any (h : DskS w p bL bS bW s) (L P E : Int) :
    Calls Tryz.prog 56 #[.pointer (some ⟨p, 0, none⟩), rootV L P E] w (RowsPost w (allL s L P E)) := by
  obtain ⟨i0, hi, hz, hs1, hb⟩ := info_parts info_bytes
  have hr0 : rootV L P E = .agg #[.int .i64 L, .int .i64 P, .int .u32 E] := rfl
  have H := Lib.hid h
  clear h
  rw [hr0]
  go_enter Tryz.func56, Tryz.ntmps56
  go_wp2_with fail
  have hR := Whole.new w 58 [.int .i64 L, .int .i64 P, .int .u32 E]
  have hc1 : Chg [] w (w.alloc (.cells #[.int .i64 L, .int .i64 P, .int .u32 E] 58)) := (Chg.refl [] w).alloc _
  obtain ⟨g, hg⟩ : ∃ g, g = w.heap.size := ⟨_, rfl⟩
  rw [← hg] at hR ⊢
  generalize w.alloc (.cells #[.int .i64 L, .int .i64 P, .int .u32 E] 58) = w1 at hc1 hR ⊢
  clear hg
  obtain ⟨c0, c1, c2, _, _, _⟩ := root_cells hR
  go_wp2_with fail
  clear c0 c1 c2
  cases hrr : rightR L P E s.V.length with
  | false =>
    have HF := Lib.hid (show allL s L P E = [] by unfold allL; rw [if_neg (by rw [hrr]; simp)])
    go_loopw [5, 11] (fun v i wr => v = .slice none 0 0 ∧ i = .int .i64 0 ∧ Chg [] w1 wr) (fun _ _ _ => 0)
    case atStart => exact ⟨rfl, rfl, Chg.refl _ _⟩
    case round =>
      obtain ⟨rfl, rfl, hcr⟩ := hrel
      by_cases hP : 0 < P
      · obtain ⟨c0, c1, c2, _, _, _⟩ := root_cells (hR.keep hcr)
        go_wp2_with fail
        refine (hpage_any (Dsk.keep H.out (hc1.new hcr)) L P E 0).mono ?_
        rintro e w2 (⟨hyes, _⟩ | ⟨_, rfl, hc2⟩)
        · rw [hasR_wrong hrr] at hyes; cases hyes
        clear c0 c1 c2
        go_wp2_with fail
        go_ret
        rw [HF.out]
        exact ⟨_, [], rfl, own_nil _ _ _, Rows.nil _ _, (hc1.new hcr).new hc2⟩
      · go_wp2_with fail
        go_ret
        rw [HF.out]
        exact ⟨_, [], rfl, own_nil _ _ _, Rows.nil _ _, hc1.new hcr⟩
  | true =>
    have hP1 : 1 ≤ P := (rightR_true.1 hrr).2.2.1
    have hP64 : P ≤ 64 := (rightR_true.1 hrr).2.2.2.1
    have HF := Lib.hid (show allL s L P E = pagesL s L P.toNat by unfold allL; rw [if_pos hrr])
    go_loopw [5, 11] (fun v i wr => ∃ k : Nat, ∃ vs, (k : Int) ≤ P ∧ i = .int .i64 (k : Int) ∧ wr.ownsRow w1.heap.size 30 1 v k vs ∧ Rows w.heap.size wr vs (pagesL s L k) ∧ Chg [] w1 wr) (fun _ i _ => P.toNat - (intOf i).toNat)
    case atStart => exact ⟨0, [], by omega, rfl, own_nil _ _ _, Rows.nil _ _, Chg.refl _ _⟩
    case round =>
      obtain ⟨k, vs, hk, rfl, hown, hrows, hcr⟩ := hrel
      obtain ⟨Av, cv, rfl, hvl, hvc, _⟩ := own_slice hown
      have hcw := Lib.hid (hc1.new hcr)
      by_cases hlt : (k : Int) < P
      · obtain ⟨hh, hx, -, -⟩ := hasR_at hrr hlt
        have HX := Lib.hid hx
        clear hx
        obtain ⟨c0, c1, c2, _, _, _⟩ := root_cells (hR.keep hcr)
        go_wp2_with fail
        refine (hpage_any (Dsk.keep H.out hcw.out) L P E k).mono ?_
        rintro e w2 (⟨_, v2, rfl, ho2, hc2⟩ | ⟨hno, _⟩)
        rotate_left
        · rw [hh] at hno; cases hno
        rw [HX.out] at ho2
        obtain ⟨A2, c2', rfl, _⟩ := own_slice ho2
        have how := own_keep hown hc2
        have hrw := hrows.keep hc2
        have hb2 := Nat.le_trans hcr.size hc2.size
        have hx1 := Lib.hid (show k + 1 ≤ maxLen by unfold maxLen; omega)
        have hx2 := Lib.hid (show (k + 1) * 24 ≤ 140737488355328 by omega)
        have hx3 := Lib.hid hb2
        clear c0 c1 c2 hb2
        go_wp2_with (at_builtin
                     refine wpList_append_src rfl (.tmp 23) (.tmp 25) 66 rfl w1.heap.size 30 i0 _ 24 Tryz.underlying66 hi hz hs1 hb cells_slice (.slice Av k cv) k vs rfl (own_keep how ((Chg.refl _ _).alloc _)) (some ⟨w2.heap.size, 0, none⟩) 1 1 [.slice A2 64 c2'] rfl rfl (Src.of_all (Whole.new w2 30 [.slice A2 64 c2'])) (fun u hu => by simp at hu; rw [hu]; rfl) hx1.out hx2.out (by simp; have := hx3.out; omega) ?_
                     intro v4 w4 ho4 hg4 _)
        have hlen := sectL_len (k := 2 + L.toNat + k) H.out.lenS (hasR_at hrr hlt).2.2.1
        have hch1 : Chg [] w1 w4 := ((hcr.new hc2).alloc _).own (own_keep how ((Chg.refl _ _).alloc _)) (Nat.le_refl _) hg4
        go_roundw
        case rel =>
          refine ⟨k + 1, _, by omega, by go_num, ho4, ?_, hch1⟩
          rw [pagesL_next]
          exact ((hrw.keep ((Chg.refl _ _).alloc _)).snoc (by rw [hlen]; exact own_more (own_keep ho2 ((Chg.refl _ _).alloc _)) hcw.out.size)).grown (own_keep how ((Chg.refl _ _).alloc _)) hg4
        case measure => simp [intOf]; omega
      · go_wp2_with fail
        go_ret
        rw [HF.out]
        have hkP : P.toNat = k := by omega
        rw [hkP]
        exact ⟨_, vs, rfl, by rw [pagesL_len]; exact own_more hown hc1.size, hrows, hcw.out⟩
end
section
variable {w : World} {p gL gN gW : Nat} {rL rN : List Value} {lf m : Int} {s : St}
set_option maxHeartbeats 1000000 in
set_option maxRecDepth 100000 in
theorem rall_any (h : Rfx w p gL gN gW rL rN lf m s) (L P E : Int) :
    Calls Tryz.prog 60 #[.pointer (some ⟨p, 0, none⟩), rootV L P E] w (RowsPost w (allL s L P E)) := by
  obtain ⟨i0, hi, hz, hs1, hb⟩ := info_parts info_bytes
  have hr0 : rootV L P E = .agg #[.int .i64 L, .int .i64 P, .int .u32 E] := rfl
  have H := Lib.hid h
  clear h
  rw [hr0]
  go_enter Tryz.func60, Tryz.ntmps60
  go_wp2_with fail
  have hR := Whole.new w 58 [.int .i64 L, .int .i64 P, .int .u32 E]
  have hc1 : Chg [] w (w.alloc (.cells #[.int .i64 L, .int .i64 P, .int .u32 E] 58)) := (Chg.refl [] w).alloc _
  obtain ⟨g, hg⟩ : ∃ g, g = w.heap.size := ⟨_, rfl⟩
  rw [← hg] at hR ⊢
  generalize w.alloc (.cells #[.int .i64 L, .int .i64 P, .int .u32 E] 58) = w1 at hc1 hR ⊢
  clear hg
  have hld := fun (W : World) (hW : Chg [] w1.drew W) => root_cells (hR.drew.keep hW)
  cases hrr : rightR L P E s.V.length with
  | false =>
    have HF := Lib.hid (show allL s L P E = [] by unfold allL; rw [if_neg (by rw [hrr]; simp)])
    refine wp_flow (by kernel_rfl) plainT plainT_ok (by kernel_rfl) ?_
    refine flow1h (r := rootV L P E) plainT_ok rfl (.out rfl rfl) rfl (fun ev W he hW e1 => by obtain ⟨c0, c1, c2, _, _, _⟩ := hld W hW; go_simp) ?_
    refine flow_move_out plainT_ok rfl rfl rfl ?_
    refine flow_callv (.int .i64 (s.V.length : Int)) (by kernel_rfl) rfl (.cons (.inn rfl) .nil) (fun W hW => (rlen_any ((H.out.keep hc1.drew).keep hW)).mono ?_) ?_
    · rintro e w' ⟨rfl, rfl⟩; exact ⟨rfl, Chg.refl _ _⟩
    refine flow_callv (.bool false) (by kernel_rfl) rfl (.cons (.inn rfl) (.cons (.inn rfl) .nil)) (fun W hW => (rrright_any _ _ _ _).mono ?_) ?_
    · rintro e w' ⟨rfl, hc⟩; exact ⟨by rw [hrr], hc⟩
    refine flow1 (r := .bool true) plainT_ok rfl (.inn rfl) rfl (fun ev W he e1 => by go_simp) ?_
    intro vs W hW hF
    have e13 : vs 13 = .bool true := hF 13 _ rfl rfl
    simp only [putAll, Act.put, List.setIfInBounds_toArray, List.set_cons_zero, List.set_cons_succ, e13]
    have hRW := hR.drew.keep hW
    have hcW := hc1.drew.new hW
    clear hF hld hW
    go_wp2_with fail
    go_ret
    rw [HF.out]
    exact ⟨_, [], rfl, own_nil _ _ _, Rows.nil _ _, hcW⟩
  | true =>
    have hP1 : 1 ≤ P := (rightR_true.1 hrr).2.2.1
    have hP64 : P ≤ 64 := (rightR_true.1 hrr).2.2.2.1
    have HF := Lib.hid (show allL s L P E = pagesL s L P.toNat by unfold allL; rw [if_pos hrr])
    refine wp_flow (by kernel_rfl) plainT plainT_ok (by kernel_rfl) ?_
    refine flow1h (r := rootV L P E) plainT_ok rfl (.out rfl rfl) rfl (fun ev W he hW e1 => by obtain ⟨c0, c1, c2, _, _, _⟩ := hld W hW; go_simp) ?_
    refine flow_move_out plainT_ok rfl rfl rfl ?_
    refine flow_callv (.int .i64 (s.V.length : Int)) (by kernel_rfl) rfl (.cons (.inn rfl) .nil) (fun W hW => (rlen_any ((H.out.keep hc1.drew).keep hW)).mono ?_) ?_
    · rintro e w' ⟨rfl, rfl⟩; exact ⟨rfl, Chg.refl _ _⟩
    refine flow_callv (.bool true) (by kernel_rfl) rfl (.cons (.inn rfl) (.cons (.inn rfl) .nil)) (fun W hW => (rrright_any _ _ _ _).mono ?_) ?_
    · rintro e w' ⟨rfl, hc⟩; exact ⟨by rw [hrr], hc⟩
    refine flow1 (r := .bool false) plainT_ok rfl (.inn rfl) rfl (fun ev W he e1 => by go_simp) ?_
    intro vs W hW hF
    have e13 : vs 13 = .bool false := hF 13 _ rfl rfl
    simp only [putAll, Act.put, List.setIfInBounds_toArray, List.set_cons_zero, List.set_cons_succ, e13]
    have hRW := hR.drew.keep hW
    have hcW := hc1.drew.new hW
    clear hF hld hW
    go_wp2_with fail
    go_loopw [5, 6] (fun v i wr => ∃ k : Nat, ∃ vs, (k : Int) ≤ P ∧ i = .int .i64 (k : Int) ∧ wr.ownsRow W.heap.size 30 1 v k vs ∧ Rows w.heap.size wr vs (pagesL s L k) ∧ Chg [] W wr) (fun _ i _ => P.toNat - (intOf i).toNat)
    case atStart => exact ⟨0, [], by omega, rfl, own_nil _ _ _, Rows.nil _ _, Chg.refl _ _⟩
    case round =>
      obtain ⟨k, vs, hk, rfl, hown, hrows, hcr⟩ := hrel
      obtain ⟨Av, cv, rfl, hvl, hvc, _⟩ := own_slice hown
      have hcw := Lib.hid (hcW.new hcr)
      by_cases hlt : (k : Int) < P
      · obtain ⟨q, hq, hkn, hx⟩ : ∃ q, q = 2 + L.toNat + k ∧ q < s.V.length ∧ homeI L P k = (q : Int) := ⟨_, rfl, (hasR_at hrr hlt).2.2.1, (hasR_at hrr hlt).2.2.2⟩
        have HQ := Lib.hid hq
        have HS := Lib.hid (show sectL s.S s.V.length q = (s.S.drop (q * 64)).take 64 by unfold sectL; rw [if_pos hkn])
        clear hq
        have HX := Lib.hid hx
        clear hx
        obtain ⟨c0, c1, c2, _, _, _⟩ := root_cells (hRW.keep hcr)
        go_wp2_with fail
        refine (rhome_any L P E k).mono ?_
        rintro e wa ⟨rfl, hca⟩
        rw [HX.out]
        have HCA := Lib.hid hca
        clear hca
        go_wp2_with fail
        refine (rread_own ((H.out.keep hcw.out).keep HCA.out) q hkn).mono ?_
        rintro e w2 ⟨v2, rfl, ho2, hc2'⟩
        have hc2 : Chg [] wr w2 := HCA.out.new hc2'
        have ho2 := own_more ho2 HCA.out.size
        rw [← HS.out] at ho2
        clear hc2'
        obtain ⟨A2, c2', rfl, _⟩ := own_slice ho2
        have how := own_keep hown hc2
        have hrw := hrows.keep hc2
        have hb2 := Nat.le_trans hcr.size hc2.size
        have hx1 := Lib.hid (show k + 1 ≤ maxLen by unfold maxLen; omega)
        have hx2 := Lib.hid (show (k + 1) * 24 ≤ 140737488355328 by omega)
        have hx3 := Lib.hid hb2
        clear c0 c1 c2 hb2
        go_wp2_with (at_builtin
                     refine wpList_append_src rfl (.tmp 29) (.tmp 31) 66 rfl W.heap.size 30 i0 _ 24 Tryz.underlying66 hi hz hs1 hb cells_slice (.slice Av k cv) k vs rfl (own_keep how ((Chg.refl _ _).alloc _)) (some ⟨w2.heap.size, 0, none⟩) 1 1 [.slice A2 64 c2'] rfl rfl (Src.of_all (Whole.new w2 30 [.slice A2 64 c2'])) (fun u hu => by simp at hu; rw [hu]; rfl) hx1.out hx2.out (by simp; have := hx3.out; omega) ?_
                     intro v4 w4 ho4 hg4 _)
        have hlen := sectL_len (k := q) H.out.lenS hkn
        have hch1 : Chg [] W w4 := ((hcr.new hc2).alloc _).own (own_keep how ((Chg.refl _ _).alloc _)) (Nat.le_refl _) hg4
        go_roundw
        case rel =>
          refine ⟨k + 1, _, by omega, by go_num, ho4, ?_, hch1⟩
          rw [pagesL_next, ← HQ.out]
          exact ((hrw.keep ((Chg.refl _ _).alloc _)).snoc (by rw [hlen]; exact own_more (own_keep ho2 ((Chg.refl _ _).alloc _)) hcw.out.size)).grown (own_keep how ((Chg.refl _ _).alloc _)) hg4
        case measure => simp [intOf]; omega
      · obtain ⟨c0, c1, c2, _, _, _⟩ := root_cells (hRW.keep hcr)
        go_wp2_with fail
        go_ret
        rw [HF.out]
        have hkP : P.toNat = k := by omega
        rw [hkP]
        exact ⟨_, vs, rfl, by rw [pagesL_len]; exact own_more hown hcW.size, hrows, hcw.out⟩
end
end Go.Proofs.YtddjgncdjdjgeaaGreat
