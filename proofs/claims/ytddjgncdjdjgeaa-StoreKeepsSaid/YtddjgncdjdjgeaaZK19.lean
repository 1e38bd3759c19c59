/-
  K: ShadeA.
-/
import Derived.Test.YtddjgncdjdjgeaaZK2
import Derived.Test.YtddjgncdjdjgeaaZK11
import Derived.Deep.RegionHeld3
import Derived.Deep.RegionWith
import Derived.Deep.DeepCutAuto
namespace Go.Proofs.Ytddjgncdjdjgeaa
open Go.RowKit
/-- One change. -/
def applyC (P : List (List UInt8)) (a : ChV) : List (List UInt8) := if 0 ≤ a.page ∧ a.page < P.length then P.set a.page.toNat a.B else P
def applyL (P : List (List UInt8)) (ls : List ChV) : List (List UInt8) := ls.foldl applyC P
theorem applyC_len (P : List (List UInt8)) (a : ChV) : (applyC P a).length = P.length := by unfold applyC; split <;> simp
theorem applyL_len : ∀ (ls : List ChV) (P : List (List UInt8)), (applyL P ls).length = P.length
  | [], _ => rfl
  | a :: ls, P => by show (applyL (applyC P a) ls).length = _; rw [applyL_len ls, applyC_len]
theorem applyL_take (P : List (List UInt8)) (ls : List ChV) (k : Nat) (a : ChV) (h : ls[k]? = some a) : applyL P (ls.take (k + 1)) = applyC (applyL P (ls.take k)) a := by
  obtain ⟨hk, he⟩ := List.getElem?_eq_some_iff.1 h
  unfold applyL
  rw [List.take_succ_eq_append_getElem hk, List.foldl_append, he]; rfl
/-- The first k of the slices us are fresh rows that hold P's lists. -/
structure Fr (B : Nat) (w : World) (g n : Nat) (us : List Value) (P : List (List UInt8)) (k : Nat) : Prop where
  len : us.length = n
  lenP : P.length = n
  row : Whole w g 44 us
  at_ : ∀ j, j < k → ∀ r, P[j]? = some r → ∃ x, us[j]? = some (.slice (some ⟨x, 0, none⟩) r.length r.length) ∧ Whole w x 5 (bts r) ∧ B ≤ x
theorem Fr.keep {B : Nat} {w w' : World} {g n : Nat} {us : List Value} {P : List (List UInt8)} {k : Nat} (h : Fr B w g n us P k) (hc : Chg [] w w') : Fr B w' g n us P k :=
  ⟨h.len, h.lenP, h.row.keep hc, fun j hj r hr => by obtain ⟨x, h1, h2, h3⟩ := h.at_ j hj r hr; exact ⟨x, h1, h2.keep hc, h3⟩⟩
/-- One row is set, which may be a new one. -/
theorem Fr.set_ {B : Nat} {w : World} {g n : Nat} {us : List Value} {P : List (List UInt8)} {k k' j x : Nat} {r : List UInt8} (h : Fr B w g n us P k) (hj : j < n) (hx : Whole w x 5 (bts r)) (hB : B ≤ x) (hk : ∀ i, i < k' → i < k ∨ i = j) :
    Fr B (w.setCell ⟨g, j, none⟩ (.slice (some ⟨x, 0, none⟩) r.length r.length)) g n (us.set j (.slice (some ⟨x, 0, none⟩) r.length r.length)) (P.set j r) k' := by
  refine ⟨by rw [List.length_set, h.len], by rw [List.length_set, h.lenP], h.row.set_ j _, fun i hi q hq => ?_⟩
  by_cases e : j = i
  · subst e
    rw [List.getElem?_set_self (by rw [h.lenP]; exact hj)] at hq
    injection hq with hq
    subst hq
    refine ⟨x, by rw [List.getElem?_set_self (by rw [h.len]; exact hj)], hx.far (hx.ne_ h.row (by decide)) _, hB⟩
  · rw [List.getElem?_set_ne e] at hq
    obtain ⟨y, h1, h2, h3⟩ := h.at_ i (by have := hk i hi; omega) q hq
    exact ⟨y, by rw [List.getElem?_set_ne e]; exact h1, h2.far (h2.ne_ h.row (by decide)) _, h3⟩
/-- Slices that are nil. -/
def nils (n : Nat) : List Value := List.replicate n (.slice none 0 0)
theorem nils_len (n : Nat) : (nils n).length = n := by simp [nils]
theorem make_rows (n : Nat) (h : n ≤ 1000000) (w : World) : (Instr.makeSlice 36 (.int .i64 (n : Int)) (.int .i64 (n : Int))).run Try.prog w = .ok (.slice (some ⟨w.heap.size, 0, none⟩) n n) (w.alloc (.cells (nils n).toArray 44)) := by
  obtain ⟨i, hi, hz, hs, hb⟩ := info_parts info_bytes
  exact run_make1 (P := Try.prog) 36 44 i _ rfl Try.underlying36 hi hz hs n (by rw [hb]; omega) (by omega) w
/-- What Apply answers: rows of its own. -/
def ApplyPost (w : World) (P : List (List UInt8)) (e : Ending) (w' : World) : Prop :=
  ∃ g us, e = .returned (.slice (some ⟨g, 0, none⟩) P.length P.length) ∧ Fr w.heap.size w' g P.length us P P.length ∧ w.heap.size ≤ g ∧ Chg [] w w'
section
variable {w : World} {A C : Option Addr} {n c m d : Nat} {vs : List Value} {P : List (List UInt8)} {ls : List ChV}
set_option maxHeartbeats 2000000 in
set_option maxRecDepth 100000 in
theorem apply_any (hA : Src w A vs) (hsp : 0 < n → ∀ ad, A = some ad → ad.spot = none) (hn : vs.length = n) (hn1 : n ≤ 1000) (hL : Lists w vs P) (hP : ∀ l ∈ P, l.length ≤ 1000000) (hC : Chs w C ls) (hm : ls.length = m) (hm1 : m ≤ 1000) (hls : ∀ a ∈ ls, a.B.length ≤ 1000000) :
    Calls Try.prog 36 #[.slice A n c, .slice C m d] w (ApplyPost w (applyL P ls)) := by
  have hmk := make_rows n (by omega)
  have hPn : P.length = n := by rw [← hL.1, hn]
  have HA := Lib.hid hA
  have HL := Lib.hid hL
  have HC := Lib.hid hC
  have HP := Lib.hid hP
  have HN := Lib.hid hn
  have HM := Lib.hid hm
  have HPN := Lib.hid hPn
  have HLS := Lib.hid hls
  clear hA hL hC hP hn hm hPn hls
  go_enter Try.func36, Try.ntmps36
  go_wp2_with fail
  have hW := Whole.new w 44 (nils n)
  have hc1 : Chg [] w (w.alloc (.cells (nils n).toArray 44)) := (Chg.refl [] w).alloc _
  obtain ⟨g, hg⟩ : ∃ g, g = w.heap.size := ⟨_, rfl⟩
  rw [← hg] at hW ⊢
  have hgw := Lib.hid (show w.heap.size ≤ g by omega)
  have HC1 := Lib.hid hc1
  generalize w.alloc (.cells (nils n).toArray 44) = w1 at hW HC1 ⊢
  clear hg hc1
  go_loopw [15] (fun v wr => ∃ (k : Nat) (us : List Value), k ≤ n ∧ v = .int .i64 (k : Int) ∧ Hid (Fr w.heap.size wr g n us P k) ∧ Hid (Chg [] w wr)) (fun v _ => n - (intOf v).toNat)
  case atStart => exact ⟨0, _, Nat.zero_le _, rfl, Lib.hid ⟨nils_len n, HPN.out, hW, fun j hj => absurd hj (by omega)⟩, HC1⟩
  case round =>
    obtain ⟨k, us, hk, rfl, HF, HCr⟩ := hrel
    by_cases hlt : k < n
    · have hkI : (k : Int) < (n : Int) := by omega
      obtain ⟨⟨bA, oA, sA⟩, rfl, _, hxA⟩ := (HA.out.keep HCr.out) (by rw [HN.out]; omega)
      obtain rfl : sA = none := hsp (by omega) _ rfl
      obtain ⟨xv, hxv⟩ : ∃ x, vs[k]? = some x := ⟨_, List.getElem?_eq_getElem (by rw [HN.out]; exact hlt)⟩
      obtain ⟨X, hX⟩ : ∃ X, P[k]? = some X := ⟨_, List.getElem?_eq_getElem (by rw [HPN.out]; exact hlt)⟩
      obtain ⟨A5, n5, c5, rfl, hB5⟩ := HL.out.2 k xv X hxv hX
      have ck := hxA k _ hxv
      rw [add_plain] at ck
      have hXl := HP.out X (List.mem_of_getElem? hX)
      have hlX := hB5.len
      have HB5 := Lib.hid (hB5.keep HCr.out)
      have HXk := Lib.hid hX
      clear hxA hxv hX hB5
      go_wp2_with fail
      refine (shfresh_any HB5.out (by omega)).mono ?_
      rintro e w5 ⟨rfl, hW5, hc5⟩
      have HF5 := Lib.hid (HF.out.keep hc5)
      have HC5 := Lib.hid (HCr.out.new hc5)
      have HW5 := Lib.hid hW5
      have hge := HCr.out.size
      have HGE := Lib.hid hge
      have c7 := HF5.out.row.cell k
      have f7 := HF5.out.row.frozen k
      obtain ⟨uk, huk⟩ : ∃ u, us[k]? = some u := ⟨_, List.getElem?_eq_getElem (by rw [HF.out.len]; exact hlt)⟩
      rw [huk] at c7
      clear hW5 hc5 ck huk hge
      go_wp2_with fail
      go_roundw
      case rel =>
        have hPs : P.set k X = P := by
          apply List.ext_getElem?
          intro i
          by_cases e : k = i
          · subst e; rw [List.getElem?_set_self (by rw [HPN.out]; exact hlt), HXk.out]
          · rw [List.getElem?_set_ne e]
        have := HF5.out.set_ (k' := k + 1) hlt HW5.out HGE.out (fun i hi => by omega)
        rw [hPs, hlX] at this
        exact ⟨k + 1, _, by omega, by go_num, Lib.hid this, Lib.hid (HC5.out.setCell (fun h => absurd h (by have := hgw.out; show ¬ g < _; omega)) _)⟩
      case measure => simp [intOf]; omega
    · have hkI : ¬ (k : Int) < (n : Int) := by omega
      have hkn := Lib.hid (show k = n by omega)
      have HF0 : Hid (Fr w.heap.size wr g n us P n) := Lib.hid (by have := HF.out; rwa [hkn.out] at this)
      clear hk hlt HF hkn
      go_wp2_with fail
      go_loopw [28] (fun v w5 => ∃ (k : Nat) (us : List Value), k ≤ m ∧ v = .int .i64 (k : Int) ∧ Hid (Fr w.heap.size w5 g n us (applyL P (ls.take k)) n) ∧ Hid (Chg [] w w5)) (fun v _ => m - (intOf v).toNat)
      case atStart => exact ⟨0, us, Nat.zero_le _, rfl, HF0, HCr⟩
      case round =>
        obtain ⟨q, us2, hq, rfl, HF, HC2⟩ := hrel
        clear HF0 HCr
        by_cases hlt : q < m
        · have hqI : (q : Int) < (m : Int) := by omega
          obtain ⟨gc, o, rfl, hgc, hat⟩ := (HC.out.keep HC2.out).cells (by rw [HM.out]; omega)
          obtain ⟨a, ha⟩ : ∃ a, ls[q]? = some a := ⟨_, List.getElem?_eq_getElem (by rw [HM.out]; exact hlt)⟩
          obtain ⟨d0, d1⟩ := hat q a ha
          have hok := HC.out.ok a (List.mem_of_getElem? ha)
          have HBa := Lib.hid (hok.bs.keep HC2.out)
          have hal := HLS.out a (List.mem_of_getElem? ha)
          have hbn := hok.bs.len
          have HAt := Lib.hid (applyL_take P ls q a ha)
          clear hat ha hok
          obtain ⟨pgv, bA, bn, bc, B⟩ := a
          simp only at d0 d1 HBa hal hbn
          have hn1' := hn1
          by_cases hp : 0 ≤ pgv ∧ pgv < (n : Int)
          · obtain ⟨hp0, hp1⟩ := hp
            have HApp := Lib.hid (show applyL P (ls.take (q + 1)) = (applyL P (ls.take q)).set pgv.toNat B by rw [HAt.out, applyC, if_pos (by rw [applyL_len, HPN.out]; exact ⟨hp0, hp1⟩)])
            have HB0 := Lib.hid (show wr.heap.size = wr.heap.size from rfl)
            go_upto_region 11 with fail
            have hwc := Whole.new wr 78 [.int .i64 pgv, .slice bA bn bc]
            have hal1 : Chg [] wr (wr.alloc (.cells #[.int .i64 pgv, .slice bA bn bc] 78)) := (Chg.refl [] wr).alloc _
            obtain ⟨g9, hg9⟩ : ∃ g9, g9 = wr.heap.size := ⟨_, rfl⟩
            rw [← hg9] at hwc ⊢
            have HF6 := Lib.hid (HF.out.keep hal1)
            have HB6 := Lib.hid (HBa.out.keep hal1)
            have HC6 := Lib.hid (HC2.out.new hal1)
            generalize wr.alloc (.cells #[.int .i64 pgv, .slice bA bn bc] 78) = w6 at hwc HF6 HB6 HC6 ⊢
            have k0 := hwc.cell 0
            have k1 := hwc.cell 1
            have kg := hwc.lt
            have HK := Lib.hid (show w6.heap.size = w6.heap.size from rfl)
            clear hg9 HB0
            obtain ⟨pn, hpn⟩ : ∃ pn : Nat, pgv = (pn : Int) := ⟨pgv.toNat, by omega⟩
            subst hpn
            have hpl : pn < n := by omega
            rw [Int.toNat_natCast] at HApp
            obtain ⟨uk, huk⟩ : ∃ u, us2[pn]? = some u := ⟨_, List.getElem?_eq_getElem (by rw [HF6.out.len]; exact hpl)⟩
            have HUK := Lib.hid huk
            clear huk
            go_region_with (go_at_call 72
                            refine (shfresh_any (HB6.out.keep (wdrew (Chg.refl [] _))) (by omega)).mono ?_
                            rintro e w7 ⟨rfl, hW7, hc7⟩
                            have k7 := (HF6.out.row.keep (wdrew hc7)).cell pn
                            have f7 := (HF6.out.row.keep (wdrew hc7)).frozen pn
                            rw [HUK.out] at k7
                            have d7 := cell_keep k0 (wdrew hc7)
                            have d8 := cell_keep k1 (wdrew hc7))
            all_goals go_wp2_with fail
            all_goals go_roundw
            all_goals first
              | (simp [intOf]; omega)
              | (have hfr := (HF6.out.keep (wdrew hc7)).set_ (k' := n) (r := B) hpl hW7 HC6.out.size (fun i hi => .inl hi)
                 rw [hbn] at hfr
                 exact ⟨q + 1, _, by omega, by go_num, Lib.hid (by rw [HApp.out]; exact hfr), Lib.hid ((HC6.out.new (wdrew hc7)).setCell (fun h => absurd h (by have := hgw.out; show ¬ g < _; omega)) _)⟩)
          · have HApp := Lib.hid (show applyL P (ls.take (q + 1)) = applyL P (ls.take q) by rw [HAt.out, applyC, if_neg (by rw [applyL_len, HPN.out]; exact hp)])
            by_cases hp0 : 0 ≤ pgv
            · have hp1 : ¬ pgv < (n : Int) := fun h => hp ⟨hp0, h⟩
              go_wp2_with fail
              go_roundw
              case rel => exact ⟨q + 1, us2, by omega, by go_num, Lib.hid (by rw [HApp.out]; exact HF.out.keep ((Chg.refl _ _).alloc _)), Lib.hid (HC2.out.alloc _)⟩
              case measure => simp [intOf]; omega
            · go_wp2_with fail
              go_roundw
              case rel => exact ⟨q + 1, us2, by omega, by go_num, Lib.hid (by rw [HApp.out]; exact HF.out.keep ((Chg.refl _ _).alloc _)), Lib.hid (HC2.out.alloc _)⟩
              case measure => simp [intOf]; omega
        · have hqI : ¬ (q : Int) < (m : Int) := by omega
          have HQ := Lib.hid (show ls.take q = ls from List.take_of_length_le (by rw [HM.out]; omega))
          have hlen : (applyL P ls).length = n := by rw [applyL_len, HPN.out]
          clear hlt
          go_wp2_with fail
          go_ret
          refine ⟨g, us2, by rw [hlen]; rfl, ?_, hgw.out, HC2.out⟩
          rw [hlen, ← HQ.out]
          rw [HQ.out]; have := HF.out; rw [HQ.out] at this; exact this
end
end Go.Proofs.Ytddjgncdjdjgeaa
