/-
  S: ShadeA, DeltaRead.
-/
import Derived.Test.YtddjgncdjdjgeaaGreatZS2
import Derived.Test.YtddjgncdjdjgeaaGreatZS3
import Derived.Test.YtddjgncdjdjgeaaGreatZS12
import Derived.Deep.RegionHeld3
import Derived.Deep.RegionWith
import Derived.Deep.DeepCutAuto
import Derived.Laws.CopyOwn
namespace Go.Proofs.YtddjgncdjdjgeaaGreat
open Go.RowKit
/-- One change. -/
def applyC (P : List (List UInt8)) (a : ChV) : List (List UInt8) := if 0 ≤ a.page ∧ a.page < P.length then P.set a.page.toNat a.B else P
def applyL (P : List (List UInt8)) (ls : List ChV) : List (List UInt8) := ls.foldl applyC P
theorem applyC_len (P : List (List UInt8)) (a : ChV) : (applyC P a).length = P.length := by unfold applyC; split <;> simp
theorem applyL_len : ∀ (ls : List ChV) (P : List (List UInt8)), (applyL P ls).length = P.length
  | [], _ => rfl
  | a :: ls, P => by show (applyL (applyC P a) ls).length = _; rw [applyL_len ls, applyC_len]
theorem applyL_take (P : List (List UInt8)) (ls : List ChV) (k : Nat) (a : ChV) (h : ls[k]? = some a) : applyL P (ls.take (k + 1)) = applyC (applyL P (ls.take k)) a := by
  obtain ⟨hk, he⟩ := List.getElem?_eq_some_iff.1 h
  unfold applyL
  rw [List.take_succ_eq_append_getElem hk, List.foldl_append, he]; rfl
/-- The first k of the slices us are fresh rows that hold P's lists. -/
structure Fr (B : Nat) (w : World) (g n : Nat) (us : List Value) (P : List (List UInt8)) (k : Nat) : Prop where
  len : us.length = n
  lenP : P.length = n
  row : Whole w g 30 us
  at_ : ∀ j, j < k → ∀ r, P[j]? = some r → ∃ x, us[j]? = some (.slice (some ⟨x, 0, none⟩) r.length r.length) ∧ Whole w x 5 (bts r) ∧ B ≤ x
theorem Fr.keep {B : Nat} {w w' : World} {g n : Nat} {us : List Value} {P : List (List UInt8)} {k : Nat} (h : Fr B w g n us P k) (hc : Chg [] w w') : Fr B w' g n us P k :=
  ⟨h.len, h.lenP, h.row.keep hc, fun j hj r hr => by obtain ⟨x, h1, h2, h3⟩ := h.at_ j hj r hr; exact ⟨x, h1, h2.keep hc, h3⟩⟩
/-- One row is set, which may be a new one. -/
theorem Fr.set_ {B : Nat} {w : World} {g n : Nat} {us : List Value} {P : List (List UInt8)} {k k' j x : Nat} {r : List UInt8} (h : Fr B w g n us P k) (hj : j < n) (hx : Whole w x 5 (bts r)) (hB : B ≤ x) (hk : ∀ i, i < k' → i < k ∨ i = j) :
    Fr B (w.setCell ⟨g, j, none⟩ (.slice (some ⟨x, 0, none⟩) r.length r.length)) g n (us.set j (.slice (some ⟨x, 0, none⟩) r.length r.length)) (P.set j r) k' := by
  refine ⟨by rw [List.length_set, h.len], by rw [List.length_set, h.lenP], h.row.set_ j _, fun i hi q hq => ?_⟩
  by_cases e : j = i
  · subst e
    rw [List.getElem?_set_self (by rw [h.lenP]; exact hj)] at hq
    injection hq with hq
    subst hq
    refine ⟨x, by rw [List.getElem?_set_self (by rw [h.len]; exact hj)], hx.far (hx.ne_ h.row (by decide)) _, hB⟩
  · rw [List.getElem?_set_ne e] at hq
    obtain ⟨y, h1, h2, h3⟩ := h.at_ i (by have := hk i hi; omega) q hq
    exact ⟨y, by rw [List.getElem?_set_ne e]; exact h1, h2.far (h2.ne_ h.row (by decide)) _, h3⟩
/-- Slices that are nil. -/
def nils (n : Nat) : List Value := List.replicate n (.slice none 0 0)
theorem nils_len (n : Nat) : (nils n).length = n := by simp [nils]
theorem make_rows (n : Nat) (h : n ≤ 1000000) (w : World) : (Instr.makeSlice 66 (.int .i64 (n : Int)) (.int .i64 (n : Int))).run Tryz.prog w = .ok (.slice (some ⟨w.heap.size, 0, none⟩) n n) (w.alloc (.cells (nils n).toArray 30)) := by
  obtain ⟨i, hi, hz, hs, hb⟩ := info_parts info_bytes
  exact run_make1 (P := Tryz.prog) 66 30 i _ rfl Tryz.underlying66 hi hz hs n (by rw [hb]; omega) (by omega) w
/-- What Apply answers: rows of its own. -/
def ApplyPost (w : World) (P : List (List UInt8)) (e : Ending) (w' : World) : Prop :=
  ∃ g us, e = .returned (.slice (some ⟨g, 0, none⟩) P.length P.length) ∧ Fr w.heap.size w' g P.length us P P.length ∧ w.heap.size ≤ g ∧ Chg [] w w'
section
variable {w : World} {A C : Option Addr} {n c m d : Nat} {vs : List Value} {P : List (List UInt8)} {ls : List ChV}
set_option maxHeartbeats 2000000 in
set_option maxRecDepth 100000 in
theorem apply_any (hA : Src w A vs) (hsp : 0 < n → ∀ ad, A = some ad → ad.spot = none) (hn : vs.length = n) (hn1 : n ≤ 1000) (hL : Lists w vs P) (hP : ∀ l ∈ P, l.length ≤ 1000000) (hC : Chs w C ls) (hm : ls.length = m) (hm1 : m ≤ 1000) (hls : ∀ a ∈ ls, a.B.length ≤ 1000000) :
    Calls Tryz.prog 99 #[.slice A n c, .slice C m d] w (ApplyPost w (applyL P ls)) := by
  have hmk := make_rows n (by omega)
  have hPn : P.length = n := by rw [← hL.1, hn]
  have HA := Lib.hid hA
  have HL := Lib.hid hL
  have HC := Lib.hid hC
  have HP := Lib.hid hP
  have HN := Lib.hid hn
  have HM := Lib.hid hm
  have HPN := Lib.hid hPn
  have HLS := Lib.hid hls
  clear hA hL hC hP hn hm hPn hls
  go_enter Tryz.func99, Tryz.ntmps99
  go_wp2_with fail
  have hW := Whole.new w 30 (nils n)
  have hc1 : Chg [] w (w.alloc (.cells (nils n).toArray 30)) := (Chg.refl [] w).alloc _
  obtain ⟨g, hg⟩ : ∃ g, g = w.heap.size := ⟨_, rfl⟩
  rw [← hg] at hW ⊢
  have hgw := Lib.hid (show w.heap.size ≤ g by omega)
  have HC1 := Lib.hid hc1
  generalize w.alloc (.cells (nils n).toArray 30) = w1 at hW HC1 ⊢
  clear hg hc1
  go_loopw [15] (fun v wr => ∃ (k : Nat) (us : List Value), k ≤ n ∧ v = .int .i64 (k : Int) ∧ Hid (Fr w.heap.size wr g n us P k) ∧ Hid (Chg [] w wr)) (fun v _ => n - (intOf v).toNat)
  case atStart => exact ⟨0, _, Nat.zero_le _, rfl, Lib.hid ⟨nils_len n, HPN.out, hW, fun j hj => absurd hj (by omega)⟩, HC1⟩
  case round =>
    obtain ⟨k, us, hk, rfl, HF, HCr⟩ := hrel
    by_cases hlt : k < n
    · have hkI : (k : Int) < (n : Int) := by omega
      obtain ⟨⟨bA, oA, sA⟩, rfl, _, hxA⟩ := (HA.out.keep HCr.out) (by rw [HN.out]; omega)
      obtain rfl : sA = none := hsp (by omega) _ rfl
      obtain ⟨xv, hxv⟩ : ∃ x, vs[k]? = some x := ⟨_, List.getElem?_eq_getElem (by rw [HN.out]; exact hlt)⟩
      obtain ⟨X, hX⟩ : ∃ X, P[k]? = some X := ⟨_, List.getElem?_eq_getElem (by rw [HPN.out]; exact hlt)⟩
      obtain ⟨A5, n5, c5, rfl, hB5⟩ := HL.out.2 k xv X hxv hX
      have ck := hxA k _ hxv
      rw [add_plain] at ck
      have hXl := HP.out X (List.mem_of_getElem? hX)
      have hlX := hB5.len
      have HB5 := Lib.hid (hB5.keep HCr.out)
      have HXk := Lib.hid hX
      clear hxA hxv hX hB5
      go_wp2_with fail
      refine (shfresh_any HB5.out (by omega)).mono ?_
      rintro e w5 ⟨rfl, hW5, hc5⟩
      have HF5 := Lib.hid (HF.out.keep hc5)
      have HC5 := Lib.hid (HCr.out.new hc5)
      have HW5 := Lib.hid hW5
      have hge := HCr.out.size
      have HGE := Lib.hid hge
      have c7 := HF5.out.row.cell k
      have f7 := HF5.out.row.frozen k
      obtain ⟨uk, huk⟩ : ∃ u, us[k]? = some u := ⟨_, List.getElem?_eq_getElem (by rw [HF.out.len]; exact hlt)⟩
      rw [huk] at c7
      clear hW5 hc5 ck huk hge
      go_wp2_with fail
      go_roundw
      case rel =>
        have hPs : P.set k X = P := by
          apply List.ext_getElem?
          intro i
          by_cases e : k = i
          · subst e; rw [List.getElem?_set_self (by rw [HPN.out]; exact hlt), HXk.out]
          · rw [List.getElem?_set_ne e]
        have := HF5.out.set_ (k' := k + 1) hlt HW5.out HGE.out (fun i hi => by omega)
        rw [hPs, hlX] at this
        exact ⟨k + 1, _, by omega, by go_num, Lib.hid this, Lib.hid (HC5.out.setCell (fun h => absurd h (by have := hgw.out; show ¬ g < _; omega)) _)⟩
      case measure => simp [intOf]; omega
    · have hkI : ¬ (k : Int) < (n : Int) := by omega
      have hkn := Lib.hid (show k = n by omega)
      have HF0 : Hid (Fr w.heap.size wr g n us P n) := Lib.hid (by have := HF.out; rwa [hkn.out] at this)
      clear hk hlt HF hkn
      go_wp2_with fail
      go_loopw [28] (fun v w5 => ∃ (k : Nat) (us : List Value), k ≤ m ∧ v = .int .i64 (k : Int) ∧ Hid (Fr w.heap.size w5 g n us (applyL P (ls.take k)) n) ∧ Hid (Chg [] w w5)) (fun v _ => m - (intOf v).toNat)
      case atStart => exact ⟨0, us, Nat.zero_le _, rfl, HF0, HCr⟩
      case round =>
        obtain ⟨q, us2, hq, rfl, HF, HC2⟩ := hrel
        clear HF0 HCr
        by_cases hlt : q < m
        · have hqI : (q : Int) < (m : Int) := by omega
          obtain ⟨gc, o, rfl, hgc, hat⟩ := (HC.out.keep HC2.out).cells (by rw [HM.out]; omega)
          obtain ⟨a, ha⟩ : ∃ a, ls[q]? = some a := ⟨_, List.getElem?_eq_getElem (by rw [HM.out]; exact hlt)⟩
          obtain ⟨d0, d1⟩ := hat q a ha
          have hok := HC.out.ok a (List.mem_of_getElem? ha)
          have HBa := Lib.hid (hok.bs.keep HC2.out)
          have hal := HLS.out a (List.mem_of_getElem? ha)
          have hbn := hok.bs.len
          have HAt := Lib.hid (applyL_take P ls q a ha)
          clear hat ha hok
          obtain ⟨pgv, bA, bn, bc, B⟩ := a
          simp only at d0 d1 HBa hal hbn
          have hn1' := hn1
          by_cases hp : 0 ≤ pgv ∧ pgv < (n : Int)
          · obtain ⟨hp0, hp1⟩ := hp
            have HApp := Lib.hid (show applyL P (ls.take (q + 1)) = (applyL P (ls.take q)).set pgv.toNat B by rw [HAt.out, applyC, if_pos (by rw [applyL_len, HPN.out]; exact ⟨hp0, hp1⟩)])
            have HB0 := Lib.hid (show wr.heap.size = wr.heap.size from rfl)
            go_upto_region 11 with fail
            have hwc := Whole.new wr 51 [.int .i64 pgv, .slice bA bn bc]
            have hal1 : Chg [] wr (wr.alloc (.cells #[.int .i64 pgv, .slice bA bn bc] 51)) := (Chg.refl [] wr).alloc _
            obtain ⟨g9, hg9⟩ : ∃ g9, g9 = wr.heap.size := ⟨_, rfl⟩
            rw [← hg9] at hwc ⊢
            have HF6 := Lib.hid (HF.out.keep hal1)
            have HB6 := Lib.hid (HBa.out.keep hal1)
            have HC6 := Lib.hid (HC2.out.new hal1)
            generalize wr.alloc (.cells #[.int .i64 pgv, .slice bA bn bc] 51) = w6 at hwc HF6 HB6 HC6 ⊢
            have k0 := hwc.cell 0
            have k1 := hwc.cell 1
            have kg := hwc.lt
            have HK := Lib.hid (show w6.heap.size = w6.heap.size from rfl)
            clear hg9 HB0
            obtain ⟨pn, hpn⟩ : ∃ pn : Nat, pgv = (pn : Int) := ⟨pgv.toNat, by omega⟩
            subst hpn
            have hpl : pn < n := by omega
            rw [Int.toNat_natCast] at HApp
            obtain ⟨uk, huk⟩ : ∃ u, us2[pn]? = some u := ⟨_, List.getElem?_eq_getElem (by rw [HF6.out.len]; exact hpl)⟩
            have HUK := Lib.hid huk
            clear huk
            go_region_with (go_at_call 123
                            refine (shfresh_any (HB6.out.keep (wdrew (Chg.refl [] _))) (by omega)).mono ?_
                            rintro e w7 ⟨rfl, hW7, hc7⟩
                            have k7 := (HF6.out.row.keep (wdrew hc7)).cell pn
                            have f7 := (HF6.out.row.keep (wdrew hc7)).frozen pn
                            rw [HUK.out] at k7
                            have d7 := cell_keep k0 (wdrew hc7)
                            have d8 := cell_keep k1 (wdrew hc7))
            all_goals go_wp2_with fail
            all_goals go_roundw
            all_goals first
              | (simp [intOf]; omega)
              | (have hfr := (HF6.out.keep (wdrew hc7)).set_ (k' := n) (r := B) hpl hW7 HC6.out.size (fun i hi => .inl hi)
                 rw [hbn] at hfr
                 exact ⟨q + 1, _, by omega, by go_num, Lib.hid (by rw [HApp.out]; exact hfr), Lib.hid ((HC6.out.new (wdrew hc7)).setCell (fun h => absurd h (by have := hgw.out; show ¬ g < _; omega)) _)⟩)
          · have HApp := Lib.hid (show applyL P (ls.take (q + 1)) = applyL P (ls.take q) by rw [HAt.out, applyC, if_neg (by rw [applyL_len, HPN.out]; exact hp)])
            by_cases hp0 : 0 ≤ pgv
            · have hp1 : ¬ pgv < (n : Int) := fun h => hp ⟨hp0, h⟩
              go_wp2_with fail
              go_roundw
              case rel => exact ⟨q + 1, us2, by omega, by go_num, Lib.hid (by rw [HApp.out]; exact HF.out.keep ((Chg.refl _ _).alloc _)), Lib.hid (HC2.out.alloc _)⟩
              case measure => simp [intOf]; omega
            · go_wp2_with fail
              go_roundw
              case rel => exact ⟨q + 1, us2, by omega, by go_num, Lib.hid (by rw [HApp.out]; exact HF.out.keep ((Chg.refl _ _).alloc _)), Lib.hid (HC2.out.alloc _)⟩
              case measure => simp [intOf]; omega
        · have hqI : ¬ (q : Int) < (m : Int) := by omega
          have HQ := Lib.hid (show ls.take q = ls from List.take_of_length_le (by rw [HM.out]; omega))
          have hlen : (applyL P ls).length = n := by rw [applyL_len, HPN.out]
          clear hlt
          go_wp2_with fail
          go_ret
          refine ⟨g, us2, by rw [hlen]; rfl, ?_, hgw.out, HC2.out⟩
          rw [hlen, ← HQ.out]
          rw [HQ.out]; have := HF.out; rw [HQ.out] at this; exact this
end
end Go.Proofs.YtddjgncdjdjgeaaGreat
namespace Go.Proofs.YtddjgncdjdjgeaaGreat
open Go.RowKit
theorem size_byte4 : (Tryz.prog.info? 5).map (·.size) = some 1 := by kernel_rfl
/-- The k-th change that the bytes b say. -/
def chOf (b : List UInt8) (k : Nat) : ChV := ⟨(num2 (b.drop (2 + k * 66)) : Nat), none, 64, 64, (b.drop (2 + k * 66 + 2)).take 64⟩
def chsOf (b : List UInt8) (k : Nat) : List ChV := (List.range k).map (chOf b)
theorem chsOf_next (b : List UInt8) (k : Nat) : chsOf b (k + 1) = chsOf b k ++ [chOf b k] := by simp [chsOf, List.range_succ]
theorem chsOf_len (b : List UInt8) (k : Nat) : (chsOf b k).length = k := by simp [chsOf]
/-- The same page, the same bytes, as long. -/
def asC (l m : List ChV) : Prop := l.map keyC = m.map keyC ∧ ∀ (i : Nat) (a b : ChV), l[i]? = some a → m[i]? = some b → a.page = b.page ∧ a.bn = b.bn
theorem asC_nil : asC [] [] := ⟨rfl, fun i a b h => by simp at h⟩
theorem asC_snoc {l m : List ChV} {a b : ChV} (h : asC l m) (hk : keyC a = keyC b) (hb : a.bn = b.bn) : asC (l ++ [a]) (m ++ [b]) := by
  have hlen : l.length = m.length := by have := congrArg List.length h.1; simpa using this
  refine ⟨by simp [h.1, hk], fun i x y hx hy => ?_⟩
  rcases Nat.lt_trichotomy i l.length with hi | hi | hi
  · rw [List.getElem?_append_left hi] at hx
    rw [List.getElem?_append_left (by omega)] at hy
    exact h.2 i x y hx hy
  · subst hi
    rw [List.getElem?_concat_length] at hx
    rw [hlen, List.getElem?_concat_length] at hy
    cases hx
    cases hy
    exact ⟨by injection hk, hb⟩
  · rw [List.getElem?_eq_none (by simp; omega)] at hx
    cases hx
theorem asC_right : ∀ {l m : List ChV} (_ : l.length = m.length) (_ : ∀ (i : Nat) (a b : ChV), l[i]? = some a → m[i]? = some b → a.page = b.page ∧ a.bn = b.bn) (last P : Int), rightS last P l = rightS last P m
  | [], [], _, _, _, _ => rfl
  | [], b :: m, h, _, _, _ => by simp at h
  | a :: l, [], h, _, _, _ => by simp at h
  | a :: l, b :: m, h, hx, last, P => by
    obtain ⟨h1, h2⟩ := hx 0 a b rfl rfl
    unfold rightS
    rw [h1, h2, asC_right (by simpa using h) (fun i x y hi hj => hx (i + 1) x y (by simpa using hi) (by simpa using hj)) b.page P]
theorem asC_rightB {l m : List ChV} (h : asC l m) (P : Int) : rightB P l = rightB P m := by
  unfold rightB
  rw [asC_right (by have := congrArg List.length h.1; simpa using this) h.2]
/-- What Read answers, with rows of the call's own. -/
def DReadOwn (b : List UInt8) (P : Int) (w : World) (e : Ending) (w' : World) : Prop :=
  (2 ≤ b.length ∧ b.length = 2 + num2 b * 66 ∧ rightB P (chsOf b (num2 b)) = true ∧ ∃ v ls, e = .returned (.tuple #[v, .bool true]) ∧ w'.ownsRow w.heap.size 51 2 v (num2 b) (chCs ls) ∧ (∀ a ∈ ls, RMade w' w.heap.size a) ∧ ls.length = num2 b ∧ asC ls (chsOf b (num2 b)) ∧ Chg [] w w') ∨
  (¬ (2 ≤ b.length ∧ b.length = 2 + num2 b * 66 ∧ rightB P (chsOf b (num2 b)) = true) ∧ e = .returned (.tuple #[.slice none 0 0, .bool false]) ∧ Chg [] w w')
/-- What Read answers. -/
def DReadPost (b : List UInt8) (P : Int) (w : World) (e : Ending) (w' : World) : Prop :=
  (2 ≤ b.length ∧ b.length = 2 + num2 b * 66 ∧ rightB P (chsOf b (num2 b)) = true ∧ ∃ A c ls, e = .returned (.tuple #[.slice A (num2 b) c, .bool true]) ∧ Chs w' A ls ∧ ls.length = num2 b ∧ asC ls (chsOf b (num2 b)) ∧ Chg [] w w') ∨
  (¬ (2 ≤ b.length ∧ b.length = 2 + num2 b * 66 ∧ rightB P (chsOf b (num2 b)) = true) ∧ e = .returned (.tuple #[.slice none 0 0, .bool false]) ∧ Chg [] w w')
theorem DReadOwn.post {b : List UInt8} {P : Int} {w : World} {e : Ending} {w' : World} (h : DReadOwn b P w e w') : DReadPost b P w e w' := by
  rcases h with ⟨h1, h2, h3, v, ls, rfl, ho, hm, hl, ha, hc⟩ | h
  · obtain ⟨A, c, rfl, _, hch, _⟩ := chs_own' ho (fun a ha => (hm a ha).ok)
    exact .inl ⟨h1, h2, h3, A, c, ls, rfl, hch, hl, ha, hc⟩
  · exact .inr h
theorem num2_lt (l : List UInt8) : num2 l < 65536 := by
  unfold num2
  have h1 := (l.getD 0 0).toNat_lt
  have h2 := (l.getD 1 0).toNat_lt
  omega
theorem make_changes (n : Nat) (hn : n < 65536) (W : World) : ∃ o : Array Value, o.size = n * 2 ∧ (Instr.makeSlice 52 (.int .i64 0) (.int .i64 (n : Int))).run Tryz.prog W = .ok (.slice (some ⟨W.heap.size, 0, none⟩) 0 n) (W.alloc (.cells o 51)) := by
  obtain ⟨i, hi, hz, hs1, hb⟩ := info_parts info_change
  have h := run_make (P := Tryz.prog) W 52 51 i _ Tryz.underlying52 hi hz .i64 .i64 0 (n : Int) (by omega) (by omega) (by rw [hb]; omega) (by omega)
  rw [hs1] at h
  exact ⟨_, size_madeCells _ _, by simpa using h⟩
/-- What Read has made so far. -/
def ReadSo (b : List UInt8) (w wr : World) (v : Value) (k : Nat) : Prop :=
  ∃ ls : List ChV, wr.ownsRow w.heap.size 51 2 v k (chCs ls) ∧ (∀ a ∈ ls, MadeCh wr w.heap.size a) ∧ asC ls (chsOf b k) ∧ Chg [] w wr
section
variable {w : World} {A : Option Addr} {n c : Nat}
set_option maxHeartbeats 8000000 in
set_option maxRecDepth 100000 in
theorem dread_own {b : List UInt8} (h : Bs w A n c b) (P : Int) :
    Calls Tryz.prog 98 #[.slice A n c, .int .i64 P] w (DReadOwn b P w) := by
  obtain ⟨i0, hi, hz0, hz1, hz2⟩ := info_parts info_change
  have hlen := h.len
  have hcap := h.cap
  have hmax := h.max
  have H := Lib.hid h
  have HLN := Lib.hid hlen
  clear h hlen
  by_cases h2 : n < 2
  · have HNO := Lib.hid (show ¬ (2 ≤ b.length ∧ b.length = 2 + num2 b * 66 ∧ rightB P (chsOf b (num2 b)) = true) from fun h => by have := HLN.out; omega)
    have hd : decide ((n : Int) < 2) = true := by simp; omega
    go_enter Tryz.func98, Tryz.ntmps98
    go_wp2_with fail
    go_ret2
    exact .inr ⟨HNO.out, rfl, Chg.refl _ _⟩
  · have hd : decide ((n : Int) < 2) = false := by simp; omega
    obtain ⟨N, hN⟩ : ∃ N, N = num2 b := ⟨_, rfl⟩
    have hN6 : N < 65536 := by rw [hN]; exact num2_lt b
    have HN := Lib.hid hN
    clear hN
    go_enter Tryz.func98, Tryz.ntmps98
    go_wp2_with fail
    refine (dget_any H.out (by omega)).mono ?_
    rintro e w1 ⟨rfl, hc1⟩
    rw [← HN.out]
    have H1 := Lib.hid (H.out.keep hc1)
    have HC1 := Lib.hid hc1
    clear hc1
    by_cases h66 : n = 2 + N * 66
    · obtain ⟨o, ho, hmk⟩ := make_changes N hN6 w1
      have hnI : (n : Int) = 2 + (N : Int) * 66 := by omega
      have hb1 : ((n : Int) == 2 + (N : Int) * 66) = true := by simp; omega
      have HO := Lib.hid ho
      clear ho
      have hmkp := make_page
      have hb2 : (!((n : Int) == 2 + (N : Int) * 66)) = false := by rw [hb1]; rfl
      have hb3 : ((n : Int) != 2 + (N : Int) * 66) = false := by simp; omega
      have H66 := Lib.hid h66
      clear hnI h66
      go_wp2_with fail
      have hown0 : (w1.alloc (.cells o 51)).ownsRow w.heap.size 51 2 (.slice (some ⟨w1.heap.size, 0, none⟩) 0 N) 0 (chCs []) :=
        ⟨rfl, .inr ⟨_, _, o, rfl, HC1.out.size, heap_alloc_new w1 _, Nat.zero_le _, by unfold maxLen; omega, HO.out, by simp [chCs]⟩⟩
      have hc2 : Chg [] w (w1.alloc (.cells o 51)) := HC1.out.alloc _
      go_loopw [7, 8] (fun v i wr => ∃ (k t : Nat), k ≤ N ∧ i = .int .i64 (t : Int) ∧ Hid (t = 2 + k * 66) ∧ ReadSo b w wr v k) (fun _ i _ => n - (intOf i).toNat)
      case atStart => exact ⟨0, 2, Nat.zero_le _, rfl, Lib.hid rfl, [], hown0, fun a ha => by simp at ha, asC_nil, hc2⟩
      case round =>
        obtain ⟨k, t, hk, rfl, HT, ls, hown, hmade, has, hcr⟩ := hrel
        have hwr := hcr.size
        have HM := Lib.hid hmade
        have HAS := Lib.hid has
        have HC := Lib.hid hcr
        have HB := Lib.hid (H.out.keep hcr)
        clear hown0 hc2 hmade has hcr
        by_cases hlt : k < N
        · have ht66 : t + 66 ≤ n := by have := HT.out; have := H66.out; omega
          have htI : (t : Int) < (n : Int) := by omega
          have htc : ¬ c = t := by omega
          have htc2 : ¬ c = t + 2 := by omega
          obtain ⟨ad, rfl, _, _⟩ := HB.out.src (by rw [bts_len, HLN.out]; omega)
          obtain ⟨b0, o0, s0⟩ := ad
          obtain rfl : s0 = none := HB.out.spot (by omega) _ rfl
          have hcut2 := HB.out.cut (lo := t + 2) (hi := n) (by omega) (Nat.le_refl _)
          have hcut1 := HB.out.cut (lo := t) (hi := n) (by omega) (Nat.le_refl _)
          rw [if_neg htc2, Option.map_some, add_plain] at hcut2
          rw [if_neg htc, Option.map_some, add_plain] at hcut1
          have e2 : (b.drop (t + 2)).take (n - (t + 2)) = b.drop (t + 2) := List.take_of_length_le (by rw [List.length_drop, HLN.out]; exact Nat.le_refl _)
          have e1 : (b.drop t).take (n - t) = b.drop t := List.take_of_length_le (by rw [List.length_drop, HLN.out]; exact Nat.le_refl _)
          rw [e2] at hcut2
          rw [e1] at hcut1
          obtain ⟨Y, hY⟩ : ∃ Y, Y = (b.drop (t + 2)).take 64 := ⟨_, rfl⟩
          have hYl : Y.length = 64 := by rw [hY, List.length_take, List.length_drop, HLN.out]; omega
          have hsY : Src wr (some ⟨b0, o0 + (t + 2), none⟩) (bts Y) := by
            have := (hcut2.take (m := 64) (by omega)).src
            rwa [← hY] at this
          have HY := Lib.hid hY
          have HCUT := Lib.hid hcut1
          have hYn := Lib.hid (show (bts Y).length = Nat.min (n - (t + 2)) 64 by rw [bts_len, hYl]; show 64 = min _ _; omega)
          have hYf := Lib.hid (show 0 + (bts Y).length ≤ (bts (zeros 64)).length by rw [bts_len, bts_len, hYl, zeros_len]; omega)
          have hYs := Lib.hid (show splice (bts (zeros 64)) 0 (bts Y) = bts Y from splice_all _ _ (by rw [bts_len, bts_len, hYl, zeros_len]))
          have HYL := Lib.hid hYl
          have HSY := Lib.hid (hsY.keep ((Chg.refl [] wr).alloc (.cells (bts (zeros 64)).toArray 5)))
          have hsub : ((t : Int) + 2).toNat = t + 2 := by omega
          clear hY hYl hsY hcut1 hcut2 e1 e2
          go_wp2_with (with_reducible refine wpList_copy_chg rfl (.tmp 30) (.tmp 34) _ _ rfl 5 Tryz.underlying30 size_byte4 (some ⟨wr.heap.size, 0, none⟩) (some ⟨b0, o0 + (t + 2), none⟩) 64 64 (n - (t + 2)) (c - (t + 2)) rfl rfl wr.heap.size 0 5 (bts (zeros 64)) (bts Y) (Whole.new wr _ _) hYn.out (fun _ => rfl) HSY.out hYf.out (bts_one _) ?_
                       intro w3 hW3 hc3
                       rw [hYs.out] at hW3)
          have hpg := num2_lt (b.drop t)
          have HW3 := Lib.hid hW3
          have hcg := (Chg.refl [] wr).alloc (.cells (bts (zeros 64)).toArray 5)
          have hc3' : Chg [] wr w3 := hcg.then_ hc3 (fun i hm hlt => by simp only [List.mem_cons, List.not_mem_nil, or_false] at hm; omega)
          have HC3 := Lib.hid hc3'
          have hw3 := hc3'.size
          clear hW3 hc3 hcg hc3'
          go_wp2_with fail
          refine (dget_any (HCUT.out.keep HC3.out) (by omega)).mono ?_
          rintro e w4 ⟨rfl, hc4⟩
          have hown4 := rown_chg (rown_chg hown HC3.out (by simp)) hc4 (by simp)
          have HM4 := Lib.hid (show ∀ a ∈ ls, MadeCh w4 w.heap.size a from fun a ha => ((HM.out a ha).chg HC3.out (by simp)).chg hc4 (by simp))
          have hnew : MadeCh w4 w.heap.size ⟨(num2 (b.drop t) : Nat), some ⟨wr.heap.size, 0, none⟩, 64, 64, Y⟩ := ⟨⟨_, rfl, hwr, HW3.out.keep hc4⟩, HYL.out, rfl, rfl, by simp only; omega⟩
          have HNEW := Lib.hid hnew
          have HC4 := Lib.hid ((HC.out.new HC3.out).new hc4)
          have hw4 := hc4.size
          obtain ⟨X, hX⟩ : ∃ X, X = chCs ls := ⟨_, rfl⟩
          rw [← hX] at hown4
          have HX := Lib.hid hX
          obtain ⟨pg, hpgq⟩ : ∃ pg, pg = num2 (b.drop t) := ⟨_, rfl⟩
          rw [← hpgq]
          have HPG := Lib.hid hpgq
          clear hX hc4 hnew hpgq hown
          go_wp2_with (first
            | (at_builtin
               refine wpList_append_own _ rfl (.tmp 36) (.tmp 43) _ rfl w.heap.size 51 i0 _ 2 32 Tryz.underlying52 hi hz0 hz1 hz2 rfl (by decide) _ k X rfl (rown_chg hown4 ((Chg.refl [] w4).alloc _) (by simp)) ⟨w4.heap.size, 0, none⟩ 1 1 [.int .i64 (pg : Int), .slice (some ⟨wr.heap.size, 0, none⟩) 64 64] rfl rfl ?c1 ?c2 ?c3 ?c4 ?c5 ?_
               case c1 => exact cells_page _ _ _
               case c2 => simp [Value.oneCell']
               case c3 => simp only [maxLen]; omega
               case c4 => omega
               case c5 => simp; omega
               intro v' w6 hown' hg' _))
          have HAL6 := Lib.hid (rown_chg hown4 ((Chg.refl [] w4).alloc (.cells #[.int .i64 (pg : Int), .slice (some ⟨wr.heap.size, 0, none⟩) 64 64] 51)) (by simp))
          go_roundw
          case rel =>
            refine ⟨k + 1, t + 66, by omega, by go_num, Lib.hid (by have := HT.out; omega), ls ++ [⟨(num2 (b.drop t) : Nat), some ⟨wr.heap.size, 0, none⟩, 64, 64, Y⟩], ?_, ?_, ?_, ?_⟩
            · rw [chCs_app, chCs_one, ← HX.out, ← HPG.out]
              exact hown'
            · intro a ha
              rcases List.mem_append.1 ha with h | h
              · exact ((HM4.out a h).chg ((Chg.refl [] w4).alloc _) (by simp)).grown HAL6.out hg'
              · simp only [List.mem_cons, List.not_mem_nil, or_false] at h
                subst h
                exact (HNEW.out.chg ((Chg.refl [] w4).alloc _) (by simp)).grown HAL6.out hg'
            · rw [chsOf_next]
              refine asC_snoc HAS.out ?_ rfl
              unfold keyC chOf
              rw [HY.out, HT.out]
            · exact chg_grown2 (HC4.out.alloc _) hg' fun g hgg => (HAL6.out.lt g hgg).1
          case measure => simp [intOf]; omega
        · obtain rfl : N = k := by omega
          have htI : (n : Int) ≤ (t : Int) := by have := HT.out; have := H66.out; omega
          have HOWN := Lib.hid hown
          obtain ⟨A5, c5, rfl, hll, hch, hm5, hnc5, _⟩ := chs_own hown HM.out
          have HLL := Lib.hid hll
          have HCH := Lib.hid hch
          clear hll hch hown
          cases hr : rightB P (chsOf b N) with
          | true =>
            have HR := Lib.hid hr
            have hrr : rightB P ls = true := by rw [asC_rightB HAS.out P, hr]
            clear hr
            go_wp2_with fail
            refine (right_any HCH.out HLL.out hm5 P).mono ?_
            rintro e w7 ⟨rfl, hc7⟩
            rw [hrr]
            clear hrr
            go_wp2_with fail
            go_ret2
            refine .inl ⟨by have := HLN.out; omega, by have := HLN.out; have := H66.out; have := HN.out; omega, ?_, _, ls, rfl, ?_, fun a ha => ((HM.out a ha).rmade).chg hc7 (by simp), ?_, ?_, HC.out.new hc7⟩
            · rw [← HN.out]; exact HR.out
            · rw [← HN.out]; exact rown_chg HOWN.out hc7 (by simp)
            · rw [← HN.out]; exact HLL.out
            · rw [← HN.out]; exact HAS.out
          | false =>
            have HR := Lib.hid hr
            have hrr : rightB P ls = false := by rw [asC_rightB HAS.out P, hr]
            clear hr
            go_wp2_with fail
            refine (right_any HCH.out HLL.out hm5 P).mono ?_
            rintro e w7 ⟨rfl, hc7⟩
            rw [hrr]
            clear hrr
            go_wp2_with fail
            go_ret2
            refine .inr ⟨fun h => ?_, rfl, HC.out.new hc7⟩
            have := h.2.2
            rw [← HN.out, HR.out] at this
            cases this
    · have HNO := Lib.hid (show ¬ (2 ≤ b.length ∧ b.length = 2 + num2 b * 66 ∧ rightB P (chsOf b (num2 b)) = true) from fun h => by have := HLN.out; have := h.2.1; have := HN.out; omega)
      have hb1 : ((n : Int) == 2 + (N : Int) * 66) = false := by simp; omega
      have hb2 : (!((n : Int) == 2 + (N : Int) * 66)) = true := by rw [hb1]; rfl
      go_wp2_with fail
      go_ret2
      exact .inr ⟨HNO.out, rfl, HC1.out⟩
end
end Go.Proofs.YtddjgncdjdjgeaaGreat
