/-
  S: Rown, Heal2, Heal3, RefCrash, LawHealA, LawHealB, PlayS1, Dgm.
-/
import Derived.Test.YtddjgncdjdjgeaaGreatZS2
import Derived.Test.YtddjgncdjdjgeaaGreatZS6
import Derived.Test.YtddjgncdjdjgeaaGreatZS7
import Derived.Test.YtddjgncdjdjgeaaGreatZS8
import Derived.Test.YtddjgncdjdjgeaaGreatZS11
import Derived.Test.YtddjgncdjdjgeaaGreatZS13
import Derived.Test.YtddjgncdjdjgeaaGreatZS22
import Derived.Test.YtddjgncdjdjgeaaGreatZS24
import Derived.Test.YtddjgncdjdjgeaaGreatZS28
import Derived.Test.YtddjgncdjdjgeaaGreatZS31
import Derived.Test.YtddjgncdjdjgeaaGreatZS32
import Derived.Test.YtddjgncdjdjgeaaGreatZS33
import Derived.Test.YtddjgncdjdjgeaaGreatZS34
import Derived.Test.YtddjgncdjdjgeaaGreatZS36
import Derived.Deep.DeepCutAuto
namespace Go.Proofs.YtddjgncdjdjgeaaGreat
open Go.RowKit
section
variable {w w' : World} {B B2 n m k k2 : Nat} {e e2 : TypeId} {v v2 : Value} {xs ys : List Value}
theorem rown_grown (h : w.ownsRow B e k v n xs) (h2 : w.ownsRow B2 e2 k2 v2 m ys) (hne : e ≠ e2) (hg : w.grownBy w' v2.ownBlock) : w'.ownsRow B e k v n xs := by
  refine ⟨h.1, h.2.imp id ?_⟩
  rintro ⟨g, cap, cur, rfl, hb, hh, r⟩
  refine ⟨g, cap, cur, rfl, hb, ?_, r⟩
  rw [hg.block g ?_ ?_]
  · exact hh
  · rcases Nat.lt_or_ge g w.heap.size with hlt | hge
    · exact hlt
    · rw [Array.getElem?_eq_none hge] at hh; cases hh
  · intro hc
    rcases h2.2 with ⟨rfl, _⟩ | ⟨g2, cap2, cur2, rfl, hb2, hh2, _⟩
    · simp [Value.ownBlock] at hc
    · simp [Value.ownBlock] at hc
      subst hc
      rw [hh] at hh2
      simp at hh2
      exact hne hh2.2
end
end Go.Proofs.YtddjgncdjdjgeaaGreat
namespace Go.Proofs.YtddjgncdjdjgeaaGreat
open Go.RowKit
def keyD : Deed → Nat
  | none => 0
  | some x => x.1
/-- Deeds as cells hold them. -/
def ddL (l : List (Deed × Value)) : List Value := l.flatMap fun z => [.bool z.1.isNone, .int .i64 (keyD z.1 : Int), z.2]
def DdV (w : World) (B : Nat) : Deed → Value → Prop
  | none, u => u = .slice none 0 0
  | some x, u => w.ownsRow B 5 1 u x.2.length (bts x.2)
/-- A row of deeds of our own. -/
def DdRow (w : World) (B : Nat) (v : Value) (ds : List Deed) : Prop := ∃ zs : List (Deed × Value), zs.map Prod.fst = ds ∧ w.ownsRow B 119 3 v ds.length (ddL zs) ∧ ∀ z ∈ zs, DdV w B z.1 z.2
theorem ddL_app (a b : List (Deed × Value)) : ddL (a ++ b) = ddL a ++ ddL b := by simp [ddL]
theorem DdV.keep {w w' : World} {B : Nat} {d : Deed} {u : Value} (h : DdV w B d u) (hc : Chg [] w w') : DdV w' B d u := by
  cases d with
  | none => exact h
  | some x => exact own_keep h hc
theorem DdV.chg {T : List Nat} {w w' : World} {B : Nat} {d : Deed} {u : Value} (h : DdV w B d u) (hc : Chg T w w') (hT : ∀ i ∈ T, i < B ∨ w.heap.size ≤ i) : DdV w' B d u := by
  cases d with
  | none => exact h
  | some x => exact rown_chg h hc hT
theorem DdV.more {w : World} {B B' : Nat} {d : Deed} {u : Value} (h : DdV w B d u) (hB : B' ≤ B) : DdV w B' d u := by
  cases d with
  | none => exact h
  | some x => exact own_more h hB
theorem DdRow.keep {w w' : World} {B : Nat} {v : Value} {ds : List Deed} (h : DdRow w B v ds) (hc : Chg [] w w') : DdRow w' B v ds := by
  obtain ⟨zs, h1, h2, h3⟩ := h
  exact ⟨zs, h1, rown_chg h2 hc (fun i hi => by cases hi), fun z hz => (h3 z hz).keep hc⟩
theorem DdRow.chg {T : List Nat} {w w' : World} {B : Nat} {v : Value} {ds : List Deed} (h : DdRow w B v ds) (hc : Chg T w w') (hT : ∀ i ∈ T, i < B ∨ w.heap.size ≤ i) : DdRow w' B v ds := by
  obtain ⟨zs, h1, h2, h3⟩ := h
  exact ⟨zs, h1, rown_chg h2 hc hT, fun z hz => (h3 z hz).chg hc hT⟩
/-- A deed more. -/
theorem DdRow.snoc {w w' : World} {B : Nat} {v v' : Value} {zs : List (Deed × Value)} {d : Deed} {u : Value} (h2 : w.ownsRow B 119 3 v zs.length (ddL zs)) (h3 : ∀ z ∈ zs, DdV w B z.1 z.2) (hu : DdV w B d u) (ho : w'.ownsRow B 119 3 v' (zs.length + 1) (ddL zs ++ [.bool d.isNone, .int .i64 (keyD d : Int), u])) (hg : w.grownBy w' v.ownBlock) : DdRow w' B v' (zs.map Prod.fst ++ [d]) := by
  have key : ∀ (d : Deed) (u : Value), DdV w B d u → DdV w' B d u := fun d u h => by
    cases d with
    | none => exact h
    | some x => exact rown_grown h h2 (by decide) hg
  refine ⟨zs ++ [(d, u)], by simp, ?_, fun z hz => ?_⟩
  · rw [List.length_append, List.length_map, List.length_singleton, ddL_app]
    exact ho
  · rcases List.mem_append.1 hz with hz | hz
    · exact key _ _ (h3 z hz)
    · simp only [List.mem_singleton] at hz
      subst hz
      exact key _ _ hu
end Go.Proofs.YtddjgncdjdjgeaaGreat
namespace Go.Proofs.YtddjgncdjdjgeaaGreat
open Go.RowKit
theorem DdV.slice {w : World} {B : Nat} {d : Deed} {u : Value} (h : DdV w B d u) : ∃ A n c, u = .slice A n c := by
  cases d with
  | none => exact ⟨none, 0, 0, h⟩
  | some x =>
    obtain ⟨A, c, e, _⟩ := own_slice h
    exact ⟨A, _, c, e⟩
end Go.Proofs.YtddjgncdjdjgeaaGreat
namespace Go.Proofs.YtddjgncdjdjgeaaGreat
open Go.RowKit

/-- The lasting bytes behind the first i of the sectors ws. -/
def rcL (s : St) (ws : List Nat) (cuts : List Int) : Nat → List UInt8
  | 0 => s.L
  | i + 1 => splice (rcL s ws cuts i) (ws.getD i 0 * 64) ((s.S.drop (ws.getD i 0 * 64)).take (cutAt cuts i))
theorem rcL_len {s : St} {n : Nat} (hl : s.L.length = 64 * n) (hs : s.S.length = 64 * n) (ws : List Nat) (cuts : List Int) (hws : ∀ j (hj : j < ws.length), ws[j] < n) : ∀ i, i ≤ ws.length → (rcL s ws cuts i).length = 64 * n
  | 0, _ => hl
  | i + 1, hi => by
    have ih := rcL_len hl hs ws cuts hws i (by omega)
    have e : ws.getD i 0 = ws[i] := by rw [List.getD_eq_getElem?_getD, List.getElem?_eq_getElem (by omega)]; rfl
    have hlt := hws i (by omega)
    have hc := cutAt_le cuts i
    show (splice (rcL s ws cuts i) (ws.getD i 0 * 64) _).length = _
    rw [e, length_splice, ih]
    rw [List.length_take, List.length_drop]; omega

/-- A sector that has not been met is seen as it was. -/
theorem crash_far {s : St} {n : Nat} (h : Sane s n) (ws : List Nat) (cuts : List Int) (hws : ∀ j (hj : j < ws.length), ws[j] < n) (k : Nat) (hk : k < n) : ∀ i, i ≤ ws.length → k ∉ ws.take i → ∀ t, t < 64 → (s.crash ws cuts i).S[k * 64 + t]? = s.S[k * 64 + t]?
  | 0, _, _, _, _ => rfl
  | i + 1, hi, hn, t, ht => by
    have e : ws.getD i 0 = ws[i] := by rw [List.getD_eq_getElem?_getD, List.getElem?_eq_getElem (by omega)]; rfl
    have hm : k ∉ ws.take i ∧ k ≠ ws[i] := by
      rw [List.take_succ_eq_append_getElem (by omega), List.mem_append, List.mem_singleton] at hn
      exact ⟨fun h => hn (.inl h), fun h => hn (.inr h)⟩
    have ih := crash_far h ws cuts hws k hk i (by omega) hm.1 t ht
    have hsane := h.crash ws cuts hws i (by omega)
    have hlt := hws i (by omega)
    show (setS (s.crash ws cuts i).L (s.crash ws cuts i).S (ws.getD i 0) (cutAt cuts i))[k * 64 + t]? = _
    rw [e, setS_get (by rw [hsane.ll]; omega) (by rw [hsane.ls]; omega) (cutAt_le _ _), if_neg (by have := hm.2; omega), ih]

theorem rcL_eq {s : St} {n : Nat} (h : Sane s n) (ws : List Nat) (cuts : List Int) (hws : ∀ j (hj : j < ws.length), ws[j] < n) (hnd : ws.Pairwise (· < ·)) : ∀ i, i ≤ ws.length → rcL s ws cuts i = (s.crash ws cuts i).L
  | 0, _ => rfl
  | i + 1, hi => by
    have ih := rcL_eq h ws cuts hws hnd i (by omega)
    have e : ws.getD i 0 = ws[i] := by rw [List.getD_eq_getElem?_getD, List.getElem?_eq_getElem (by omega)]; rfl
    have hlt := hws i (by omega)
    have hc := cutAt_le cuts i
    have hnot : ws[i] ∉ ws.take i := by
      intro hm
      obtain ⟨j, hj, he⟩ := List.getElem_of_mem hm
      rw [List.getElem_take] at he
      have hji : j < i := by rw [List.length_take] at hj; omega
      have := List.pairwise_iff_getElem.1 hnd j i (by omega) (by omega) hji
      omega
    show splice (rcL s ws cuts i) (ws.getD i 0 * 64) ((s.S.drop (ws.getD i 0 * 64)).take (cutAt cuts i)) = setL (s.crash ws cuts i).L (s.crash ws cuts i).S (ws.getD i 0) (cutAt cuts i)
    rw [e, ih]
    unfold setL
    congr 1
    apply List.ext_getElem?
    intro t
    rw [cut_get, cut_get]
    by_cases ht : t < cutAt cuts i
    · rw [if_pos ht, if_pos ht]
      exact (crash_far h ws cuts hws ws[i] hlt i (by omega) hnot t (by omega)).symm
    · rw [if_neg ht, if_neg ht]
theorem wl_rises (V : List Bool) (n : Nat) : (wl V n).Pairwise (· < ·) := List.Pairwise.filter _ List.pairwise_lt_range

section
variable {w w' : World} {p gL gN gW : Nat} {rL rN : List Value} {m : Int} {s : St}
set_option maxHeartbeats 3000000 in
set_option maxRecDepth 100000 in
theorem rcrash_any (h : Rfd w p gL gN gW rL rN m s) {A : Option Addr} {n c : Nat} {cuts : List Int} (hl : cuts.length = n) (hs : Src w A (nms cuts)) (hp : 0 < cuts.length → ∀ ad, A = some ad → ad.spot = none) (hA : 0 < cuts.length → ∀ ad, A = some ad → ad.block ∉ [p, gL, gN]) :
    Calls Tryz.prog 14 #[.pointer (some ⟨p, 0, none⟩), .slice A n c] w fun e w' => ∃ gW', e = .returned (.int .i64 ((wl s.V s.V.length).length : Int)) ∧
      Rfd w' p gL gN gW' rL rN m ⟨rcL s (wl s.V s.V.length) cuts (wl s.V s.V.length).length, rcL s (wl s.V s.V.length) cuts (wl s.V s.V.length).length, falses s.V.length⟩ ∧ w.heap.size ≤ gW' ∧ Chg [p, gL, gN] w w' := by
  have hmk := make_bool s.V.length (by have := h.le; omega)
  obtain ⟨ws, hws⟩ : ∃ ws, ws = wl s.V s.V.length := ⟨_, rfl⟩
  have hlen : ws.length ≤ 160 := by have := wl_le s.V s.V.length; have := h.le; rw [hws]; omega
  have hlt : ∀ i (hi : i < ws.length), ws[i] < s.V.length := by subst hws; exact fun i hi => wl_lt s.V s.V.length i hi
  have hb : gL < w.heap.size ∧ gN < w.heap.size ∧ gW < w.heap.size ∧ p < w.heap.size := ⟨h.last.lt, h.now.lt, h.wait.lt, h.rec_.lt⟩
  have HW := Lib.hid (rwaits_any h)
  rw [← hws] at HW
  rw [← hws]
  have HL := Lib.hid hl
  have Hlt := Lib.hid hlt
  have HcL := Lib.hid (rcL_len h.lenL h.lenS ws cuts hlt)
  have hLS : s.L.length = s.S.length := by rw [h.lenL, h.lenS]
  have HLS := Lib.hid hLS
  have HlL := Lib.hid h.lenL
  clear hws hl hlt hLS
  go_enter Tryz.func14, Tryz.ntmps14
  go_wp2_with (go_at_call 44; refine (HW.out).mono ?_; rintro e w1 ⟨A1, c1, rfl, hs1, hA1, hc1⟩)
  have h1 := h.keep hc1
  have hs2 : Src w1 A (nms cuts) := hs.keep hc1
  have hA1' : ∀ ad, A1 = some ad → ad.block ∉ [gL] := fun ad e => by
    have := (hA1 ad e).2
    simp
    omega
  have HA := Lib.hid (show 0 < (nms cuts).length → ∀ ad, A = some ad → ad.block ∉ [gL] from fun h0 ad e => by
    have := hA (by simpa [nms] using h0) ad e
    simp at this ⊢
    exact this.2.1)
  have HA1 := Lib.hid hA1'
  have Hp := Lib.hid hp
  have Hp1 := Lib.hid hA1
  have m1 := Lib.hid (show p ∉ [gL] by simpa using h.rec_.ne_ h.last (by decide))
  have m2 := Lib.hid (show gN ∉ [gL] by simpa using fun e => h.ne e.symm)
  have z1 := hc1.size
  clear hA hA1 hA1' hp
  go_loopw [13] (fun i wr => ∃ k : Nat, k ≤ ws.length ∧ i = .int .i64 (k : Int) ∧ Whole wr gL 5 (bts (rcL s ws cuts k) ++ rL) ∧ Chg [gL] w1 wr) (fun i _ => ws.length - (intOf i).toNat)
  case atStart => exact ⟨0, Nat.zero_le _, rfl, h1.last, Chg.refl _ _⟩
  case round =>
    obtain ⟨k, hk, rfl, hLk, hck⟩ := hrel
    have Rk := h1.rec_.chg hck m1.out
    have Nk := h1.now.chg hck m2.out
    have c0 : wr.cell? ⟨p, 0, none⟩ = some (.slice (some ⟨gL, 0, none⟩) s.L.length (s.L.length + rL.length)) := Rk.cell 0
    have c1' : wr.cell? ⟨p, 1, none⟩ = some (.slice (some ⟨gN, 0, none⟩) s.S.length (s.S.length + rN.length)) := Rk.cell 1
    by_cases hkl : k < ws.length
    · have hs3 := hs1.chg hck (fun _ => HA1.out)
      obtain ⟨ad, rfl, _, hx⟩ := hs3 (by rw [nmsN_len]; omega)
      have hx1 := hx k _ (nmsN_get ws k hkl)
      clear hx
      obtain ⟨b1, o1, s1⟩ := ad
      obtain rfl : s1 = none := (Hp1.out _ rfl).1
      rw [add_plain] at hx1
      have hlt2 := Hlt.out k hkl
      have HE := Lib.hid (show rcL s ws cuts (k + 1) = splice (rcL s ws cuts k) (ws[k] * 64) ((s.S.drop (ws[k] * 64)).take (cutAt cuts k)) by
        show splice (rcL s ws cuts k) (ws.getD k 0 * 64) ((s.S.drop (ws.getD k 0 * 64)).take (cutAt cuts k)) = _
        rw [List.getD_eq_getElem?_getD, List.getElem?_eq_getElem hkl]; rfl)
      have HlK := Lib.hid (HcL.out k hk)
      obtain ⟨X2, hX2⟩ : ∃ X2, X2 = rcL s ws cuts (k + 1) := ⟨_, rfl⟩
      rw [← hX2] at HE
      have hX2 := Lib.hid hX2
      generalize rcL s ws cuts k = X0 at HE HlK hLk
      generalize ws[k] = q at hx1 hlt2 HE
      have hcc := cutAt_le cuts k
      have q1 : q * 64 + 64 ≤ s.L.length := by have := HlL.out; omega
      have q2 : q * 64 + 64 ≤ s.S.length := by have := HlL.out; have := HLS.out; omega
      have q3 : q ≤ 160 := by have := h.le; omega
      obtain ⟨cN, hcN⟩ : ∃ cN, cN = cutAt cuts k := ⟨_, rfl⟩
      rw [← hcN] at HE hcc
      have HCN := Lib.hid hcN
      clear hcN
      go_upto_if 21 with fail
      go_cut [8] (fun s8 wx => s8 = .int .i64 (cN : Int) ∧ wr = wx)
      case first =>
        by_cases hkc : k < cuts.length
        · have hs4 := hs2.chg hck HA.out
          obtain ⟨ad2, rfl, _, hy⟩ := hs4 (by simp [nms]; omega)
          have hy1 := hy k (.int .i64 cuts[k]) (by simp [nms, hkc])
          clear hy
          obtain ⟨b2, o2, s2'⟩ := ad2
          obtain rfl : s2' = none := Hp.out (by omega) _ rfl
          rw [add_plain] at hy1
          have hz : max (min cuts[k] 64) 0 = (cN : Int) := by rw [HCN.out]; unfold cutAt; rw [dif_pos hkc]; omega
          generalize cuts[k] = z at hy1 hz
          have hkn : k < n := by have := HL.out; omega
          clear hkc
          go_wp2_with fail
          go_meet
          exact ⟨rfl, rfl⟩
        · have hz := Lib.hid (show (cN : Int) = 0 by rw [HCN.out]; unfold cutAt; rw [dif_neg hkc]; rfl)
          have hkn : n ≤ k := by have := HL.out; omega
          clear hkc
          go_wp2_with fail
          go_meet
          exact ⟨by rw [hz.out], rfl⟩
      case rest =>
        obtain ⟨rfl, rfl⟩ := hcut
        have g1 : q * 64 + cN ≤ s.L.length + rL.length := by omega
        have g2 : q * 64 ≤ s.S.length := by omega
        have g3 : ¬ (s.L.length + rL.length = q * 64) := by omega
        have g4 : ¬ (s.S.length + rN.length = q * 64) := by omega
        have Hn := Lib.hid (show (bts ((s.S.drop (q * 64)).take cN)).length = Nat.min (s.S.length - q * 64) cN by
          rw [bts_len, List.length_take, List.length_drop, show Nat.min (s.S.length - q * 64) cN = min (s.S.length - q * 64) cN from rfl]; omega)
        have hfit : q * 64 + (bts ((s.S.drop (q * 64)).take cN)).length ≤ (bts X0 ++ rL).length := by
          have := HlK.out; have := HlL.out
          rw [List.length_append, bts_len, bts_len, List.length_take, List.length_drop]; omega
        have hsr : Src wr (some ⟨gN, q * 64, none⟩) (bts ((s.S.drop (q * 64)).take cN)) := by
          have := Src.of_whole Nk (q * 64) cN
          rwa [List.drop_append_of_le_length (by rw [bts_len]; omega), List.take_append_of_le_length (by rw [List.length_drop, bts_len]; omega), bts_cut] at this
        have bb := bts_one ((s.S.drop (q * 64)).take cN)
        have HX := Lib.hid (show splice (bts X0 ++ rL) (q * 64) (bts ((s.S.drop (q * 64)).take cN)) = bts X2 ++ rL by
          rw [HE.out, ← bts_splice, splice_app]
          have := HlK.out; have := HlL.out
          rw [bts_len, bts_len, List.length_take, List.length_drop]; omega)
        generalize bts ((s.S.drop (q * 64)).take cN) = Y at Hn hfit hsr bb HX
        have w0 : (0 : Int) ≤ (q : Int) * 64 := by omega
        have w5 : (0 : Int) ≤ (q : Int) * 64 + (cN : Int) := by omega
        have w6 : (q : Int) * 64 + (cN : Int) ≤ (s.L.length : Int) + (rL.length : Int) := by omega
        have w7 : (q : Int) * 64 ≤ (q : Int) * 64 + (cN : Int) := by omega
        have w8 : (q : Int) * 64 ≤ (s.S.length : Int) := by omega
        have wq1 : IntKind.i64.wrap ((q : Int) * 64) = (q : Int) * 64 := IntWalk.i64_in _ (by omega)
        have wq2 : IntKind.i64.wrap ((q : Int) * 64 + (cN : Int)) = (q : Int) * 64 + (cN : Int) := IntWalk.i64_in _ (by omega)
        have wq3 : ((q : Int) * 64).toNat = q * 64 := by omega
        have wq4 : ((q : Int) * 64 + (cN : Int)).toNat = q * 64 + cN := by omega
        have wq5 : max ((q : Int) * 64 + (cN : Int)) 0 = (q : Int) * 64 + (cN : Int) := by omega
        go_wp2_with fail
        go_region_law (with_reducible refine step_copy_chg rfl (.tmp 38) (.tmp 45) _ _ rfl 5 Tryz.underlying30 size_u8 (some ⟨gL, q * 64, none⟩) (some ⟨gN, q * 64, none⟩) cN (s.L.length + rL.length - q * 64) (s.S.length - q * 64) (s.S.length + rN.length - q * 64) rfl rfl gL (q * 64) 5 (bts X0 ++ rL) Y hLk.drew Hn.out (fun _ => rfl) hsr.drew hfit bb ?_; intro w2 HG HC)
        all_goals
          clear wq1 wq2 wq3 wq4 wq5
          rw [HX.out] at HG
          go_wp2_with fail
          go_roundw
          case rel => exact ⟨k + 1, by omega, by go_num, (hX2.out ▸ HG), hck.drew.trans HC⟩
          case measure => simp [intOf]; omega
    · have hkl2 : k = ws.length := by omega
      have hLe : Whole wr gL 5 (bts (rcL s ws cuts ws.length) ++ rL) := hkl2 ▸ hLk
      have HlX := Lib.hid (HcL.out ws.length (Nat.le_refl _))
      clear hkl2 hLk
      obtain ⟨X, hXe⟩ : ∃ X, X = rcL s ws cuts ws.length := ⟨_, rfl⟩
      rw [← hXe] at hLe HlX
      have HXe := Lib.hid hXe
      clear hXe
      have Hn := Lib.hid (show (bts X).length = Nat.min s.L.length s.S.length by
        rw [bts_len, HlX.out, HlL.out, ← HLS.out, HlL.out]; exact (Nat.min_self _).symm)
      have hfit : 0 + (bts X).length ≤ (bts s.S ++ rN).length := by
        have a1 := HlX.out; have a2 := HlL.out; have a3 := HLS.out
        rw [List.length_append, bts_len, bts_len]; omega
      have HX := Lib.hid (show splice (bts s.S ++ rN) 0 (bts X) = bts X ++ rN by
        have a1 := HlX.out; have a2 := HlL.out; have a3 := HLS.out
        rw [splice_app _ _ _ _ (by rw [bts_len, bts_len]; omega), bts_splice, splice_all _ _ (by omega)])
      have hsr : Src wr (some ⟨gL, 0, none⟩) (bts X) := by
        have := Src.of_whole hLe 0 X.length
        rwa [List.drop_zero, List.take_append_of_le_length (by rw [bts_len]; omega), List.take_of_length_le (by rw [bts_len]; omega)] at this
      have bb := bts_one X
      have n1 := Lib.hid (show p ∉ [gN] by simpa using h.rec_.ne_ h.now (by decide))
      have n2 := Lib.hid (show gL ∉ [gN] by simpa using h.ne)
      obtain ⟨Y, hY⟩ : ∃ Y, Y = bts X := ⟨_, rfl⟩
      have HY := Lib.hid hY
      rw [← hY] at Hn hfit HX hsr bb
      clear hY
      go_wp2_with fail
      go_region_law (with_reducible refine step_copy_chg rfl (.tmp 51) (.tmp 55) _ _ rfl 5 Tryz.underlying30 size_u8 (some ⟨gN, 0, none⟩) (some ⟨gL, 0, none⟩) s.S.length (s.S.length + rN.length) s.L.length (s.L.length + rL.length) rfl rfl gN 0 5 (bts s.S ++ rN) Y Nk.drew Hn.out (fun _ => rfl) hsr.drew hfit bb ?_; intro w2 HG HC)
      all_goals
        have R2 := Rk.drew.chg HC n1.out
        have L2 := hLe.drew.chg HC n2.out
        clear c0 c1'
        have c2 : w2.cell? ⟨p, 2, none⟩ = some (.slice (some ⟨gW, 0, none⟩) s.V.length s.V.length) := R2.cell 2
        have c2' : ∀ o, (w2.alloc o).cell? ⟨p, 2, none⟩ = some (.slice (some ⟨gW, 0, none⟩) s.V.length s.V.length) := fun o => (R2.keep ((Chg.refl [] w2).alloc o)).cell 2
        have f2' := fun o => (R2.keep ((Chg.refl [] w2).alloc o)).frozen 2
        rw [HX.out, HY.out] at HG
        go_wp2_with fail
        go_ret
        have hal : ∀ o, Chg [] w2 (w2.alloc o) := fun o => (Chg.refl [] w2).alloc o
        have z2 := HC.size
        have z3 : wr.drew.heap.size = wr.heap.size := rfl
        have z4 := hck.size
        have lp := R2.lt
        have lX : X.length = s.L.length := by rw [HlX.out, HlL.out]
        have lX2 : X.length = s.S.length := by rw [lX, HLS.out]
        rw [← HXe.out]
        refine ⟨w2.heap.size, rfl, ⟨?_, (L2.keep (hal _)).far (p := ⟨p, 2, none⟩) (L2.ne_ R2 (by decide)) _, (HG.keep (hal _)).far (p := ⟨p, 2, none⟩) (HG.ne_ R2 (by decide)) _, (Whole.new w2 _ _).far (p := ⟨p, 2, none⟩) (show w2.heap.size ≠ p by omega) _, by simp only [falses_len]; exact HlX.out, by simp only [falses_len]; exact HlX.out, by simp only [falses_len]; exact h.le, h.ne⟩, by omega, ?_⟩
        · have := (R2.keep (hal (.cells (bls (falses s.V.length)).toArray 4))).set_ 2 (.slice (some ⟨w2.heap.size, 0, none⟩) s.V.length s.V.length)
          simp only [falses_len]
          rw [← lX2] at this
          rw [← show X.length = s.L.length from lX] at this
          exact this
        · have a1 : Chg [p, gL, gN] w wr := (hc1.sub (by simp)).trans (hck.sub (by simp))
          have a2 : Chg [p, gL, gN] w w2 := a1.drew.trans (HC.sub (by simp))
          exact (a2.alloc _).setCell (by simp) _
end
end Go.Proofs.YtddjgncdjdjgeaaGreat
namespace Go.Proofs.YtddjgncdjdjgeaaGreat
open Go.RowKit
section
variable {w : World}
/-- What pair makes of an image. -/
def PairPost (w : World) (n : Nat) (l : List UInt8) (e : Ending) (w' : World) : Prop := ∃ p bL bS bW q gL gN gW rL rN m, e = .returned (.tuple #[.pointer (some ⟨p, 0, none⟩), .pointer (some ⟨q, 0, none⟩)]) ∧ DskS w' p bL bS bW ⟨l, l, falses n⟩ ∧ Rfd w' q gL gN gW rL rN m ⟨l, l, falses n⟩ ∧
  (∀ i ∈ [p, bL, bS, bW, q, gL, gN, gW], w.heap.size ≤ i) ∧ (∀ i ∈ [p, bL, bS, bW], i ∉ [q, gL, gN, gW]) ∧ Chg [] w w'
end
end Go.Proofs.YtddjgncdjdjgeaaGreat
namespace Go.Proofs.YtddjgncdjdjgeaaGreat
open Go.RowKit
/-- Behind a Flush. -/
theorem RSto.flushed {w w' : World} {k : RK} {gW gW' : Nat} {rL rN : List Value} {s : St} {m m' : Int} {x : SV} {us rP : List Value} (h : RSto w k gW rL rN ⟨s, -1, m⟩ x us rP) (hd : Rfd w' k.q k.gL k.gN gW' rL rN m' (flA s)) (hg : gW' = gW ∨ w.heap.size ≤ gW') (hc : Chg [k.q, k.gL] w w') : RSto w' k gW' rL rN ⟨flA s, -1, m'⟩ x us rP := by
  have key : ∀ (b t : Nat) (cs : List Value), Whole w b t cs → t ≠ 71 → t ≠ 5 → b ∉ [k.q, k.gL] := fun b t cs hW h1 h2 hm => by
    simp only [List.mem_cons, List.not_mem_nil, or_false] at hm
    rcases hm with e | e
    · exact hW.ne_ (Rfx.rec_ h.dsk) h1 e
    · exact hW.ne_ (Rfx.last h.dsk) h2 e
  have hng : k.gM ≠ gW' := by
    have h1 := h.nm.lt
    have h2 := h.ng
    rcases hg with hg | hg
    · rw [hg]; exact h2
    · omega
  have hrt : rightR x.L x.P x.E (flA s).V.length = true := by rw [flA_len]; exact h.rt
  exact { dsk := hd, rec_ := h.rec_.chg hc (key _ _ _ h.rec_ (by decide) (by decide)), pg := h.pg.chg hc (key _ _ _ h.pg (by decide) (by decide)), els := (h.els.chg hc (by simp [RK.D])).swap (h.els.lt h.p64) hg, nm := h.nm.chg hc (key _ _ _ h.nm (by decide) (by decide)), ng := hng, rt := hrt, ep := h.ep, pl := h.pl, nl := h.nl, p64 := h.p64, us_ := h.us_, sq := h.sq, exl := fun i hi => Nat.lt_of_lt_of_le (h.exl i hi) hc.size }
/-- A tape is no block of a store. -/
theorem RSto.tape {w : World} {k : RK} {gW : Nat} {rL rN : List Value} {d : Dg} {x : SV} {us rP : List Value} (h : RSto w k gW rL rN d x us rP) {pt : Nat} {cs : List Value} (ht : Whole w pt 63 cs) : ∀ i ∈ [k.q, k.gL, k.gN, gW, k.g, k.gP, k.gM], i ≠ pt := by
  intro i hi
  simp only [List.mem_cons, List.not_mem_nil, or_false] at hi
  rcases hi with rfl | rfl | rfl | rfl | rfl | rfl | rfl
  · exact (Rfx.rec_ h.dsk).ne_ ht (by decide)
  · exact (Rfx.last h.dsk).ne_ ht (by decide)
  · exact (Rfx.now h.dsk).ne_ ht (by decide)
  · exact (Rfx.wait h.dsk).ne_ ht (by decide)
  · exact h.rec_.ne_ ht (by decide)
  · exact h.pg.ne_ ht (by decide)
  · exact h.nm.ne_ ht (by decide)
end Go.Proofs.YtddjgncdjdjgeaaGreat
namespace Go.Proofs.YtddjgncdjdjgeaaGreat
open Go.RowKit
/-- Blocks of others are written, and there are more of them. -/
theorem Sto.adds {w w' : World} {p bL bS bW g gN : Nat} {ex : List Nat} {s : St} {x : SV} {vP : Value} (h : Sto w ⟨p, bL, bS, bW, g, gN, ex⟩ s x vP) {T N : List Nat} (hc : Chg T w w') (hT : ∀ i ∈ T, i ∈ ex) (hn : ∀ i ∈ [p, bL, bS, bW, g, gN], i ∉ T) (hN : ∀ i ∈ N, w.heap.size ≤ i ∧ i < w'.heap.size) : Sto w' ⟨p, bL, bS, bW, g, gN, N ++ ex⟩ s x vP := by
  have h64 := h.p64
  have hpl := h.pl
  have h1 := rightR_true.1 h.rt
  have hk := h.pasts hc hT hn
  obtain ⟨A, c, us, e, hc1, hs, hu, hA, hR⟩ := h.pgs
  have hTD : ∀ i ∈ T, i ∈ SK.D ⟨p, bL, bS, bW, g, gN, ex⟩ := fun i hi => by simp [SK.D, hT i hi]
  have hin : ∀ i, i ∈ SK.D ⟨p, bL, bS, bW, g, gN, N ++ ex⟩ → i ∈ N ∨ i ∈ SK.D ⟨p, bL, bS, bW, g, gN, ex⟩ := fun i hi => by
    simp only [SK.D, List.mem_cons, List.mem_append] at hi ⊢
    rcases hi with h | h | h | h | h | h | h | h <;> simp [h]
  refine { dsk := hk.dsk, rec_ := hk.rec_, pgs := ?_, nm := hk.nm, ng := hk.ng, rt := hk.rt, ep := hk.ep, pl := hk.pl, nl := hk.nl, p64 := hk.p64, us := hk.us, sq := hk.sq, exl := fun i hi => ?_ }
  · refine ⟨A, c, us, e, hc1, src_aw hs hc (fun ad e hm => (hA ad e).2 (hTD _ hm)), hu, fun ad ha => ⟨(hA ad ha).1, fun hm => ?_⟩, fun i u l hu' hl => ?_⟩
    · rcases hin _ hm with hm | hm
      · obtain ⟨ad', ea, hb, _⟩ := hs (by omega)
        rw [ha] at ea
        injection ea with ea
        subst ea
        have := (hN _ hm).1
        omega
      · exact (hA ad ha).2 hm
    · obtain ⟨A', n', c', eu, hB, hD⟩ := hR i u l hu' hl
      refine ⟨A', n', c', eu, bs_aw hB hc (fun ad e hm => hD ad e (hTD _ hm)), fun ad ha hm => ?_⟩
      rcases hin _ hm with hm | hm
      · obtain ⟨ad', ea, hb, _⟩ := hB.src (by rw [bts_len, h64 l (List.mem_of_getElem? hl)]; omega)
        rw [ha] at ea
        injection ea with ea
        subst ea
        have := (hN _ hm).1
        omega
      · exact hD ad ha hm
  · rcases List.mem_append.1 hi with hi | hi
    · exact (hN i hi).2
    · exact hk.exl i hi
theorem RSto.pasts {w w' : World} {k : RK} {gW : Nat} {rL rN : List Value} {d : Dg} {x : SV} {us rP : List Value} (h : RSto w k gW rL rN d x us rP) {T : List Nat} (hc : Chg T w w') (hT : ∀ i ∈ T, i ∈ k.ex) (hn : ∀ i ∈ [k.q, k.gL, k.gN, gW, k.g, k.gP, k.gM], i ∉ T) : RSto w' k gW rL rN d x us rP :=
  { h with dsk := Rfx.away h.dsk hc (hn _ (by simp)) (hn _ (by simp)) (hn _ (by simp)) (hn _ (by simp)), rec_ := h.rec_.chg hc (hn _ (by simp)), pg := h.pg.chg hc (hn _ (by simp)), els := h.els.chg hc (fun i hi => by simp [RK.D, hT i hi]), nm := h.nm.chg hc (hn _ (by simp)), exl := fun i hi => Nat.lt_of_lt_of_le (h.exl i hi) hc.size }
/-- The disks' blocks, the stores'. -/
structure SD where
  p : Nat
  bL : Nat
  bS : Nat
  bW : Nat
  q : Nat
  gL : Nat
  gN : Nat
  pts : List Nat
def SD.d1 (D : SD) (g h : Nat) : List Nat := [D.p, D.bL, D.bS, D.bW, g, h]
def SD.d2 (D : SD) (gW gr gP gM : Nat) : List Nat := [D.q, D.gL, D.gN, gW, gr, gP, gM]
/-- A store beside the reference's, alike and apart. -/
structure PS (w0 w : World) (D : SD) (rL rN : List Value) (g h : Nat) (ex1 : List Nat) (gW gr gP gM : Nat) (ex2 : List Nat) (s : St) (x : SV) (v : Value) (m : Int) (us rP : List Value) : Prop where
  st : Sto w ⟨D.p, D.bL, D.bS, D.bW, g, h, ex1⟩ s x v
  rs : RSto w ⟨D.q, D.gL, D.gN, gr, gP, gM, ex2⟩ gW rL rN ⟨s, -1, m⟩ x us rP
  sa : Sa s
  a1 : ∀ i ∈ D.d2 gW gr gP gM, i ∈ ex1
  a2 : ∀ i ∈ D.d1 g h, i ∈ ex2
  ap : ∀ i ∈ D.d1 g h, i ∉ D.d2 gW gr gP gM
  t1 : ∀ i ∈ D.pts, i ∈ ex1
  t2 : ∀ i ∈ D.pts, i ∈ ex2
  f1 : ∀ i ∈ D.d1 g h, w0.heap.size ≤ i ∧ i ∉ D.pts
  f2 : ∀ i ∈ D.d2 gW gr gP gM, w0.heap.size ≤ i ∧ i ∉ D.pts
  e1 : ∀ i ∈ ex1, w0.heap.size ≤ i
  e2 : ∀ i ∈ ex2, w0.heap.size ≤ i
section
variable {w0 w w' : World} {D : SD} {rL rN : List Value} {g h : Nat} {ex1 : List Nat} {gW gr gP gM : Nat} {ex2 : List Nat} {s : St} {x : SV} {v : Value} {m : Int} {us rP : List Value}
theorem PS.keep (P : PS w0 w D rL rN g h ex1 gW gr gP gM ex2 s x v m us rP) (hc : Chg [] w w') : PS w0 w' D rL rN g h ex1 gW gr gP gM ex2 s x v m us rP := { P with st := P.st.keep hc, rs := P.rs.keep hc }
/-- The tape is read. -/
theorem PS.tape (P : PS w0 w D rL rN g h ex1 gW gr gP gM ex2 s x v m us rP) {pt : Nat} (hp : pt ∈ D.pts) (hc : Chg [pt] w w') : PS w0 w' D rL rN g h ex1 gW gr gP gM ex2 s x v m us rP :=
  { P with st := P.st.pasts hc (fun i hi => by simp only [List.mem_singleton] at hi; subst hi; exact P.t1 _ hp) (fun i hi hm => by simp only [List.mem_singleton] at hm; subst hm; exact (P.f1 _ hi).2 hp), rs := P.rs.pasts hc (fun i hi => by simp only [List.mem_singleton] at hi; subst hi; exact P.t2 _ hp) (fun i hi hm => by simp only [List.mem_singleton] at hm; subst hm; exact (P.f2 _ hi).2 hp) }
/-- Between: the program's store has gone on, the reference's has not. -/
structure PH (w0 w : World) (D : SD) (rL rN : List Value) (g h : Nat) (ex1 : List Nat) (gW gr gP gM : Nat) (ex2 : List Nat) (s s' : St) (x x' : SV) (v : Value) (m : Int) (us rP : List Value) : Prop where
  st : Sto w ⟨D.p, D.bL, D.bS, D.bW, g, h, ex1⟩ s' x' v
  rs : RSto w ⟨D.q, D.gL, D.gN, gr, gP, gM, ex2⟩ gW rL rN ⟨s, -1, m⟩ x us rP
  a1 : ∀ i ∈ D.d2 gW gr gP gM, i ∈ ex1
  a2 : ∀ i ∈ D.d1 g h, i ∈ ex2
  ap : ∀ i ∈ D.d1 g h, i ∉ D.d2 gW gr gP gM
  t1 : ∀ i ∈ D.pts, i ∈ ex1
  t2 : ∀ i ∈ D.pts, i ∈ ex2
  f1 : ∀ i ∈ D.d1 g h, w0.heap.size ≤ i ∧ i ∉ D.pts
  f2 : ∀ i ∈ D.d2 gW gr gP gM, w0.heap.size ≤ i ∧ i ∉ D.pts
  e1 : ∀ i ∈ ex1, w0.heap.size ≤ i
  e2 : ∀ i ∈ ex2, w0.heap.size ≤ i
theorem PS.half (P : PS w0 w D rL rN g h ex1 gW gr gP gM ex2 s x v m us rP) {s' : St} {x' : SV} {v' : Value} {T : List Nat} (hT : ∀ i ∈ T, i ∈ D.d1 g h) (hc : Chg T w w') (hs : Sto w' ⟨D.p, D.bL, D.bS, D.bW, g, h, ex1⟩ s' x' v') : PH w0 w' D rL rN g h ex1 gW gr gP gM ex2 s s' x x' v' m us rP :=
  { st := hs, rs := P.rs.pasts hc (fun i hi => P.a2 i (hT i hi)) (fun i hi hm => P.ap i (hT i hm) hi), a1 := P.a1, a2 := P.a2, ap := P.ap, t1 := P.t1, t2 := P.t2, f1 := P.f1, f2 := P.f2, e1 := P.e1, e2 := P.e2 }
theorem PH.whole {s' : St} {x' : SV} (P : PH w0 w D rL rN g h ex1 gW gr gP gM ex2 s s' x x' v m us rP) (hw : w0.heap.size ≤ w.heap.size) (hsa : Sa s') {T : List Nat} (hT : ∀ i ∈ T, i ∈ D.d2 gW gr gP gM) (hc : Chg T w w') {gW' : Nat} {m' : Int} {us' rP' : List Value} (hg : gW' = gW ∨ w.heap.size ≤ gW') (hr : RSto w' ⟨D.q, D.gL, D.gN, gr, gP, gM, ex2⟩ gW' rL rN ⟨s', -1, m'⟩ x' us' rP') : PS w0 w' D rL rN g h ([gW'] ++ ex1) gW' gr gP gM ex2 s' x' v m' us' rP' := by
  have hlt := hr.lts gW' (by simp [RK.D])
  have hd1 : ∀ i ∈ D.d1 g h, i < w.heap.size := fun i hi => P.rs.exl i (P.a2 i hi)
  have hptl : ∀ i ∈ D.pts, i < w.heap.size := fun i hi => P.rs.exl _ (P.t2 i hi)
  have hST : Sto w' ⟨D.p, D.bL, D.bS, D.bW, g, h, [gW'] ++ ex1⟩ s' x' v := by
    rcases hg with rfl | hg
    · have h1 := P.st.adds (N := []) hc (fun i hi => P.a1 i (hT i hi)) (fun i hi hm => P.ap i hi (hT i hm)) (fun i hi => by cases hi)
      have hm : gW' ∈ ex1 := P.a1 _ (by simp [SD.d2])
      have hD : ∀ i, i ∈ SK.D ⟨D.p, D.bL, D.bS, D.bW, g, h, [gW'] ++ ex1⟩ → i ∈ SK.D ⟨D.p, D.bL, D.bS, D.bW, g, h, [] ++ ex1⟩ := fun i hi => by
        simp only [SK.D, List.mem_cons, List.mem_append, List.not_mem_nil, or_false, false_or] at hi ⊢
        rcases hi with h | h | h | h | h | h | h | h <;> simp [h, hm]
      have hpgs : Pgs (SK.D ⟨D.p, D.bL, D.bS, D.bW, g, h, [gW'] ++ ex1⟩) w' v x'.pages := by
        obtain ⟨A, c, us, e, hc1, hs, hu, hA, hR⟩ := h1.pgs
        exact ⟨A, c, us, e, hc1, hs, hu, fun ad ha => ⟨(hA ad ha).1, fun hm => (hA ad ha).2 (hD _ hm)⟩, fun i u l hu' hl => by
          obtain ⟨A', n', c', eu, hB, hD'⟩ := hR i u l hu' hl
          exact ⟨A', n', c', eu, hB, fun ad ha hm => hD' ad ha (hD _ hm)⟩⟩
      have hexl : ∀ i ∈ [gW'] ++ ex1, i < w'.heap.size := fun i hi => by
        rcases List.mem_append.1 hi with hi | hi
        · simp only [List.mem_singleton] at hi; subst hi; exact hlt
        · exact h1.exl i (List.mem_append_right _ hi)
      exact { h1 with pgs := hpgs, exl := hexl }
    · exact P.st.adds (N := [gW']) hc (fun i hi => P.a1 i (hT i hi)) (fun i hi hm => P.ap i hi (hT i hm)) (fun i hi => by simp only [List.mem_singleton] at hi; subst hi; exact ⟨hg, hlt⟩)
  have hin : ∀ i ∈ D.d2 gW' gr gP gM, i = gW' ∨ i ∈ D.d2 gW gr gP gM := fun i hi => by
    simp only [SD.d2, List.mem_cons, List.not_mem_nil, or_false] at hi ⊢
    rcases hi with h | h | h | h | h | h | h <;> simp [h]
  have hgW : w0.heap.size ≤ gW' ∧ gW' ∉ D.pts ∧ ∀ i ∈ D.d1 g h, i ≠ gW' := by
    rcases hg with rfl | hg
    · have h1 := P.f2 gW' (by simp [SD.d2])
      exact ⟨h1.1, h1.2, fun i hi e => P.ap i hi (by rw [e]; simp [SD.d2])⟩
    · exact ⟨by omega, fun hm => by have := hptl _ hm; omega, fun i hi e => by have := hd1 i hi; omega⟩
  have ha1 : ∀ i ∈ D.d2 gW' gr gP gM, i ∈ [gW'] ++ ex1 := fun i hi => by
    rcases hin i hi with rfl | h
    · simp
    · exact List.mem_append_right _ (P.a1 i h)
  have hap : ∀ i ∈ D.d1 g h, i ∉ D.d2 gW' gr gP gM := fun i hi hm => by
    rcases hin i hm with h | h
    · exact hgW.2.2 i hi h
    · exact P.ap i hi h
  have hf2 : ∀ i ∈ D.d2 gW' gr gP gM, w0.heap.size ≤ i ∧ i ∉ D.pts := fun i hi => by
    rcases hin i hi with rfl | h
    · exact ⟨hgW.1, hgW.2.1⟩
    · exact P.f2 i h
  exact { st := hST, rs := hr, sa := hsa, a1 := ha1, a2 := P.a2, ap := hap, t1 := fun i hi => List.mem_append_right _ (P.t1 i hi), t2 := P.t2, f1 := P.f1, f2 := hf2, e1 := fun i hi => by
            rcases List.mem_append.1 hi with hi | hi
            · simp only [List.mem_singleton] at hi; rw [hi]; exact hgW.1
            · exact P.e1 i hi, e2 := P.e2 }
end
end Go.Proofs.YtddjgncdjdjgeaaGreat
namespace Go.Proofs.YtddjgncdjdjgeaaGreat
open Go.RowKit
def mW (m : Int) : Nat → Int
  | 0 => m
  | k + 1 => mW (wrap64 (m + 1)) k
theorem Dg.run_all : ∀ (ds : List Deed) (s : St) (m : Int), Dg.run ⟨s, -1, m⟩ ds = ⟨doD s ds, -1, mW m ds.length⟩
  | [], s, m => rfl
  | d :: ds, s, m => by
    have e : Dg.step ⟨s, -1, m⟩ d = ⟨dOne s d, -1, wrap64 (m + 1)⟩ := by
      unfold Dg.step lfD
      show (if (-1 : Int) = 0 then _ else Dg.mk _ (if 0 < (-1 : Int) then _ else -1) _) = _
      rw [if_neg (by decide), if_neg (by decide)]
    show Dg.run (Dg.step ⟨s, -1, m⟩ d) ds = _
    rw [e, Dg.run_all ds (dOne s d) _]
    rfl
end Go.Proofs.YtddjgncdjdjgeaaGreat
