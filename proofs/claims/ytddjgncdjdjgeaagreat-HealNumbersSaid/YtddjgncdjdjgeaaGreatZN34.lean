/-
  N: RefCrash.
-/
import Derived.Test.YtddjgncdjdjgeaaGreatZN6
import Derived.Test.YtddjgncdjdjgeaaGreatZN13
import Derived.Deep.DeepCutAuto
namespace Go.Proofs.YtddjgncdjdjgeaaGreat
open Go.RowKit

/-- The lasting bytes behind the first i of the sectors ws. -/
def rcL (s : St) (ws : List Nat) (cuts : List Int) : Nat → List UInt8
  | 0 => s.L
  | i + 1 => splice (rcL s ws cuts i) (ws.getD i 0 * 64) ((s.S.drop (ws.getD i 0 * 64)).take (cutAt cuts i))
theorem rcL_len {s : St} {n : Nat} (hl : s.L.length = 64 * n) (hs : s.S.length = 64 * n) (ws : List Nat) (cuts : List Int) (hws : ∀ j (hj : j < ws.length), ws[j] < n) : ∀ i, i ≤ ws.length → (rcL s ws cuts i).length = 64 * n
  | 0, _ => hl
  | i + 1, hi => by
    have ih := rcL_len hl hs ws cuts hws i (by omega)
    have e : ws.getD i 0 = ws[i] := by rw [List.getD_eq_getElem?_getD, List.getElem?_eq_getElem (by omega)]; rfl
    have hlt := hws i (by omega)
    have hc := cutAt_le cuts i
    show (splice (rcL s ws cuts i) (ws.getD i 0 * 64) _).length = _
    rw [e, length_splice, ih]
    rw [List.length_take, List.length_drop]; omega

/-- A sector that has not been met is seen as it was. -/
theorem crash_far {s : St} {n : Nat} (h : Sane s n) (ws : List Nat) (cuts : List Int) (hws : ∀ j (hj : j < ws.length), ws[j] < n) (k : Nat) (hk : k < n) : ∀ i, i ≤ ws.length → k ∉ ws.take i → ∀ t, t < 64 → (s.crash ws cuts i).S[k * 64 + t]? = s.S[k * 64 + t]?
  | 0, _, _, _, _ => rfl
  | i + 1, hi, hn, t, ht => by
    have e : ws.getD i 0 = ws[i] := by rw [List.getD_eq_getElem?_getD, List.getElem?_eq_getElem (by omega)]; rfl
    have hm : k ∉ ws.take i ∧ k ≠ ws[i] := by
      rw [List.take_succ_eq_append_getElem (by omega), List.mem_append, List.mem_singleton] at hn
      exact ⟨fun h => hn (.inl h), fun h => hn (.inr h)⟩
    have ih := crash_far h ws cuts hws k hk i (by omega) hm.1 t ht
    have hsane := h.crash ws cuts hws i (by omega)
    have hlt := hws i (by omega)
    show (setS (s.crash ws cuts i).L (s.crash ws cuts i).S (ws.getD i 0) (cutAt cuts i))[k * 64 + t]? = _
    rw [e, setS_get (by rw [hsane.ll]; omega) (by rw [hsane.ls]; omega) (cutAt_le _ _), if_neg (by have := hm.2; omega), ih]

theorem rcL_eq {s : St} {n : Nat} (h : Sane s n) (ws : List Nat) (cuts : List Int) (hws : ∀ j (hj : j < ws.length), ws[j] < n) (hnd : ws.Pairwise (· < ·)) : ∀ i, i ≤ ws.length → rcL s ws cuts i = (s.crash ws cuts i).L
  | 0, _ => rfl
  | i + 1, hi => by
    have ih := rcL_eq h ws cuts hws hnd i (by omega)
    have e : ws.getD i 0 = ws[i] := by rw [List.getD_eq_getElem?_getD, List.getElem?_eq_getElem (by omega)]; rfl
    have hlt := hws i (by omega)
    have hc := cutAt_le cuts i
    have hnot : ws[i] ∉ ws.take i := by
      intro hm
      obtain ⟨j, hj, he⟩ := List.getElem_of_mem hm
      rw [List.getElem_take] at he
      have hji : j < i := by rw [List.length_take] at hj; omega
      have := List.pairwise_iff_getElem.1 hnd j i (by omega) (by omega) hji
      omega
    show splice (rcL s ws cuts i) (ws.getD i 0 * 64) ((s.S.drop (ws.getD i 0 * 64)).take (cutAt cuts i)) = setL (s.crash ws cuts i).L (s.crash ws cuts i).S (ws.getD i 0) (cutAt cuts i)
    rw [e, ih]
    unfold setL
    congr 1
    apply List.ext_getElem?
    intro t
    rw [cut_get, cut_get]
    by_cases ht : t < cutAt cuts i
    · rw [if_pos ht, if_pos ht]
      exact (crash_far h ws cuts hws ws[i] hlt i (by omega) hnot t (by omega)).symm
    · rw [if_neg ht, if_neg ht]
theorem wl_rises (V : List Bool) (n : Nat) : (wl V n).Pairwise (· < ·) := List.Pairwise.filter _ List.pairwise_lt_range

section
variable {w w' : World} {p gL gN gW : Nat} {rL rN : List Value} {m : Int} {s : St}
set_option maxHeartbeats 3000000 in
set_option maxRecDepth 100000 in
theorem rcrash_any (h : Rfd w p gL gN gW rL rN m s) {A : Option Addr} {n c : Nat} {cuts : List Int} (hl : cuts.length = n) (hs : Src w A (nms cuts)) (hp : 0 < cuts.length → ∀ ad, A = some ad → ad.spot = none) (hA : 0 < cuts.length → ∀ ad, A = some ad → ad.block ∉ [p, gL, gN]) :
    Calls Tryz.prog 14 #[.pointer (some ⟨p, 0, none⟩), .slice A n c] w fun e w' => ∃ gW', e = .returned (.int .i64 ((wl s.V s.V.length).length : Int)) ∧
      Rfd w' p gL gN gW' rL rN m ⟨rcL s (wl s.V s.V.length) cuts (wl s.V s.V.length).length, rcL s (wl s.V s.V.length) cuts (wl s.V s.V.length).length, falses s.V.length⟩ ∧ w.heap.size ≤ gW' ∧ Chg [p, gL, gN] w w' := by
  have hmk := make_bool s.V.length (by have := h.le; omega)
  obtain ⟨ws, hws⟩ : ∃ ws, ws = wl s.V s.V.length := ⟨_, rfl⟩
  have hlen : ws.length ≤ 160 := by have := wl_le s.V s.V.length; have := h.le; rw [hws]; omega
  have hlt : ∀ i (hi : i < ws.length), ws[i] < s.V.length := by subst hws; exact fun i hi => wl_lt s.V s.V.length i hi
  have hb : gL < w.heap.size ∧ gN < w.heap.size ∧ gW < w.heap.size ∧ p < w.heap.size := ⟨h.last.lt, h.now.lt, h.wait.lt, h.rec_.lt⟩
  have HW := Lib.hid (rwaits_any h)
  rw [← hws] at HW
  rw [← hws]
  have HL := Lib.hid hl
  have Hlt := Lib.hid hlt
  have HcL := Lib.hid (rcL_len h.lenL h.lenS ws cuts hlt)
  have hLS : s.L.length = s.S.length := by rw [h.lenL, h.lenS]
  have HLS := Lib.hid hLS
  have HlL := Lib.hid h.lenL
  clear hws hl hlt hLS
  go_enter Tryz.func14, Tryz.ntmps14
  go_wp2_with (go_at_call 44; refine (HW.out).mono ?_; rintro e w1 ⟨A1, c1, rfl, hs1, hA1, hc1⟩)
  have h1 := h.keep hc1
  have hs2 : Src w1 A (nms cuts) := hs.keep hc1
  have hA1' : ∀ ad, A1 = some ad → ad.block ∉ [gL] := fun ad e => by
    have := (hA1 ad e).2
    simp
    omega
  have HA := Lib.hid (show 0 < (nms cuts).length → ∀ ad, A = some ad → ad.block ∉ [gL] from fun h0 ad e => by
    have := hA (by simpa [nms] using h0) ad e
    simp at this ⊢
    exact this.2.1)
  have HA1 := Lib.hid hA1'
  have Hp := Lib.hid hp
  have Hp1 := Lib.hid hA1
  have m1 := Lib.hid (show p ∉ [gL] by simpa using h.rec_.ne_ h.last (by decide))
  have m2 := Lib.hid (show gN ∉ [gL] by simpa using fun e => h.ne e.symm)
  have z1 := hc1.size
  clear hA hA1 hA1' hp
  go_loopw [13] (fun i wr => ∃ k : Nat, k ≤ ws.length ∧ i = .int .i64 (k : Int) ∧ Whole wr gL 5 (bts (rcL s ws cuts k) ++ rL) ∧ Chg [gL] w1 wr) (fun i _ => ws.length - (intOf i).toNat)
  case atStart => exact ⟨0, Nat.zero_le _, rfl, h1.last, Chg.refl _ _⟩
  case round =>
    obtain ⟨k, hk, rfl, hLk, hck⟩ := hrel
    have Rk := h1.rec_.chg hck m1.out
    have Nk := h1.now.chg hck m2.out
    have c0 : wr.cell? ⟨p, 0, none⟩ = some (.slice (some ⟨gL, 0, none⟩) s.L.length (s.L.length + rL.length)) := Rk.cell 0
    have c1' : wr.cell? ⟨p, 1, none⟩ = some (.slice (some ⟨gN, 0, none⟩) s.S.length (s.S.length + rN.length)) := Rk.cell 1
    by_cases hkl : k < ws.length
    · have hs3 := hs1.chg hck (fun _ => HA1.out)
      obtain ⟨ad, rfl, _, hx⟩ := hs3 (by rw [nmsN_len]; omega)
      have hx1 := hx k _ (nmsN_get ws k hkl)
      clear hx
      obtain ⟨b1, o1, s1⟩ := ad
      obtain rfl : s1 = none := (Hp1.out _ rfl).1
      rw [add_plain] at hx1
      have hlt2 := Hlt.out k hkl
      have HE := Lib.hid (show rcL s ws cuts (k + 1) = splice (rcL s ws cuts k) (ws[k] * 64) ((s.S.drop (ws[k] * 64)).take (cutAt cuts k)) by
        show splice (rcL s ws cuts k) (ws.getD k 0 * 64) ((s.S.drop (ws.getD k 0 * 64)).take (cutAt cuts k)) = _
        rw [List.getD_eq_getElem?_getD, List.getElem?_eq_getElem hkl]; rfl)
      have HlK := Lib.hid (HcL.out k hk)
      obtain ⟨X2, hX2⟩ : ∃ X2, X2 = rcL s ws cuts (k + 1) := ⟨_, rfl⟩
      rw [← hX2] at HE
      have hX2 := Lib.hid hX2
      generalize rcL s ws cuts k = X0 at HE HlK hLk
      generalize ws[k] = q at hx1 hlt2 HE
      have hcc := cutAt_le cuts k
      have q1 : q * 64 + 64 ≤ s.L.length := by have := HlL.out; omega
      have q2 : q * 64 + 64 ≤ s.S.length := by have := HlL.out; have := HLS.out; omega
      have q3 : q ≤ 160 := by have := h.le; omega
      obtain ⟨cN, hcN⟩ : ∃ cN, cN = cutAt cuts k := ⟨_, rfl⟩
      rw [← hcN] at HE hcc
      have HCN := Lib.hid hcN
      clear hcN
      go_upto_if 21 with fail
      go_cut [8] (fun s8 wx => s8 = .int .i64 (cN : Int) ∧ wr = wx)
      case first =>
        by_cases hkc : k < cuts.length
        · have hs4 := hs2.chg hck HA.out
          obtain ⟨ad2, rfl, _, hy⟩ := hs4 (by simp [nms]; omega)
          have hy1 := hy k (.int .i64 cuts[k]) (by simp [nms, hkc])
          clear hy
          obtain ⟨b2, o2, s2'⟩ := ad2
          obtain rfl : s2' = none := Hp.out (by omega) _ rfl
          rw [add_plain] at hy1
          have hz : max (min cuts[k] 64) 0 = (cN : Int) := by rw [HCN.out]; unfold cutAt; rw [dif_pos hkc]; omega
          generalize cuts[k] = z at hy1 hz
          have hkn : k < n := by have := HL.out; omega
          clear hkc
          go_wp2_with fail
          go_meet
          exact ⟨rfl, rfl⟩
        · have hz := Lib.hid (show (cN : Int) = 0 by rw [HCN.out]; unfold cutAt; rw [dif_neg hkc]; rfl)
          have hkn : n ≤ k := by have := HL.out; omega
          clear hkc
          go_wp2_with fail
          go_meet
          exact ⟨by rw [hz.out], rfl⟩
      case rest =>
        obtain ⟨rfl, rfl⟩ := hcut
        have g1 : q * 64 + cN ≤ s.L.length + rL.length := by omega
        have g2 : q * 64 ≤ s.S.length := by omega
        have g3 : ¬ (s.L.length + rL.length = q * 64) := by omega
        have g4 : ¬ (s.S.length + rN.length = q * 64) := by omega
        have Hn := Lib.hid (show (bts ((s.S.drop (q * 64)).take cN)).length = Nat.min (s.S.length - q * 64) cN by
          rw [bts_len, List.length_take, List.length_drop, show Nat.min (s.S.length - q * 64) cN = min (s.S.length - q * 64) cN from rfl]; omega)
        have hfit : q * 64 + (bts ((s.S.drop (q * 64)).take cN)).length ≤ (bts X0 ++ rL).length := by
          have := HlK.out; have := HlL.out
          rw [List.length_append, bts_len, bts_len, List.length_take, List.length_drop]; omega
        have hsr : Src wr (some ⟨gN, q * 64, none⟩) (bts ((s.S.drop (q * 64)).take cN)) := by
          have := Src.of_whole Nk (q * 64) cN
          rwa [List.drop_append_of_le_length (by rw [bts_len]; omega), List.take_append_of_le_length (by rw [List.length_drop, bts_len]; omega), bts_cut] at this
        have bb := bts_one ((s.S.drop (q * 64)).take cN)
        have HX := Lib.hid (show splice (bts X0 ++ rL) (q * 64) (bts ((s.S.drop (q * 64)).take cN)) = bts X2 ++ rL by
          rw [HE.out, ← bts_splice, splice_app]
          have := HlK.out; have := HlL.out
          rw [bts_len, bts_len, List.length_take, List.length_drop]; omega)
        generalize bts ((s.S.drop (q * 64)).take cN) = Y at Hn hfit hsr bb HX
        have w0 : (0 : Int) ≤ (q : Int) * 64 := by omega
        have w5 : (0 : Int) ≤ (q : Int) * 64 + (cN : Int) := by omega
        have w6 : (q : Int) * 64 + (cN : Int) ≤ (s.L.length : Int) + (rL.length : Int) := by omega
        have w7 : (q : Int) * 64 ≤ (q : Int) * 64 + (cN : Int) := by omega
        have w8 : (q : Int) * 64 ≤ (s.S.length : Int) := by omega
        have wq1 : IntKind.i64.wrap ((q : Int) * 64) = (q : Int) * 64 := IntWalk.i64_in _ (by omega)
        have wq2 : IntKind.i64.wrap ((q : Int) * 64 + (cN : Int)) = (q : Int) * 64 + (cN : Int) := IntWalk.i64_in _ (by omega)
        have wq3 : ((q : Int) * 64).toNat = q * 64 := by omega
        have wq4 : ((q : Int) * 64 + (cN : Int)).toNat = q * 64 + cN := by omega
        have wq5 : max ((q : Int) * 64 + (cN : Int)) 0 = (q : Int) * 64 + (cN : Int) := by omega
        go_wp2_with fail
        go_region_law (with_reducible refine step_copy_chg rfl (.tmp 38) (.tmp 45) _ _ rfl 5 Tryz.underlying30 size_u8 (some ⟨gL, q * 64, none⟩) (some ⟨gN, q * 64, none⟩) cN (s.L.length + rL.length - q * 64) (s.S.length - q * 64) (s.S.length + rN.length - q * 64) rfl rfl gL (q * 64) 5 (bts X0 ++ rL) Y hLk.drew Hn.out (fun _ => rfl) hsr.drew hfit bb ?_; intro w2 HG HC)
        all_goals
          clear wq1 wq2 wq3 wq4 wq5
          rw [HX.out] at HG
          go_wp2_with fail
          go_roundw
          case rel => exact ⟨k + 1, by omega, by go_num, (hX2.out ▸ HG), hck.drew.trans HC⟩
          case measure => simp [intOf]; omega
    · have hkl2 : k = ws.length := by omega
      have hLe : Whole wr gL 5 (bts (rcL s ws cuts ws.length) ++ rL) := hkl2 ▸ hLk
      have HlX := Lib.hid (HcL.out ws.length (Nat.le_refl _))
      clear hkl2 hLk
      obtain ⟨X, hXe⟩ : ∃ X, X = rcL s ws cuts ws.length := ⟨_, rfl⟩
      rw [← hXe] at hLe HlX
      have HXe := Lib.hid hXe
      clear hXe
      have Hn := Lib.hid (show (bts X).length = Nat.min s.L.length s.S.length by
        rw [bts_len, HlX.out, HlL.out, ← HLS.out, HlL.out]; exact (Nat.min_self _).symm)
      have hfit : 0 + (bts X).length ≤ (bts s.S ++ rN).length := by
        have a1 := HlX.out; have a2 := HlL.out; have a3 := HLS.out
        rw [List.length_append, bts_len, bts_len]; omega
      have HX := Lib.hid (show splice (bts s.S ++ rN) 0 (bts X) = bts X ++ rN by
        have a1 := HlX.out; have a2 := HlL.out; have a3 := HLS.out
        rw [splice_app _ _ _ _ (by rw [bts_len, bts_len]; omega), bts_splice, splice_all _ _ (by omega)])
      have hsr : Src wr (some ⟨gL, 0, none⟩) (bts X) := by
        have := Src.of_whole hLe 0 X.length
        rwa [List.drop_zero, List.take_append_of_le_length (by rw [bts_len]; omega), List.take_of_length_le (by rw [bts_len]; omega)] at this
      have bb := bts_one X
      have n1 := Lib.hid (show p ∉ [gN] by simpa using h.rec_.ne_ h.now (by decide))
      have n2 := Lib.hid (show gL ∉ [gN] by simpa using h.ne)
      obtain ⟨Y, hY⟩ : ∃ Y, Y = bts X := ⟨_, rfl⟩
      have HY := Lib.hid hY
      rw [← hY] at Hn hfit HX hsr bb
      clear hY
      go_wp2_with fail
      go_region_law (with_reducible refine step_copy_chg rfl (.tmp 51) (.tmp 55) _ _ rfl 5 Tryz.underlying30 size_u8 (some ⟨gN, 0, none⟩) (some ⟨gL, 0, none⟩) s.S.length (s.S.length + rN.length) s.L.length (s.L.length + rL.length) rfl rfl gN 0 5 (bts s.S ++ rN) Y Nk.drew Hn.out (fun _ => rfl) hsr.drew hfit bb ?_; intro w2 HG HC)
      all_goals
        have R2 := Rk.drew.chg HC n1.out
        have L2 := hLe.drew.chg HC n2.out
        clear c0 c1'
        have c2 : w2.cell? ⟨p, 2, none⟩ = some (.slice (some ⟨gW, 0, none⟩) s.V.length s.V.length) := R2.cell 2
        have c2' : ∀ o, (w2.alloc o).cell? ⟨p, 2, none⟩ = some (.slice (some ⟨gW, 0, none⟩) s.V.length s.V.length) := fun o => (R2.keep ((Chg.refl [] w2).alloc o)).cell 2
        have f2' := fun o => (R2.keep ((Chg.refl [] w2).alloc o)).frozen 2
        rw [HX.out, HY.out] at HG
        go_wp2_with fail
        go_ret
        have hal : ∀ o, Chg [] w2 (w2.alloc o) := fun o => (Chg.refl [] w2).alloc o
        have z2 := HC.size
        have z3 : wr.drew.heap.size = wr.heap.size := rfl
        have z4 := hck.size
        have lp := R2.lt
        have lX : X.length = s.L.length := by rw [HlX.out, HlL.out]
        have lX2 : X.length = s.S.length := by rw [lX, HLS.out]
        rw [← HXe.out]
        refine ⟨w2.heap.size, rfl, ⟨?_, (L2.keep (hal _)).far (p := ⟨p, 2, none⟩) (L2.ne_ R2 (by decide)) _, (HG.keep (hal _)).far (p := ⟨p, 2, none⟩) (HG.ne_ R2 (by decide)) _, (Whole.new w2 _ _).far (p := ⟨p, 2, none⟩) (show w2.heap.size ≠ p by omega) _, by simp only [falses_len]; exact HlX.out, by simp only [falses_len]; exact HlX.out, by simp only [falses_len]; exact h.le, h.ne⟩, by omega, ?_⟩
        · have := (R2.keep (hal (.cells (bls (falses s.V.length)).toArray 4))).set_ 2 (.slice (some ⟨w2.heap.size, 0, none⟩) s.V.length s.V.length)
          simp only [falses_len]
          rw [← lX2] at this
          rw [← show X.length = s.L.length from lX] at this
          exact this
        · have a1 : Chg [p, gL, gN] w wr := (hc1.sub (by simp)).trans (hck.sub (by simp))
          have a2 : Chg [p, gL, gN] w w2 := a1.drew.trans (HC.sub (by simp))
          exact (a2.alloc _).setCell (by simp) _
end
end Go.Proofs.YtddjgncdjdjgeaaGreat
