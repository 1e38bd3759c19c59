/-
  N: Sto12, Sto14, Sto15, Sto16, Sto17, Known, StoKnown, Sto18, StoSane, LawStoreOpens.
-/
import Derived.Test.YtddjgncdjdjgeaaGreatZN2
import Derived.Test.YtddjgncdjdjgeaaGreatZN3
import Derived.Test.YtddjgncdjdjgeaaGreatZN5
import Derived.Test.YtddjgncdjdjgeaaGreatZN10
import Derived.Test.YtddjgncdjdjgeaaGreatZN13
import Derived.Test.YtddjgncdjdjgeaaGreatZN29
import Derived.Laws.Entries
namespace Go.Proofs.YtddjgncdjdjgeaaGreat
open Go.RowKit
theorem secV_apS {s : St} {a : Nat} {b : List UInt8} (h : a + b.length ≤ s.S.length) (q : Nat) (hq : (q + 1) * 64 ≤ a ∨ a + b.length ≤ q * 64) : secV (apS s a b) q = secV s q := by
  unfold secV
  rw [apS_V]
  show sectL (splice s.S a b) _ q = _
  have e : splice s.S a b = s.S.take a ++ (b ++ s.S.drop (a + b.length)) := by unfold splice; simp
  have l1 : (s.S.take a).length = a := by rw [List.length_take]; omega
  unfold sectL
  split
  · rw [e]
    rcases hq with hq | hq
    · rw [List.drop_append_of_le_length (by omega), List.take_append_of_le_length (by rw [List.length_drop]; omega), List.drop_take, List.take_take, Nat.min_eq_left (by omega)]
    · rw [List.drop_append, List.drop_of_length_le (by omega), List.nil_append, l1, List.drop_append, List.drop_of_length_le (by omega), List.nil_append, List.drop_drop, show a + b.length + (q * 64 - a - b.length) = q * 64 by omega]
  · rfl
theorem Gd.apS {s : St} (h : Gd s) {a : Nat} {b : List UInt8} (hb : a + b.length ≤ s.S.length) : Gd (apS s a b) := by
  unfold Gd
  rw [apS_V]
  show (splice s.S a b).length = _
  rw [splice_len _ _ _ hb]; exact h
/-- .. whose log has no more than its records. -/
structure KeptZ (s : St) (x : SV) (ms : List (List ChV)) : Prop where
  k : Kept s x ms
  z : LogZ s x.L x.P x.E ms x.used
  q : x.seq = ms.length
theorem fold_snoc (ms : List (List ChV)) (m : List ChV) (y : SV) : (ms ++ [m]).foldl turnV y = turnV (ms.foldl turnV y) m := by rw [List.foldl_append]; rfl
theorem KeptZ.com {s : St} {x : SV} {ms : List (List ChV)} {m : List ChV} (h : KeptZ s x ms) (hm : InL x.P m) (hf : x.used + (18 + 66 * m.length) ≤ x.L * 64) : KeptZ (comS s x m) (comV x m) (ms ++ [m]) := by
  have h1 := rightR_true.1 h.k.rt
  have hl : (comL x m).length = 18 + 66 * m.length := by unfold comL; rw [frameL_len, back_len hm.1]; omega
  have hgd := h.k.gd
  have hb : 128 + x.used + (comL x m).length ≤ s.S.length := by unfold Gd at hgd; omega
  have hV : (comS s x m).V.length = s.V.length := apS_V _ _ _
  have hs : ∀ q, q < 2 ∨ 2 + x.L ≤ q → secV (comS s x m) q = secV s q := fun q hq => secV_apS hb q (by rcases hq with hq | hq <;> omega)
  have hz := h.z.com hgd (by omega) h.q hm hf
  have hrt : rightR x.L x.P x.E (comS s x m).V.length = true := by rw [hV]; exact h.k.rt
  have hpg : pagesL (comS s x m) x.L x.P = pagesL s x.L x.P := ext_getD (by rw [pagesL_len, pagesL_len]) (fun i hi => by
    rw [pagesL_len] at hi
    rw [pagesL_at _ _ _ _ hi, pagesL_at _ _ _ _ hi, hs _ (by omega)])
  have hhv : homeV (comS s x m) ⟨x.L, x.P, x.E⟩ = homeV s ⟨x.L, x.P, x.E⟩ := by unfold homeV; simp only; rw [hpg]
  have hins : ∀ y ∈ ms ++ [m], InL x.P y := fun y hy => by
    rcases List.mem_append.1 hy with hy | hy
    · exact h.k.ins y hy
    · simp only [List.mem_cons, List.not_mem_nil, or_false] at hy
      subst hy; exact hm
  refine ⟨{ gd := hgd.apS hb, rt := hrt, ep := h.k.ep, best := ?_, recs := fun y => hz.recT hrt h.k.ep y, ins := hins, pages := ?_, named := ?_ }, hz, by show x.seq + 1 = _; rw [h.q, List.length_append]; rfl⟩
  · rw [bestK_two, hV, hs 0 (by omega), hs 1 (by omega), ← bestK_two]
    exact h.k.best
  · show applyL x.pages m = ((ms ++ [m]).foldl turnV (homeV (comS s x m) ⟨x.L, x.P, x.E⟩)).pages
    rw [fold_snoc, hhv, h.k.pages]; rfl
  · show nameL x.named m = ((ms ++ [m]).foldl turnV (homeV (comS s x m) ⟨x.L, x.P, x.E⟩)).named
    rw [fold_snoc, hhv, h.k.named]; rfl
theorem KeptZ.flA {s : St} {x : SV} {ms : List (List ChV)} (h : KeptZ s x ms) : KeptZ (flA s) x ms := ⟨h.k.flA, h.z.flA, h.q⟩
/-- A disk that was formatted, and opened. -/
theorem kept_fmt {s : St} (h : Gd s) (L P : Nat) (hr : rightR L P 1 s.V.length = true) : Kept (fmt s L P) (homeV (fmt s L P) ⟨L, P, 1⟩) [] ∧ LogZ (fmt s L P) L P 1 [] 0 := by
  have h1 := rightR_true.1 hr
  have hz : LogZ (fmt s L P) L P 1 [] 0 := LogZ.none (by rw [fmt_len]; omega) (fun j hj1 hj2 => by rw [secV_fmt h L P (by omega) j (by omega), if_neg (by omega)])
  have hr' : rightR L P (1 : Nat) (fmt s L P).V.length = true := by rw [fmt_len]; exact hr
  refine ⟨{ gd := h.fmt L P (by omega), rt := hr', ep := by show 1 < _; omega, best := best_fmt h L P hr, recs := fun y => hz.recT hr' (by omega) y, ins := fun m hm => (by cases hm), pages := rfl, named := rfl }, hz⟩
theorem kept_new {s : St} (h : Gd s) (L P : Nat) (hr : rightR L P 1 s.V.length = true) : KeptZ (ckS (fmt s L P) (openV (fmt s L P) ⟨L, P, 1⟩)) (ckV (openV (fmt s L P) ⟨L, P, 1⟩)) [] := by
  have h1 := rightR_true.1 hr
  obtain ⟨hk, hz⟩ := kept_fmt h L P hr
  have ho := hk.open_
  have hlog := hz.log
  have hc := hk.ck _ ho (by show 1 + 1 < _; omega) (by show ¬ readOk (logB (fmt s L P) L) 2 0; rw [hlog]; exact zeros_noF (by omega))
  obtain ⟨o1, o2, o3, o4, o5⟩ := ho
  obtain ⟨l1, l2, l3⟩ := hk.lens
  have o3' : (openV (fmt s L P) ⟨L, P, 1⟩).L = L := o3
  have o4' : (openV (fmt s L P) ⟨L, P, 1⟩).P = P := o4
  have o5' : (openV (fmt s L P) ⟨L, P, 1⟩).E = 1 := o5
  refine ⟨hc, ?_, rfl⟩
  refine LogZ.none (by rw [ckS_len, fmt_len]; show 2 + (openV (fmt s L P) ⟨L, P, 1⟩).L ≤ _; rw [o3']; omega) (fun j hj1 hj2 => ?_)
  have hj2' : j < 2 + L := by rw [← o3']; exact hj2
  have hgf := hk.gd
  rw [secV_ckS hgf (by rw [o3', o4', o5', fmt_len]; exact hr) (by rw [o4']; exact (congrArg List.length o1).trans l1) (fun l hl => l3 l (by rw [← o1]; exact hl)), if_neg (by omega), if_neg (by rw [o3']; omega), secV_fmt h L P (by omega) j (by omega), if_neg (by omega)]
/-- Behind a Flush nothing waits. -/
theorem flush_false (s : St) : ∀ i j, j < i → (s.flush i).V.getD j false = false
  | i + 1, j, hj => by
    show ((s.flush i).V.set i false).getD j false = false
    by_cases e : i = j
    · subst e
      rcases Nat.lt_or_ge i (s.flush i).V.length with hb | hb
      · exact getD_set_eq _ _ _ _ hb
      · rw [List.getD_eq_getElem?_getD, List.getElem?_eq_none (by rw [List.length_set]; omega)]; rfl
    · rw [getD_set_ne _ _ _ _ _ e]
      exact flush_false s i j (by omega)
end Go.Proofs.YtddjgncdjdjgeaaGreat
namespace Go.Proofs.YtddjgncdjdjgeaaGreat
open Go.RowKit
theorem chso_in {w wr : World} {p P : Nat} {At : Option Addr} {nt ct : Nat} {lt : List Int} {v : Value} {D : List Nat} (h : ChSo w p At nt ct lt wr v P) (hP : P ≤ 64) (hD : ∀ i ∈ D, i < w.heap.size) :
    ∃ A c ls a', v = .slice A ls.length c ∧ ChsD D wr A ls ∧ InL P ls ∧ Tp wr p At nt ct lt a' ∧ Chg [p] w wr ∧ ls.length ≤ 64 := by
  obtain ⟨ls, a', ho, hm, hpg, hl, hr, hT, hc⟩ := h
  obtain ⟨A, c, rfl, hl2, hch, _, _, _⟩ := chs_own' ho (fun a ha => (hm a ha).ok)
  have hb := own_blk ho rfl
  refine ⟨A, c, ls, a', rfl, ⟨hch, fun ad e hd => ?_, fun a ha ad e hd => ?_⟩, ⟨fun a ha => ⟨(hm a ha).small, (hm a ha).bl⟩, ?_, by omega⟩, hT, hc, by omega⟩
  · have h1 := hD _ hd
    have h2 := hb ad e
    omega
  · obtain ⟨g, hg, hB, _⟩ := (hm a ha).b
    rw [hg] at e
    injection e with e
    subst e
    have h1 : g < w.heap.size := hD _ hd
    omega
  · unfold rightB
    rw [hr (P : Int) (Int.le_refl _), Bool.and_true, decide_eq_true_iff]; omega
theorem fits_le {L u m : Nat} (h : fitsB (L : Int) (u : Int) (m : Int) = true) (hm : m ≤ 64) : u + (18 + 66 * m) ≤ L * 64 := by
  unfold fitsB at h
  rw [Bool.and_eq_true, decide_eq_true_iff, decide_eq_true_iff] at h
  have h2 := h.2
  unfold leftI sizeI needI at h2
  rw [if_neg (by omega), if_neg (by omega)] at h2
  omega
end Go.Proofs.YtddjgncdjdjgeaaGreat
namespace Go.Proofs.YtddjgncdjdjgeaaGreat
open Go.RowKit
theorem Sto.more {w w' : World} {p bL bS bW g gN : Nat} {ex : List Nat} {s : St} {x : SV} {vP : Value} (h : Sto w ⟨p, bL, bS, bW, g, gN, ex⟩ s x vP) (hc : Chg [] w w') {q : Nat} (hq : w.heap.size ≤ q) (hq2 : q < w'.heap.size) : Sto w' ⟨p, bL, bS, bW, g, gN, q :: ex⟩ s x vP := by
  have h1 := rightR_true.1 h.rt
  have hpl := h.pl
  have h64 := h.p64
  have hk := h.keep hc
  obtain ⟨A, c, us, e, hc1, hs, hu, hA, hR⟩ := h.pgs
  have hin : ∀ i, i ∈ SK.D ⟨p, bL, bS, bW, g, gN, q :: ex⟩ → i = q ∨ i ∈ SK.D ⟨p, bL, bS, bW, g, gN, ex⟩ := fun i hi => by
    simp only [SK.D, List.mem_cons] at hi ⊢
    rcases hi with h | h | h | h | h | h | h | h <;> simp [h]
  refine { dsk := hk.dsk, rec_ := hk.rec_, pgs := ?_, nm := hk.nm, ng := hk.ng, rt := hk.rt, ep := hk.ep, pl := hk.pl, nl := hk.nl, p64 := hk.p64, us := hk.us, sq := hk.sq, exl := fun i hi => ?_ }
  · refine ⟨A, c, us, e, hc1, hs.keep hc, hu, fun ad ha => ⟨(hA ad ha).1, fun hm => ?_⟩, fun i u l hu' hl => ?_⟩
    · rcases hin _ hm with hm | hm
      · obtain ⟨ad', ea, hb, _⟩ := hs (by omega)
        rw [ha] at ea
        injection ea with ea
        subst ea
        omega
      · exact (hA ad ha).2 hm
    · obtain ⟨A', n', c', eu, hB, hD⟩ := hR i u l hu' hl
      refine ⟨A', n', c', eu, hB.keep hc, fun ad ha hm => ?_⟩
      rcases hin _ hm with hm | hm
      · obtain ⟨ad', ea, hb, _⟩ := hB.src (by rw [bts_len, h64 l (List.mem_of_getElem? hl)]; omega)
        rw [ha] at ea
        injection ea with ea
        subst ea
        omega
      · exact hD ad ha hm
  · simp only [List.mem_cons] at hi
    rcases hi with rfl | hi
    · exact hq2
    · exact hk.exl i hi
theorem Sto.past {w w' : World} {k : SK} {s : St} {x : SV} {vP : Value} (h : Sto w k s x vP) {q : Nat} (hc : Chg [q] w w') (hq : q ∈ k.ex) (hn : ∀ i ∈ [k.p, k.bL, k.bS, k.bW, k.g, k.gN], i ≠ q) : Sto w' k s x vP := by
  have hne : ∀ i ∈ [k.p, k.bL, k.bS, k.bW, k.g, k.gN], i ∉ [q] := fun i hi hm => hn i hi (by simpa using hm)
  exact { h with dsk := Dsk.away h.dsk hc (hne _ (by simp)) (hne _ (by simp)) (hne _ (by simp)) (hne _ (by simp)), rec_ := h.rec_.chg hc (hne _ (by simp)), pgs := h.pgs.chg hc (fun i hi => by simp only [List.mem_singleton] at hi; subst hi; simp [SK.D, hq]), nm := h.nm.chg hc (hne _ (by simp)), exl := fun i hi => Nat.lt_of_lt_of_le (h.exl i hi) hc.size }
end Go.Proofs.YtddjgncdjdjgeaaGreat
namespace Go.Proofs.YtddjgncdjdjgeaaGreat
open Go.RowKit
structure Eqn (s : St) : Prop where
  lenS : s.S.length = 64 * s.V.length
  lenL : s.L.length = s.S.length
theorem settle_S {s : St} (h : Eqn s) {k cut : Nat} (hk : k < s.V.length) (hc : cut ≤ 64) (j : Nat) : (s.settle k cut).S[j]? = if k * 64 + cut ≤ j ∧ j < (k + 1) * 64 then s.L[j]? else s.S[j]? := by
  have h1 := h.lenS
  have h2 := h.lenL
  have lx : ((s.L.drop (k * 64 + cut)).take (64 - cut)).length = 64 - cut := by rw [List.length_take, List.length_drop]; omega
  show (setS s.L s.S k cut)[j]? = _
  unfold setS
  rw [splice_get _ _ _ _ (by rw [lx]; omega), lx]
  by_cases hj : k * 64 + cut ≤ j ∧ j < (k + 1) * 64
  · rw [if_pos (by omega), if_pos hj, List.getElem?_take, if_pos (by omega), List.getElem?_drop]
    congr 1; omega
  · rw [if_neg (by omega), if_neg hj]
theorem settle_L {s : St} (h : Eqn s) {k cut : Nat} (hk : k < s.V.length) (hc : cut ≤ 64) (j : Nat) : (s.settle k cut).L[j]? = if k * 64 ≤ j ∧ j < k * 64 + cut then s.S[j]? else s.L[j]? := by
  have h1 := h.lenS
  have h2 := h.lenL
  have lx : ((s.S.drop (k * 64)).take cut).length = cut := by rw [List.length_take, List.length_drop]; omega
  show (setL s.L s.S k cut)[j]? = _
  unfold setL
  rw [splice_get _ _ _ _ (by rw [lx]; omega), lx]
  by_cases hj : k * 64 ≤ j ∧ j < k * 64 + cut
  · rw [if_pos hj, if_pos hj, List.getElem?_take, if_pos (by omega), List.getElem?_drop]
    congr 1; omega
  · rw [if_neg hj, if_neg hj]
theorem settle_V (s : St) (k cut : Nat) : (s.settle k cut).V.length = s.V.length := by simp [St.settle]
theorem Eqn.settle {s : St} (h : Eqn s) {k cut : Nat} (hk : k < s.V.length) (hc : cut ≤ 64) : Eqn (s.settle k cut) := by
  have h1 := h.lenS
  have h2 := h.lenL
  have lx : ((s.L.drop (k * 64 + cut)).take (64 - cut)).length = 64 - cut := by rw [List.length_take, List.length_drop]; omega
  have ly : ((s.S.drop (k * 64)).take cut).length = cut := by rw [List.length_take, List.length_drop]; omega
  have e1 : (s.settle k cut).S.length = s.S.length := splice_len _ _ _ (by rw [lx]; omega)
  have e2 : (s.settle k cut).L.length = s.L.length := splice_len _ _ _ (by rw [ly]; omega)
  exact ⟨by rw [e1, settle_V]; exact h1, by rw [e1, e2]; exact h2⟩
/-- What both images have alike stands; what does not wait stands. -/
structure Crs (s s' : St) (ws : List Nat) : Prop where
  eq : Eqn s'
  v : s'.V.length = s.V.length
  same : ∀ j : Nat, s.L[j]? = s.S[j]? → s'.S[j]? = s.S[j]? ∧ s'.L[j]? = s.S[j]?
  out : ∀ j : Nat, j / 64 ∉ ws → s'.S[j]? = s.S[j]?
theorem Crs.crash {s : St} (h : Eqn s) (ws : List Nat) (cuts : List Int) (hw : ∀ k ∈ ws, k < s.V.length) (hcut : ∀ i, cutAt cuts i ≤ 64) : ∀ i, i ≤ ws.length → Crs s (s.crash ws cuts i) ws
  | 0, _ => ⟨h, rfl, fun j hj => ⟨rfl, hj⟩, fun j _ => rfl⟩
  | i + 1, hi => by
    have ih := Crs.crash h ws cuts hw hcut i (by omega)
    have hk : ws.getD i 0 ∈ ws := by rw [List.getD_eq_getElem?_getD, List.getElem?_eq_getElem (by omega)]; exact List.getElem_mem _
    have hkv : ws.getD i 0 < (s.crash ws cuts i).V.length := by rw [ih.v]; exact hw _ hk
    refine ⟨ih.eq.settle hkv (hcut i), (settle_V _ _ _).trans ih.v, fun j hj => ?_, fun j hj => ?_⟩
    · obtain ⟨h1, h2⟩ := ih.same j hj
      show ((s.crash ws cuts i).settle (ws.getD i 0) (cutAt cuts i)).S[j]? = _ ∧ ((s.crash ws cuts i).settle (ws.getD i 0) (cutAt cuts i)).L[j]? = _
      rw [settle_S ih.eq hkv (hcut i), settle_L ih.eq hkv (hcut i)]
      constructor
      · split
        · exact h2
        · exact h1
      · split
        · exact h1
        · exact h2
    · show ((s.crash ws cuts i).settle (ws.getD i 0) (cutAt cuts i)).S[j]? = _
      rw [settle_S ih.eq hkv (hcut i), if_neg (fun hx => hj (by rw [show j / 64 = ws.getD i 0 by omega]; exact hk))]
      exact ih.out j hj
end Go.Proofs.YtddjgncdjdjgeaaGreat
namespace Go.Proofs.YtddjgncdjdjgeaaGreat
open Go.RowKit
/-- What lasts and what is seen are alike ahead of u and behind the log. -/
def Alk (s : St) (L u : Nat) : Prop := ∀ j : Nat, (j < 128 + u ∨ 128 + L * 64 ≤ j) → s.L[j]? = s.S[j]?
/-- Only the log waits. -/
def Wtl (s : St) (L : Nat) : Prop := ∀ j : Nat, s.V.getD j false = true → 2 ≤ j ∧ j < 2 + L
theorem flush_eqn {s : St} (h : Eqn s) : ∀ i, i ≤ s.V.length → Eqn (s.flush i)
  | 0, _ => h
  | i + 1, hi => (flush_eqn h i (by omega)).settle (by rw [flush_len]; omega) (by omega)
theorem flush_L {s : St} (h : Eqn s) : ∀ i, i ≤ s.V.length → ∀ j : Nat, (s.flush i).L[j]? = if j < i * 64 then s.S[j]? else s.L[j]?
  | 0, _, j => by rw [if_neg (by omega)]; rfl
  | i + 1, hi, j => by
    show ((s.flush i).settle i 64).L[j]? = _
    rw [settle_L (flush_eqn h i (by omega)) (by rw [flush_len]; omega) (by omega), flush_S, flush_L h i (by omega)]
    by_cases h1 : i * 64 ≤ j ∧ j < i * 64 + 64
    · rw [if_pos h1, if_pos (by omega)]
    · rw [if_neg h1]
      by_cases h2 : j < i * 64
      · rw [if_pos h2, if_pos (by omega)]
      · rw [if_neg h2, if_neg (by omega)]
theorem Eqn.flA {s : St} (h : Eqn s) : Eqn (flA s) := flush_eqn h _ (Nat.le_refl _)
theorem alk_flA {s : St} (h : Eqn s) (L u : Nat) : Alk (flA s) L u := fun j _ => by
  rw [flA_S]
  show (s.flush s.V.length).L[j]? = _
  rw [flush_L h _ (Nat.le_refl _)]
  have h1 := h.lenS
  have h2 := h.lenL
  split
  · rfl
  · rw [List.getElem?_eq_none (by omega), List.getElem?_eq_none (by omega)]
theorem wtl_flA (s : St) (L : Nat) : Wtl (flA s) L := fun j hj => by
  rcases Nat.lt_or_ge j s.V.length with h | h
  · rw [show (flA s).V.getD j false = false from flush_false s s.V.length j h] at hj; cases hj
  · rw [List.getD_eq_getElem?_getD, List.getElem?_eq_none (by rw [flA_len]; exact h)] at hj; cases hj
theorem Eqn.apS {s : St} (h : Eqn s) {a : Nat} {b : List UInt8} (hb : a + b.length ≤ s.S.length) : Eqn (apS s a b) := by
  have h1 := h.lenS
  have h2 := h.lenL
  have e : (Go.Proofs.YtddjgncdjdjgeaaGreat.apS s a b).S.length = s.S.length := splice_len _ _ _ hb
  exact ⟨by rw [e, apS_V]; exact h1, by rw [e]; exact h2⟩
theorem Alk.apS {s : St} {L u a : Nat} {b : List UInt8} (h : Alk s L u) (hb : a + b.length ≤ s.S.length) (h1 : 128 + u ≤ a) (h2 : a + b.length ≤ 128 + L * 64) : Alk (apS s a b) L u := fun j hj => by
  show s.L[j]? = (splice s.S a b)[j]?
  rw [splice_get _ _ _ _ hb, if_neg (by omega)]
  exact h j hj
theorem Wtl.apS {s : St} {L a : Nat} {b : List UInt8} (h : Wtl s L) (h1 : 128 ≤ a) (h2 : a + b.length ≤ 128 + L * 64) : Wtl (apS s a b) L := fun j hj => by
  have hj' : ((List.range s.V.length).map fun j => s.V.getD j false || tch a b.length j).getD j false = true := hj
  rcases Nat.lt_or_ge j s.V.length with hl | hl
  · rw [List.getD_eq_getElem?_getD, List.getElem?_map, List.getElem?_range hl] at hj'
    simp only [Option.map_some, Option.getD_some, Bool.or_eq_true] at hj'
    rcases hj' with h3 | h3
    · exact h j h3
    · unfold tch at h3
      simp at h3
      omega
  · rw [List.getD_eq_getElem?_getD, List.getElem?_eq_none (by simpa using hl)] at hj'; cases hj'
theorem itS_pre (l : List UInt8) (ep : Nat) : ∀ k j, ∃ more, (itS l ep (k + j)).1 = (itS l ep k).1 ++ more
  | k, 0 => ⟨[], by simp⟩
  | k, j + 1 => by
    obtain ⟨m, hm⟩ := itS_pre l ep k j
    by_cases h : readOk (l.drop (itS l ep (k + j)).2) ep (itS l ep (k + j)).1.length
    · refine ⟨m ++ [recL (l.drop (itS l ep (k + j)).2)], ?_⟩
      show (stepS l ep (itS l ep (k + j))).1 = _
      rw [stepS_yes h]
      show (itS l ep (k + j)).1 ++ _ = _
      rw [hm, List.append_assoc]
    · refine ⟨m, ?_⟩
      show (stepS l ep (itS l ep (k + j))).1 = _
      rw [stepS_no h]; exact hm
theorem At.pre {l : List UInt8} {ep k : Nat} {rs : List (List UInt8)} {a : Nat} (h : At l ep k rs a) : ∃ more, (scanS l ep).1 = rs ++ more := by
  have h1 := h.low
  have h2 := h.top
  obtain ⟨m, hm⟩ := itS_pre l ep k (l.length + 1 - k)
  refine ⟨m, ?_⟩
  unfold scanS
  rw [show l.length + 1 = k + (l.length + 1 - k) by omega, hm, h.it]
end Go.Proofs.YtddjgncdjdjgeaaGreat
namespace Go.Proofs.YtddjgncdjdjgeaaGreat
open Go.RowKit

def St.new (n : Nat) : St := ⟨zeros (n * 64), zeros (n * 64), falses n⟩
def St.of (l : List UInt8) : St := ⟨l, l, falses (l.length / 64)⟩

section
variable {w : World} {p bL bS bW : Nat} {s : St}
theorem new_int (n : Int) (h1 : 1 ≤ n) (h2 : n ≤ 160) :
    Calls Tryz.prog 41 #[.int .i64 n] w fun e w' => ∃ p bL bS bW, e = .returned (.pointer (some ⟨p, 0, none⟩)) ∧ DskS w' p bL bS bW (St.new n.toNat) ∧
      w.heap.size ≤ p ∧ w.heap.size ≤ bL ∧ w.heap.size ≤ bS ∧ w.heap.size ≤ bW ∧ Chg [] w w' := by
  obtain ⟨k, rfl⟩ := Int.eq_ofNat_of_zero_le (show 0 ≤ n by omega)
  rw [Int.toNat_natCast]
  exact new_yes k (by omega) (by omega)
end


end Go.Proofs.YtddjgncdjdjgeaaGreat
namespace Go.Proofs.YtddjgncdjdjgeaaGreat
open Go.RowKit
theorem gd_new (n : Nat) : Gd (St.new n) := by
  unfold Gd St.new
  simp only
  rw [zeros_len, show (falses n).length = n by simp [falses]]; omega
theorem newV (n : Nat) : (St.new n).V.length = n := by simp [St.new, falses]
theorem secV_new (n j : Nat) (hj : j < n) : secV (St.new n) j = zeros 64 := by
  unfold secV
  rw [newV]
  show sectL (zeros (n * 64)) n j = _
  rw [sect_zeros n (n * 64) j (by omega), if_pos hj]
theorem best_new (n : Nat) (h : 2 ≤ n) : bestK (St.new n).V.length (St.new n).S 2 = RV.zero := by
  rw [bestK_two, secV_new n 0 (by omega), secV_new n 1 (by omega), bestStep_no zeros_noroot, bestStep_no zeros_noroot]
end Go.Proofs.YtddjgncdjdjgeaaGreat
namespace Go.Proofs.YtddjgncdjdjgeaaGreat
open Go.RowKit
theorem Eqn.write {s : St} (h : Eqn s) {q : Nat} {x : List UInt8} (hq : q < s.V.length) (hx : x.length = 64) : Eqn (s.write q x) := by
  have h1 := h.lenS
  have h2 := h.lenL
  have e : (s.write q x).S.length = s.S.length := splice_len _ _ _ (by rw [hx]; omega)
  exact ⟨by rw [e, write_len]; exact h1, by rw [e]; exact h2⟩
theorem Eqn.wipeN {s : St} (h : Eqn s) (a : Nat) : ∀ k, a + k ≤ s.V.length → Eqn (wipeN s a k)
  | 0, _ => h
  | k + 1, hk => (Eqn.wipeN h a k (by omega)).write (by rw [wipeN_len]; omega) zeros64_len
theorem Eqn.putR {s : St} (h : Eqn s) (L P E : Nat) (h2 : 2 ≤ s.V.length) : Eqn (putR s L P E) := (h.write (by omega) (rootL_len _ _ _)).flA
theorem Eqn.fmt {s : St} (h : Eqn s) (L P : Nat) (h2 : 2 + L + P ≤ s.V.length) : Eqn (fmt s L P) := by
  unfold Go.Proofs.YtddjgncdjdjgeaaGreat.fmt
  exact Eqn.putR (((h.wipeN 0 2 (by omega)).flA.wipeN 2 (L + P) (by rw [flA_len, wipeN_len]; omega)).flA) L P 1 (by rw [flA_len, wipeN_len, flA_len, wipeN_len]; omega)
theorem Eqn.homeN {s : St} (h : Eqn s) {x : SV} (hr : rightR x.L x.P x.E s.V.length = true) (hp : x.pages.length = x.P) (h64 : ∀ l ∈ x.pages, l.length = 64) : ∀ k, k ≤ x.P → Eqn (homeN s x k)
  | 0, _ => h
  | k + 1, hk => by
    have h1 := rightR_true.1 hr
    have ih := Eqn.homeN h hr hp h64 k (by omega)
    show Eqn (if _ then _ else _)
    split
    · refine ih.write (by rw [homeN_len]; omega) ?_
      rw [List.getD_eq_getElem?_getD, List.getElem?_eq_getElem (by omega)]
      exact h64 _ (List.getElem_mem _)
    · exact ih
theorem eqn_new (n : Nat) : Eqn (St.new n) := ⟨gd_new n, by show (zeros (n * 64)).length = (zeros (n * 64)).length; rfl⟩
/-- .. with the records that last: the bytes of the log ahead of u. -/
structure KeptW (s : St) (x : SV) (ms : List (List ChV)) (u : Nat) : Prop where
  z : KeptZ s x ms
  eq : Eqn s
  alk : Alk s x.L u
  wtl : Wtl s x.L
  hu : u ≤ x.used
theorem KeptW.flA {s : St} {x : SV} {ms : List (List ChV)} {u : Nat} (h : KeptW s x ms u) : KeptW (flA s) x ms x.used := ⟨h.z.flA, h.eq.flA, alk_flA h.eq _ _, wtl_flA _ _, Nat.le_refl _⟩
theorem KeptW.com {s : St} {x : SV} {ms : List (List ChV)} {u : Nat} {m : List ChV} (h : KeptW s x ms u) (hm : InL x.P m) (hf : x.used + (18 + 66 * m.length) ≤ x.L * 64) : KeptW (comS s x m) (comV x m) (ms ++ [m]) u := by
  have h1 := rightR_true.1 h.z.k.rt
  have hl : (comL x m).length = 18 + 66 * m.length := by unfold comL; rw [frameL_len, back_len hm.1]; omega
  have h2 := h.eq.lenS
  have h3 := h.hu
  have hb : 128 + x.used + (comL x m).length ≤ s.S.length := by omega
  exact ⟨h.z.com hm hf, h.eq.apS hb, h.alk.apS hb (by omega) (by omega), h.wtl.apS (by omega) (by omega), by show u ≤ x.used + (18 + 66 * m.length); omega⟩
/-- A disk that was formatted, and opened. -/
theorem keptw_new {s : St} (h : Eqn s) (L P : Nat) (hr : rightR L P 1 s.V.length = true) : KeptW (ckS (fmt s L P) (openV (fmt s L P) ⟨L, P, 1⟩)) (ckV (openV (fmt s L P) ⟨L, P, 1⟩)) [] 0 := by
  have h1 := rightR_true.1 hr
  have hz := kept_new h.lenS L P hr
  obtain ⟨hk, _⟩ := kept_fmt h.lenS L P hr
  obtain ⟨o1, o2, o3, o4, o5⟩ := hk.open_
  obtain ⟨l1, l2, l3⟩ := hk.lens
  have o3' : (openV (fmt s L P) ⟨L, P, 1⟩).L = L := o3
  have o4' : (openV (fmt s L P) ⟨L, P, 1⟩).P = P := o4
  have o5' : (openV (fmt s L P) ⟨L, P, 1⟩).E = 1 := o5
  have hf := (h.fmt L P (by omega)).flA
  have hh := hf.homeN (x := openV (fmt s L P) ⟨L, P, 1⟩) (by rw [o3', o4', o5', flA_len, fmt_len]; exact hr) (by rw [o4']; exact (congrArg List.length o1).trans l1) (fun l hl => l3 l (by rw [← o1]; exact hl)) _ (Nat.le_refl _)
  have hw := hh.flA.write (q := ((openV (fmt s L P) ⟨L, P, 1⟩).E + 1) % 2) (x := rootL (openV (fmt s L P) ⟨L, P, 1⟩).L (openV (fmt s L P) ⟨L, P, 1⟩).P ((openV (fmt s L P) ⟨L, P, 1⟩).E + 1)) (by rw [flA_len, homeN_len, flA_len, fmt_len]; omega) (rootL_len _ _ _)
  exact ⟨hz, hw.flA, alk_flA hw _ _, wtl_flA _ _, Nat.zero_le _⟩
end Go.Proofs.YtddjgncdjdjgeaaGreat
namespace Go.Proofs.YtddjgncdjdjgeaaGreat
open Go.RowKit
def Sa (s : St) : Prop := Sane s s.V.length
theorem Sa.write {s : St} (h : Sa s) {q : Nat} {x : List UInt8} (hq : q < s.V.length) (hx : x.length = 64) : Sa (s.write q x) := by
  unfold Sa
  rw [write_len]
  exact Sane.write h hq hx
theorem Sa.flA {s : St} (h : Sa s) : Sa (flA s) := by
  unfold Sa Go.Proofs.YtddjgncdjdjgeaaGreat.flA
  rw [flush_len, flush_all rfl h.ll h.ls]
  exact ⟨falses_len _, h.ls, h.ls, fun _ _ _ _ _ => rfl⟩
theorem flA_is {s : St} (h : Sa s) : flA s = ⟨s.S, s.S, falses s.V.length⟩ := flush_all rfl h.ll h.ls
theorem Sa.wipeN {s : St} (h : Sa s) (a : Nat) : ∀ k, a + k ≤ s.V.length → Sa (wipeN s a k)
  | 0, _ => h
  | k + 1, hk => (Sa.wipeN h a k (by omega)).write (by rw [wipeN_len]; omega) zeros64_len
theorem Sa.putR {s : St} (h : Sa s) (L P E : Nat) (h2 : 2 ≤ s.V.length) : Sa (putR s L P E) := (h.write (by omega) (rootL_len _ _ _)).flA
theorem Sa.fmt {s : St} (h : Sa s) (L P : Nat) (h2 : 2 + L + P ≤ s.V.length) : Sa (fmt s L P) := by
  unfold Go.Proofs.YtddjgncdjdjgeaaGreat.fmt
  exact Sa.putR (((h.wipeN 0 2 (by omega)).flA.wipeN 2 (L + P) (by rw [flA_len, wipeN_len]; omega)).flA) L P 1 (by rw [flA_len, wipeN_len, flA_len, wipeN_len]; omega)
theorem Sa.homeN {s : St} (h : Sa s) {x : SV} (hr : rightR x.L x.P x.E s.V.length = true) (hp : x.pages.length = x.P) (h64 : ∀ l ∈ x.pages, l.length = 64) : ∀ k, k ≤ x.P → Sa (homeN s x k)
  | 0, _ => h
  | k + 1, hk => by
    have h1 := rightR_true.1 hr
    have ih := Sa.homeN h hr hp h64 k (by omega)
    show Sa (if _ then _ else _)
    split
    · refine ih.write (by rw [homeN_len]; omega) ?_
      rw [List.getD_eq_getElem?_getD, List.getElem?_eq_getElem (by omega)]
      exact h64 _ (List.getElem_mem _)
    · exact ih
theorem Sa.apS {s : St} (h : Sa s) {a : Nat} {b : List UInt8} (hb : a + b.length ≤ s.S.length) : Sa (apS s a b) := by
  unfold Sa
  rw [apS_V]
  refine ⟨apS_V s a b, h.ll, by show (splice s.S a b).length = _; rw [splice_len _ _ _ hb]; exact h.ls, fun j hj hv i hi => ?_⟩
  show s.L[_]? = (splice s.S a b)[_]?
  have hv' : ((List.range s.V.length).map fun j => s.V.getD j false || tch a b.length j)[j]? = some false := hv
  rw [List.getElem?_map, List.getElem?_range hj] at hv'
  simp only [Option.map_some, Option.some.injEq, Bool.or_eq_false_iff] at hv'
  have h2 : ¬ (0 < b.length ∧ j * 64 < a + b.length ∧ a < (j + 1) * 64) := by
    have := hv'.2
    unfold tch at this
    exact of_decide_eq_false this
  rw [splice_get _ _ _ _ hb, if_neg (by omega)]
  refine h.eq j hj ?_ i hi
  have := hv'.1
  rw [List.getD_eq_getElem?_getD, List.getElem?_eq_getElem hj] at this
  rw [List.getElem?_eq_getElem hj]
  exact congrArg some this
theorem Sa.ckS {s : St} (h : Sa s) {x : SV} (hr : rightR x.L x.P x.E s.V.length = true) (hp : x.pages.length = x.P) (h64 : ∀ l ∈ x.pages, l.length = 64) : Sa (ckS s x) := by
  have h1 := rightR_true.1 hr
  exact ((h.flA.homeN (by rw [flA_len]; exact hr) hp h64 x.P (Nat.le_refl _)).flA).putR _ _ _ (by rw [flA_len, homeN_len, flA_len]; omega)
theorem sa_new (n : Nat) : Sa (St.new n) := by
  unfold Sa
  rw [newV]
  exact ⟨newV n, by show (zeros (n * 64)).length = _; simp [zeros]; omega, by show (zeros (n * 64)).length = _; simp [zeros]; omega, fun _ _ _ _ _ => rfl⟩
/-- Behind a crash. -/
theorem Sa.crash {s : St} (h : Sa s) (cuts : List Int) : ∃ l, l.length = 64 * s.V.length ∧ s.crash (wl s.V s.V.length) cuts (wl s.V s.V.length).length = ⟨l, l, falses s.V.length⟩ := by
  obtain ⟨e2, e3⟩ := crash_same h cuts
  have e4 := (crash_quiet h cuts).1.ls
  generalize s.crash (wl s.V s.V.length) cuts (wl s.V s.V.length).length = t at e2 e3 e4
  obtain ⟨tL, tS, tV⟩ := t
  simp only at e2 e3 e4
  exact ⟨tS, e4, by rw [e2, e3]⟩
/-- .. kept, and sane. -/
structure KeptS (s : St) (x : SV) (ms : List (List ChV)) (u : Nat) : Prop where
  k : KeptW s x ms u
  sa : Sa s
theorem KeptS.flA {s : St} {x : SV} {ms : List (List ChV)} {u : Nat} (h : KeptS s x ms u) : KeptS (flA s) x ms x.used := ⟨h.k.flA, h.sa.flA⟩
theorem KeptS.com {s : St} {x : SV} {ms : List (List ChV)} {u : Nat} {m : List ChV} (h : KeptS s x ms u) (hm : InL x.P m) (hf : x.used + (18 + 66 * m.length) ≤ x.L * 64) : KeptS (comS s x m) (comV x m) (ms ++ [m]) u := by
  have h1 := rightR_true.1 h.k.z.k.rt
  have hl : (comL x m).length = 18 + 66 * m.length := by unfold comL; rw [frameL_len, back_len hm.1]; omega
  have h2 := h.k.eq.lenS
  exact ⟨h.k.com hm hf, h.sa.apS (by omega)⟩
theorem keptS_new {s : St} (h : Eqn s) (hs : Sa s) (L P : Nat) (hr : rightR L P 1 s.V.length = true) : KeptS (ckS (fmt s L P) (openV (fmt s L P) ⟨L, P, 1⟩)) (ckV (openV (fmt s L P) ⟨L, P, 1⟩)) [] 0 := by
  have h1 := rightR_true.1 hr
  obtain ⟨hk, _⟩ := kept_fmt h.lenS L P hr
  obtain ⟨o1, o2, o3, o4, o5⟩ := hk.open_
  obtain ⟨l1, l2, l3⟩ := hk.lens
  have o3' : (openV (fmt s L P) ⟨L, P, 1⟩).L = L := o3
  have o4' : (openV (fmt s L P) ⟨L, P, 1⟩).P = P := o4
  have o5' : (openV (fmt s L P) ⟨L, P, 1⟩).E = 1 := o5
  exact ⟨keptw_new h L P hr, (hs.fmt L P (by omega)).ckS (by rw [o3', o4', o5', fmt_len]; exact hr) (by rw [o4']; exact (congrArg List.length o1).trans l1) (fun l hl => l3 l (by rw [← o1]; exact hl))⟩
end Go.Proofs.YtddjgncdjdjgeaaGreat
namespace Go.Proofs.YtddjgncdjdjgeaaGreat
open Go.RowKit
theorem Fr.lists {B : Nat} {w : World} {g n : Nat} {us : List Value} {ps : List (List UInt8)} (h : Fr B w g n us ps n) (h64 : ∀ l ∈ ps, l.length ≤ 1000) : Lists w us ps := by
  refine ⟨by rw [h.len, h.lenP], fun i v l hv hl => ?_⟩
  have hi : i < n := by rw [← h.lenP]; exact (List.getElem?_eq_some_iff.1 hl).1
  obtain ⟨x, h1, h2, _⟩ := h.at_ i hi l hl
  rw [hv] at h1
  injection h1 with h1
  exact ⟨_, _, _, h1, Bs.of_all h2 (by have := h64 l (List.mem_of_getElem? hl); omega)⟩
end Go.Proofs.YtddjgncdjdjgeaaGreat
