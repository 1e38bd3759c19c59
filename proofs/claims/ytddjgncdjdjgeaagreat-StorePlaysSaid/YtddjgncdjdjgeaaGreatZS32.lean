/-
  S: Sto11, Sto12, Sto13, Sto14, StoKnown.
-/
import Derived.Test.YtddjgncdjdjgeaaGreatZS5
import Derived.Test.YtddjgncdjdjgeaaGreatZS8
import Derived.Test.YtddjgncdjdjgeaaGreatZS11
import Derived.Test.YtddjgncdjdjgeaaGreatZS31
import Derived.Laws.Entries
namespace Go.Proofs.YtddjgncdjdjgeaaGreat
open Go.RowKit
theorem getD_set_ne {α : Type} (l : List α) (n i : Nat) (a d : α) (h : n ≠ i) : (l.set n a).getD i d = l.getD i d := by
  rw [List.getD_eq_getElem?_getD, List.getD_eq_getElem?_getD, List.getElem?_set_ne h]
theorem getD_set_eq {α : Type} (l : List α) (n : Nat) (a d : α) (h : n < l.length) : (l.set n a).getD n d = a := by
  rw [List.getD_eq_getElem?_getD, List.getElem?_set_self h]; rfl
theorem pin_list (base : List (List UInt8)) : ∀ (m : List ChV) (ps : List (List UInt8)) (N : List Bool), N.length = ps.length → (∀ i, N.getD i false = false → ps.getD i [] = base.getD i []) → ∀ i, (nameL N m).getD i false = false → (applyL ps m).getD i [] = base.getD i []
  | [], _, _, _, h, i, hi => h i hi
  | a :: m, ps, N, hl, h, i, hi => by
    show (applyL (applyC ps a) m).getD i [] = _
    refine pin_list base m (applyC ps a) (N.set a.page.toNat true) (by rw [applyC_len, List.length_set, hl]) (fun j hj => ?_) i hi
    by_cases e : a.page.toNat = j
    · subst e
      rcases Nat.lt_or_ge a.page.toNat N.length with hb | hb
      · rw [getD_set_eq N _ true false hb] at hj; cases hj
      · rw [List.set_eq_of_length_le hb] at hj
        have h1 := h _ hj
        unfold applyC
        split
        · rw [List.set_eq_of_length_le (by omega)]; exact h1
        · exact h1
    · rw [getD_set_ne N _ j true false e] at hj
      have h1 := h _ hj
      unfold applyC
      split
      · rw [getD_set_ne ps _ j a.B [] e]; exact h1
      · exact h1
theorem pin_fold (base : List (List UInt8)) : ∀ (ms : List (List ChV)) (x : SV), x.named.length = x.pages.length → (∀ i, x.named.getD i false = false → x.pages.getD i [] = base.getD i []) → ∀ i, (ms.foldl turnV x).named.getD i false = false → (ms.foldl turnV x).pages.getD i [] = base.getD i []
  | [], _, _, h, i, hi => h i hi
  | m :: ms, x, hl, h, i, hi => by
    refine pin_fold base ms (turnV x m) ?_ (fun j hj => pin_list base m x.pages x.named hl h j hj) i hi
    show (nameL x.named m).length = (applyL x.pages m).length
    rw [nameL_len, applyL_len, hl]
theorem fold_lens : ∀ (ms : List (List ChV)) (x : SV), (ms.foldl turnV x).pages.length = x.pages.length ∧ (ms.foldl turnV x).named.length = x.named.length
  | [], _ => ⟨rfl, rfl⟩
  | m :: ms, x => by
    obtain ⟨h1, h2⟩ := fold_lens ms (turnV x m)
    refine ⟨h1.trans ?_, h2.trans ?_⟩
    · show (applyL x.pages m).length = _; rw [applyL_len]
    · show (nameL x.named m).length = _; rw [nameL_len]
theorem fold_64 : ∀ (ms : List (List ChV)) (x : SV), (∀ l ∈ x.pages, l.length = 64) → (∀ m ∈ ms, ∀ a ∈ m, a.B.length = 64) → ∀ l ∈ (ms.foldl turnV x).pages, l.length = 64
  | [], _, h, _ => h
  | m :: ms, x, h, hm => fold_64 ms (turnV x m) (applyL_64 m x.pages h (hm m List.mem_cons_self)) (fun y hy => hm y (List.mem_cons_of_mem _ hy))
/-- The records that are found, as far as they turn pages. -/
def RecN (s : St) (L P E : Nat) (ms : List (List ChV)) : Prop := ∀ x, (recT s ⟨L, P, E⟩).foldl turnV x = ms.foldl turnV x
theorem recT_none {s : St} {L P E : Nat} (hr : rightR L P E s.V.length = true) (h : ¬ readOk (logB s L) E 0) : RecN s L P E [] := fun x => by
  unfold recT recsS
  show (recF (P : Int) (scanS (logL s L P E) E).1).1.foldl turnV x = _
  have h1 := (At.zero (logB s L) E).last h
  rw [show logL s L P E = logB s L by unfold logL; rw [if_pos hr, Int.toNat_natCast], h1]
  rfl
theorem readOk_ep {l : List UInt8} {E E' q q' : Nat} (h : readOk l E q) (hne : E' ≠ E) : ¬ readOk l E' q' := fun h2 => hne (by have := h.2.1; have := h2.2.1; omega)
theorem LogZ.other {s : St} {L P E : Nat} {ms : List (List ChV)} {u : Nat} (h : LogZ s L P E ms u) (hE : E < 4294967296) {E' : Nat} (hE' : 1 ≤ E') (hne : E' ≠ E) : ¬ readOk (logB s L) E' 0 := by
  rw [h.log]
  have hi := h.ins
  cases ms with
  | nil => exact zeros_noF hE'
  | cons m ms =>
    have hm := hi m List.mem_cons_self
    show ¬ readOk ((frameL E 0 (bytesD m) ++ frsL E 1 ms) ++ _) E' 0
    rw [List.append_assoc]
    exact readOk_ep (frame_ok E 0 (bytesD m) _ hE (by omega) (by rw [back_len hm.1]; have := hm.2.2; omega)) hne
theorem pagesL_at (s : St) (L n i : Nat) (hi : i < n) : (pagesL s L n).getD i [] = secV s (2 + L + i) := by
  unfold pagesL secV
  rw [List.getD_eq_getElem?_getD, List.getElem?_map, List.getElem?_range hi, Int.toNat_natCast]; rfl
theorem pagesL_64 {s : St} (h : Gd s) (L n : Nat) (hn : 2 + L + n ≤ s.V.length) : ∀ l ∈ pagesL s L n, l.length = 64 := fun l hl => by
  obtain ⟨i, hi, rfl⟩ := List.mem_map.1 hl
  have := List.mem_range.1 hi
  exact sectL_len h (by rw [Int.toNat_natCast]; omega)
theorem ext_getD {a b : List (List UInt8)} (hl : a.length = b.length) (h : ∀ i, i < a.length → a.getD i [] = b.getD i []) : a = b := by
  apply List.ext_getElem hl
  intro i h1 h2
  have := h i h1
  rw [List.getD_eq_getElem?_getD, List.getD_eq_getElem?_getD, List.getElem?_eq_getElem h1, List.getElem?_eq_getElem h2] at this
  exact this
/-- A store and its disk: what was written tells of the store. -/
structure Kept (s : St) (x : SV) (ms : List (List ChV)) : Prop where
  gd : Gd s
  rt : rightR x.L x.P x.E s.V.length = true
  ep : x.E < 4294967296
  best : bestK s.V.length s.S 2 = ⟨x.L, x.P, x.E⟩
  recs : RecN s x.L x.P x.E ms
  ins : ∀ m ∈ ms, InL x.P m
  pages : x.pages = (ms.foldl turnV (homeV s ⟨x.L, x.P, x.E⟩)).pages
  named : x.named = (ms.foldl turnV (homeV s ⟨x.L, x.P, x.E⟩)).named
section
variable {s : St} {x : SV} {ms : List (List ChV)}
theorem Kept.lens (h : Kept s x ms) : x.pages.length = x.P ∧ x.named.length = x.P ∧ (∀ l ∈ x.pages, l.length = 64) := by
  have h1 := rightR_true.1 h.rt
  obtain ⟨f1, f2⟩ := fold_lens ms (homeV s ⟨x.L, x.P, x.E⟩)
  refine ⟨by rw [h.pages, f1]; exact pagesL_len _ _ _, by rw [h.named, f2]; exact List.length_replicate .., ?_⟩
  rw [h.pages]
  exact fold_64 ms _ (pagesL_64 h.gd x.L x.P (by omega)) (fun m hm a ha => ((h.ins m hm).1 a ha).2)
/-- What Open makes of it. -/
theorem Kept.open_ (h : Kept s x ms) : (openV s ⟨x.L, x.P, x.E⟩).pages = x.pages ∧ (openV s ⟨x.L, x.P, x.E⟩).named = x.named ∧ (openV s ⟨x.L, x.P, x.E⟩).L = x.L ∧ (openV s ⟨x.L, x.P, x.E⟩).P = x.P ∧ (openV s ⟨x.L, x.P, x.E⟩).E = x.E := by
  have e : openV s ⟨x.L, x.P, x.E⟩ = ms.foldl turnV (homeV s ⟨x.L, x.P, x.E⟩) := h.recs _
  obtain ⟨a, b, c, _⟩ := turn_same ms (homeV s ⟨x.L, x.P, x.E⟩)
  rw [e]
  exact ⟨h.pages.symm, h.named.symm, a, b, c⟩
/-- The disk behind a Checkpoint has the pages at home. -/
theorem Kept.ck (h : Kept s x ms) (y : SV) (hy : y.pages = x.pages ∧ y.named = x.named ∧ y.L = x.L ∧ y.P = x.P ∧ y.E = x.E) (hE : x.E + 1 < 4294967296) (hno : ¬ readOk (logB s x.L) (x.E + 1) 0) : Kept (ckS s y) (ckV y) [] := by
  obtain ⟨y1, y2, y3, y4, y5⟩ := hy
  obtain ⟨l1, l2, l3⟩ := h.lens
  have h1 := rightR_true.1 h.rt
  have hr : rightR y.L y.P y.E s.V.length = true := by rw [y3, y4, y5]; exact h.rt
  have hp : y.pages.length = y.P := by rw [y1, y4]; exact l1
  have h64 : ∀ l ∈ y.pages, l.length = 64 := by rw [y1]; exact l3
  have hr' : rightR y.L y.P ((y.E + 1 : Nat) : Int) (ckS s y).V.length = true := by rw [ckS_len]; exact rightR_true.2 (by rw [y3, y4, y5]; omega)
  have hb : bestK (ckS s y).V.length (ckS s y).S 2 = ⟨y.L, y.P, y.E + 1⟩ := best_ck h.gd hr hp h64 (by rw [h.best, y5]; exact Nat.le_refl _) (by omega)
  have hpg : ∀ i, i < y.P → secV (ckS s y) (2 + y.L + i) = y.pages.getD i [] := fun i hi => by
    rw [secV_ckS h.gd hr hp h64, if_neg (by omega)]
    by_cases hn : y.named.getD i false = true
    · rw [if_pos ⟨by omega, by omega, by rw [show 2 + y.L + i - (2 + y.L) = i by omega]; exact hn⟩, show 2 + y.L + i - (2 + y.L) = i by omega]
    · rw [if_neg (fun h3 => hn (by have := h3.2.2; rwa [show 2 + y.L + i - (2 + y.L) = i by omega] at this))]
      have hn' : x.named.getD i false = false := by rw [← y2]; simpa using hn
      rw [h.named] at hn'
      have h2 := pin_fold (pagesL s x.L x.P) ms (homeV s ⟨x.L, x.P, x.E⟩) (by show (List.replicate x.P false).length = (pagesL s x.L x.P).length; rw [List.length_replicate, pagesL_len]) (fun j _ => rfl) i hn'
      rw [y1, h.pages, h2, pagesL_at s x.L x.P i (by omega), y3]
  refine { gd := ckS_good h.gd hr hp h64, rt := hr', ep := by show y.E + 1 < _; omega, best := hb, recs := ?_, ins := fun m hm => (by cases hm), pages := ?_, named := rfl }
  · refine recT_none hr' ?_
    show ¬ readOk (logB (ckS s y) y.L) (y.E + 1) 0
    have e : logB (ckS s y) y.L = logB s y.L := logB_same (ckS_len s y) (by omega) (fun j hj1 hj2 => by rw [secV_ckS h.gd hr hp h64, if_neg (by omega), if_neg (by omega)]) y.L (Nat.le_refl _)
    rw [e, y3, y5]; exact hno
  · show y.pages = pagesL (ckS s y) y.L y.P
    refine ext_getD (by rw [hp, pagesL_len]) (fun i hi => ?_)
    rw [pagesL_at _ _ _ _ (by omega), hpg i (by omega)]
theorem Kept.flA (h : Kept s x ms) : Kept (flA s) x ms := by
  have e : homeV (Go.Proofs.YtddjgncdjdjgeaaGreat.flA s) ⟨x.L, x.P, x.E⟩ = homeV s ⟨x.L, x.P, x.E⟩ := by
    unfold homeV pagesL
    rw [flA_S, flA_len]
  refine { gd := h.gd.flA, rt := by rw [flA_len]; exact h.rt, ep := h.ep, best := by rw [flA_S, flA_len]; exact h.best, recs := ?_, ins := h.ins, pages := by rw [e]; exact h.pages, named := by rw [e]; exact h.named }
  have e2 : recT (Go.Proofs.YtddjgncdjdjgeaaGreat.flA s) ⟨x.L, x.P, x.E⟩ = recT s ⟨x.L, x.P, x.E⟩ := by
    unfold recT recsS logL logB
    rw [flA_S, flA_len]
  intro y
  rw [e2]; exact h.recs y
end
end Go.Proofs.YtddjgncdjdjgeaaGreat
namespace Go.Proofs.YtddjgncdjdjgeaaGreat
open Go.RowKit
theorem secV_apS {s : St} {a : Nat} {b : List UInt8} (h : a + b.length ≤ s.S.length) (q : Nat) (hq : (q + 1) * 64 ≤ a ∨ a + b.length ≤ q * 64) : secV (apS s a b) q = secV s q := by
  unfold secV
  rw [apS_V]
  show sectL (splice s.S a b) _ q = _
  have e : splice s.S a b = s.S.take a ++ (b ++ s.S.drop (a + b.length)) := by unfold splice; simp
  have l1 : (s.S.take a).length = a := by rw [List.length_take]; omega
  unfold sectL
  split
  · rw [e]
    rcases hq with hq | hq
    · rw [List.drop_append_of_le_length (by omega), List.take_append_of_le_length (by rw [List.length_drop]; omega), List.drop_take, List.take_take, Nat.min_eq_left (by omega)]
    · rw [List.drop_append, List.drop_of_length_le (by omega), List.nil_append, l1, List.drop_append, List.drop_of_length_le (by omega), List.nil_append, List.drop_drop, show a + b.length + (q * 64 - a - b.length) = q * 64 by omega]
  · rfl
theorem Gd.apS {s : St} (h : Gd s) {a : Nat} {b : List UInt8} (hb : a + b.length ≤ s.S.length) : Gd (apS s a b) := by
  unfold Gd
  rw [apS_V]
  show (splice s.S a b).length = _
  rw [splice_len _ _ _ hb]; exact h
/-- .. whose log has no more than its records. -/
structure KeptZ (s : St) (x : SV) (ms : List (List ChV)) : Prop where
  k : Kept s x ms
  z : LogZ s x.L x.P x.E ms x.used
  q : x.seq = ms.length
theorem fold_snoc (ms : List (List ChV)) (m : List ChV) (y : SV) : (ms ++ [m]).foldl turnV y = turnV (ms.foldl turnV y) m := by rw [List.foldl_append]; rfl
theorem KeptZ.com {s : St} {x : SV} {ms : List (List ChV)} {m : List ChV} (h : KeptZ s x ms) (hm : InL x.P m) (hf : x.used + (18 + 66 * m.length) ≤ x.L * 64) : KeptZ (comS s x m) (comV x m) (ms ++ [m]) := by
  have h1 := rightR_true.1 h.k.rt
  have hl : (comL x m).length = 18 + 66 * m.length := by unfold comL; rw [frameL_len, back_len hm.1]; omega
  have hgd := h.k.gd
  have hb : 128 + x.used + (comL x m).length ≤ s.S.length := by unfold Gd at hgd; omega
  have hV : (comS s x m).V.length = s.V.length := apS_V _ _ _
  have hs : ∀ q, q < 2 ∨ 2 + x.L ≤ q → secV (comS s x m) q = secV s q := fun q hq => secV_apS hb q (by rcases hq with hq | hq <;> omega)
  have hz := h.z.com hgd (by omega) h.q hm hf
  have hrt : rightR x.L x.P x.E (comS s x m).V.length = true := by rw [hV]; exact h.k.rt
  have hpg : pagesL (comS s x m) x.L x.P = pagesL s x.L x.P := ext_getD (by rw [pagesL_len, pagesL_len]) (fun i hi => by
    rw [pagesL_len] at hi
    rw [pagesL_at _ _ _ _ hi, pagesL_at _ _ _ _ hi, hs _ (by omega)])
  have hhv : homeV (comS s x m) ⟨x.L, x.P, x.E⟩ = homeV s ⟨x.L, x.P, x.E⟩ := by unfold homeV; simp only; rw [hpg]
  have hins : ∀ y ∈ ms ++ [m], InL x.P y := fun y hy => by
    rcases List.mem_append.1 hy with hy | hy
    · exact h.k.ins y hy
    · simp only [List.mem_cons, List.not_mem_nil, or_false] at hy
      subst hy; exact hm
  refine ⟨{ gd := hgd.apS hb, rt := hrt, ep := h.k.ep, best := ?_, recs := fun y => hz.recT hrt h.k.ep y, ins := hins, pages := ?_, named := ?_ }, hz, by show x.seq + 1 = _; rw [h.q, List.length_append]; rfl⟩
  · rw [bestK_two, hV, hs 0 (by omega), hs 1 (by omega), ← bestK_two]
    exact h.k.best
  · show applyL x.pages m = ((ms ++ [m]).foldl turnV (homeV (comS s x m) ⟨x.L, x.P, x.E⟩)).pages
    rw [fold_snoc, hhv, h.k.pages]; rfl
  · show nameL x.named m = ((ms ++ [m]).foldl turnV (homeV (comS s x m) ⟨x.L, x.P, x.E⟩)).named
    rw [fold_snoc, hhv, h.k.named]; rfl
theorem KeptZ.flA {s : St} {x : SV} {ms : List (List ChV)} (h : KeptZ s x ms) : KeptZ (flA s) x ms := ⟨h.k.flA, h.z.flA, h.q⟩
/-- A disk that was formatted, and opened. -/
theorem kept_fmt {s : St} (h : Gd s) (L P : Nat) (hr : rightR L P 1 s.V.length = true) : Kept (fmt s L P) (homeV (fmt s L P) ⟨L, P, 1⟩) [] ∧ LogZ (fmt s L P) L P 1 [] 0 := by
  have h1 := rightR_true.1 hr
  have hz : LogZ (fmt s L P) L P 1 [] 0 := LogZ.none (by rw [fmt_len]; omega) (fun j hj1 hj2 => by rw [secV_fmt h L P (by omega) j (by omega), if_neg (by omega)])
  have hr' : rightR L P (1 : Nat) (fmt s L P).V.length = true := by rw [fmt_len]; exact hr
  refine ⟨{ gd := h.fmt L P (by omega), rt := hr', ep := by show 1 < _; omega, best := best_fmt h L P hr, recs := fun y => hz.recT hr' (by omega) y, ins := fun m hm => (by cases hm), pages := rfl, named := rfl }, hz⟩
theorem kept_new {s : St} (h : Gd s) (L P : Nat) (hr : rightR L P 1 s.V.length = true) : KeptZ (ckS (fmt s L P) (openV (fmt s L P) ⟨L, P, 1⟩)) (ckV (openV (fmt s L P) ⟨L, P, 1⟩)) [] := by
  have h1 := rightR_true.1 hr
  obtain ⟨hk, hz⟩ := kept_fmt h L P hr
  have ho := hk.open_
  have hlog := hz.log
  have hc := hk.ck _ ho (by show 1 + 1 < _; omega) (by show ¬ readOk (logB (fmt s L P) L) 2 0; rw [hlog]; exact zeros_noF (by omega))
  obtain ⟨o1, o2, o3, o4, o5⟩ := ho
  obtain ⟨l1, l2, l3⟩ := hk.lens
  have o3' : (openV (fmt s L P) ⟨L, P, 1⟩).L = L := o3
  have o4' : (openV (fmt s L P) ⟨L, P, 1⟩).P = P := o4
  have o5' : (openV (fmt s L P) ⟨L, P, 1⟩).E = 1 := o5
  refine ⟨hc, ?_, rfl⟩
  refine LogZ.none (by rw [ckS_len, fmt_len]; show 2 + (openV (fmt s L P) ⟨L, P, 1⟩).L ≤ _; rw [o3']; omega) (fun j hj1 hj2 => ?_)
  have hj2' : j < 2 + L := by rw [← o3']; exact hj2
  have hgf := hk.gd
  rw [secV_ckS hgf (by rw [o3', o4', o5', fmt_len]; exact hr) (by rw [o4']; exact (congrArg List.length o1).trans l1) (fun l hl => l3 l (by rw [← o1]; exact hl)), if_neg (by omega), if_neg (by rw [o3']; omega), secV_fmt h L P (by omega) j (by omega), if_neg (by omega)]
/-- Behind a Flush nothing waits. -/
theorem flush_false (s : St) : ∀ i j, j < i → (s.flush i).V.getD j false = false
  | i + 1, j, hj => by
    show ((s.flush i).V.set i false).getD j false = false
    by_cases e : i = j
    · subst e
      rcases Nat.lt_or_ge i (s.flush i).V.length with hb | hb
      · exact getD_set_eq _ _ _ _ hb
      · rw [List.getD_eq_getElem?_getD, List.getElem?_eq_none (by rw [List.length_set]; omega)]; rfl
    · rw [getD_set_ne _ _ _ _ _ e]
      exact flush_false s i j (by omega)
theorem wl_flA (s : St) : wl (flA s).V (flA s).V.length = [] := by
  unfold wl
  rw [List.filter_eq_nil_iff]
  intro j hj
  have := List.mem_range.1 hj
  rw [flA_len] at this
  have h := flush_false s s.V.length j this
  unfold flA
  rw [h]; decide
section
variable {w : World} {p bL bS bW : Nat} {s : St}
theorem crash_flA (h : DskS w p bL bS bW (flA s)) : Calls Tryz.prog 13 #[.pointer (some ⟨p, 0, none⟩), .slice none 0 0] w fun e w' => e = .returned (.int .i64 0) ∧ DskS w' p bL bS bW (flA s) ∧ Chg [bL, bS, bW] w w' := by
  refine (crash_any h (A := none) (n := 0) (c := 0) (cuts := []) rfl (fun h => absurd h (by simp [nms])) (fun h => absurd h (by simp)) (fun h => absurd h (by simp)) (by omega)).mono ?_
  rintro e w' ⟨rfl, hd, hc⟩
  refine ⟨by rw [wl_flA]; rfl, ?_, hc⟩
  rw [wl_flA] at hd
  exact hd
end
end Go.Proofs.YtddjgncdjdjgeaaGreat
namespace Go.Proofs.YtddjgncdjdjgeaaGreat
open Go.RowKit
section
set_option maxHeartbeats 2000000 in
set_option maxRecDepth 100000 in
theorem sector18_any {w : World} (x : UInt8) : Calls Tryz.prog 24 #[.int .u8 (x.toNat : Int)] w (fun e w' => e = .returned (.slice (some ⟨w.heap.size, 0, none⟩) 64 64) ∧ Whole w' w.heap.size 5 (bts ((zeros 64).set 0 x)) ∧ Chg [] w w') := by
  have hmk := make_z64 w
  go_enter Tryz.func24, Tryz.ntmps24
  have hX := x.toNat_lt
  go_wp2_with fail
  have hal := (Chg.refl [] w).alloc (.cells (bts (zeros 64)).toArray 5)
  have hW := Whole.new w 5 (bts (zeros 64))
  go_ret
  have e : (bts (zeros 64)).set 0 (.int .u8 (x.toNat : Int)) = bts ((zeros 64).set 0 x) := bts_set (zeros 64) 0 x
  rw [e]
  exact ⟨rfl, Whole.new w _ _, (Chg.refl [] w).alloc _⟩
end
end Go.Proofs.YtddjgncdjdjgeaaGreat
namespace Go.Proofs.YtddjgncdjdjgeaaGreat
open Go.RowKit
theorem chso_in {w wr : World} {p P : Nat} {At : Option Addr} {nt ct : Nat} {lt : List Int} {v : Value} {D : List Nat} (h : ChSo w p At nt ct lt wr v P) (hP : P ≤ 64) (hD : ∀ i ∈ D, i < w.heap.size) :
    ∃ A c ls a', v = .slice A ls.length c ∧ ChsD D wr A ls ∧ InL P ls ∧ Tp wr p At nt ct lt a' ∧ Chg [p] w wr ∧ ls.length ≤ 64 := by
  obtain ⟨ls, a', ho, hm, hpg, hl, hr, hT, hc⟩ := h
  obtain ⟨A, c, rfl, hl2, hch, _, _, _⟩ := chs_own' ho (fun a ha => (hm a ha).ok)
  have hb := own_blk ho rfl
  refine ⟨A, c, ls, a', rfl, ⟨hch, fun _ ad e hd => ?_, fun a ha _ ad e hd => ?_⟩, ⟨fun a ha => ⟨(hm a ha).small, (hm a ha).bl⟩, ?_, by omega⟩, hT, hc, by omega⟩
  · have h1 := hD _ hd
    have h2 := hb ad e
    omega
  · obtain ⟨g, hg, hB, _⟩ := (hm a ha).b
    rw [hg] at e
    injection e with e
    subst e
    have h1 : g < w.heap.size := hD _ hd
    omega
  · unfold rightB
    rw [hr (P : Int) (Int.le_refl _), Bool.and_true, decide_eq_true_iff]; omega
theorem fits_le {L u m : Nat} (h : fitsB (L : Int) (u : Int) (m : Int) = true) (hm : m ≤ 64) : u + (18 + 66 * m) ≤ L * 64 := by
  unfold fitsB at h
  rw [Bool.and_eq_true, decide_eq_true_iff, decide_eq_true_iff] at h
  have h2 := h.2
  unfold leftI sizeI needI at h2
  rw [if_neg (by omega), if_neg (by omega)] at h2
  omega
end Go.Proofs.YtddjgncdjdjgeaaGreat
namespace Go.Proofs.YtddjgncdjdjgeaaGreat
open Go.RowKit
theorem gd_new (n : Nat) : Gd (St.new n) := by
  unfold Gd St.new
  simp only
  rw [zeros_len, show (falses n).length = n by simp [falses]]; omega
theorem newV (n : Nat) : (St.new n).V.length = n := by simp [St.new, falses]
theorem secV_new (n j : Nat) (hj : j < n) : secV (St.new n) j = zeros 64 := by
  unfold secV
  rw [newV]
  show sectL (zeros (n * 64)) n j = _
  rw [sect_zeros n (n * 64) j (by omega), if_pos hj]
theorem best_new (n : Nat) (h : 2 ≤ n) : bestK (St.new n).V.length (St.new n).S 2 = RV.zero := by
  rw [bestK_two, secV_new n 0 (by omega), secV_new n 1 (by omega), bestStep_no zeros_noroot, bestStep_no zeros_noroot]
set_option maxHeartbeats 1000000 in
set_option maxRecDepth 100000 in
theorem spage_none {w : World} {k : SK} {s : St} {x : SV} {vP : Value} (h : Sto w k s x vP) (i : Nat) (hi : x.P ≤ i) (hi2 : i < 1000) : Calls Tryz.prog 67 #[.pointer (some ⟨k.g, 0, none⟩), .int .i64 (i : Int)] w fun e w' => e = .returned (.slice none 0 0) ∧ Chg [] w w' := by
  obtain ⟨A, c, us, rfl, hcp, _⟩ := h.pgs
  have hpl := h.pl
  have hr := h.rec_
  rw [hpl] at hr hcp
  have e4 := hr.cell 4
  have hiI : ¬ (i : Int) < 0 := by omega
  have hiN : x.P ≤ i := hi
  clear h hr hpl
  go_enter Tryz.func67, Tryz.ntmps67
  go_wp2_with fail
  go_ret
  exact ⟨rfl, Chg.refl _ _⟩
/-- The first byte of an own row. -/
theorem own_first {w : World} {B : Nat} {v : Value} {n : Nat} {l : List UInt8} {b : UInt8} (h : w.ownsRow B 5 1 v n (bts (b :: l))) : ∃ g c, v = .slice (some ⟨g, 0, none⟩) n c ∧ w.cell? ⟨g, 0, none⟩ = some (.int .u8 (b.toNat : Int)) := by
  obtain ⟨A, c, rfl, hl, _, hs, hA⟩ := own_slice h
  obtain ⟨ad, rfl, _, hcell⟩ := hs (by simp [bts])
  obtain ⟨g, o, sp⟩ := ad
  obtain ⟨h1, _, h2, _⟩ := hA _ rfl
  have h1' : sp = none := h1
  have h2' : o = 0 := h2
  subst h1' h2'
  refine ⟨g, c, rfl, ?_⟩
  have h3 := hcell 0 (B8 b) rfl
  rw [add_plain] at h3
  exact h3
theorem epoch_of (W : World) (a b v : Value) : (Instr.field 58 (.agg #[a, b, v]) 2).run Tryz.prog W = .ok v W := by
  have h1 : (part 56 #[a, b, v] 2).run Tryz.prog W = .ok v W := by simp [part, isAgg, run_underlying Tryz.underlying56]
  simp [Instr.field, run_underlying Tryz.underlying58, asAgg, h1]
def oneC (pg : Nat) (gb : Nat) (l : List UInt8) : ChV := { page := pg, bA := some ⟨gb, 0, none⟩, bn := 64, bc := 64, B := l }
theorem one_ch {w : World} {T : List Nat} {gb N pg : Nat} {l : List UInt8} (hb : Whole w gb 5 (bts l)) (hl : l.length = 64) (hN : Whole w N 51 [.int .i64 (pg : Int), .slice (some ⟨gb, 0, none⟩) 64 64]) (h1 : gb ∉ T) (h2 : N ∉ T) (hp : pg < 65536) : ChsD T w (some ⟨N, 0, none⟩) [oneC pg gb l] := by
  refine ⟨⟨fun _ => ⟨N, 0, rfl, hN.lt, fun k a ha => ?_⟩, fun a ha => ?_⟩, fun _ ad e => by injection e with e; subst e; exact h2, fun a ha _ ad e => ?_⟩
  · obtain ⟨hk, he⟩ := List.getElem?_eq_some_iff.1 ha
    obtain rfl : k = 0 := by simp at hk; omega
    simp only [List.getElem_cons_zero] at he
    subst he
    exact ⟨hN.cell 0, hN.cell 1⟩
  · simp only [List.mem_cons, List.not_mem_nil, or_false] at ha
    subst ha
    exact RMade.ok (B0 := 0) ⟨⟨gb, [], rfl, Nat.zero_le _, by rw [List.append_nil]; exact hb, rfl, by decide⟩, hl, rfl, by show 0 ≤ (pg : Int); omega, by show (pg : Int) < 65536; omega⟩
  · simp only [List.mem_cons, List.not_mem_nil, or_false] at ha
    subst ha
    injection e with e
    subst e
    exact h1
theorem one_inl {P pg gb : Nat} {l : List UInt8} (hl : l.length = 64) (h : pg < P) (hP : P ≤ 64) : InL P [oneC pg gb l] := by
  refine ⟨fun a ha => ?_, ?_, by simp⟩
  · simp only [List.mem_cons, List.not_mem_nil, or_false] at ha
    subst ha
    exact ⟨⟨by show 0 ≤ (pg : Int); omega, by show (pg : Int) < 65536; omega, rfl⟩, hl⟩
  · unfold rightB rightS rightS oneC
    simp; omega
theorem one_no {P pg gb : Nat} {l : List UInt8} (h : P ≤ pg) : rightB P [oneC pg gb l] = false := by
  unfold rightB rightS rightS oneC
  simp; omega
theorem one_apply {ps : List (List UInt8)} {pg gb : Nat} {l : List UInt8} (h : pg < ps.length) : (applyL ps [oneC pg gb l]).getD pg [] = l := by
  show (applyC ps (oneC pg gb l)).getD pg [] = l
  unfold applyC
  rw [if_pos ⟨by show 0 ≤ (pg : Int); omega, by show (pg : Int) < ps.length; omega⟩]
  exact getD_set_eq _ _ _ _ h
def s5 : List UInt8 := (zeros 64).set 0 5
theorem s5_len : s5.length = 64 := by decide
section
variable {w : World}
set_option maxHeartbeats 16000000 in
set_option maxRecDepth 100000 in
theorem known18 : Calls Tryz.prog 30 #[] w (fun e w' => e = .returned (.bool true) ∧ Chg [] w w') := by
  go_enter Tryz.func30, Tryz.ntmps30
  go_wp2_with fail
  refine (new_int 20 (by omega) (by omega)).mono ?_
  rintro e w1 ⟨p, bL, bS, bW, rfl, hd1, hp, hbL, hbS, hbW, hc1⟩
  have HD1 := Lib.hid hd1
  have HC1 := Lib.hid hc1
  have HB := Lib.hid (show w.heap.size ≤ p ∧ w.heap.size ≤ bL ∧ w.heap.size ≤ bS ∧ w.heap.size ≤ bW from ⟨hp, hbL, hbS, hbW⟩)
  clear hd1 hc1 hp hbL hbS hbW
  go_wp2_with fail
  refine (open_any HD1.out).mono ?_
  rintro e w2 hO
  obtain ⟨rfl, hc2⟩ : e = .returned (.tuple #[.pointer none, .int .i64 22]) ∧ Chg [] w1 w2 := by
    rcases hO with ⟨_, h1, h2⟩ | ⟨h0, _⟩ | ⟨h0, _⟩
    · exact ⟨h1, h2⟩
    · rw [show (20 : Int).toNat = 20 from rfl, best_new 20 (by omega)] at h0; exact absurd h0 (by decide)
    · rw [show (20 : Int).toNat = 20 from rfl, best_new 20 (by omega)] at h0; exact absurd h0 (by decide)
  have HD2 := Lib.hid (Dsk.keep HD1.out hc2)
  have HC2 := Lib.hid (HC1.out.new hc2)
  clear hO hc2 HD1
  go_wp2_with fail
  refine (format_any HD2.out 9 4).mono ?_
  rintro e w3 hF
  obtain ⟨rfl, hd3, hc3⟩ : e = .returned (.int .i64 0) ∧ DskS w3 p bL bS bW (fmt (St.new 20) 9 4) ∧ Chg [bL, bS, bW] w2 w3 := by
    rcases hF with ⟨_, h1, h2, h3⟩ | ⟨h0, _⟩
    · exact ⟨h1, h2, h3⟩
    · exact absurd h0 (by show ¬ rightR 9 4 1 (St.new 20).V.length = false; rw [newV]; decide)
  have hfr : ∀ i ∈ [bL, bS, bW], w.heap.size ≤ i := fun i hi => by
    have := HB.out
    simp only [List.mem_cons, List.not_mem_nil, or_false] at hi
    rcases hi with rfl | rfl | rfl <;> omega
  have HFR := Lib.hid hfr
  have HD3 := Lib.hid hd3
  have HC3 := Lib.hid (HC2.out.then_ hc3 (fun i hi hw => by have := HFR.out i hi; omega))
  clear hF hd3 hc3 hfr HD2
  have HK := Lib.hid (kept_new (gd_new 20) 9 4 (by rw [newV]; decide))
  have HBK := Lib.hid (best_fmt (gd_new 20) 9 4 (by rw [newV]; decide))
  go_wp2_with fail
  refine (open_any HD3.out).mono ?_
  rintro e w4 hO
  rw [OpenPost, HBK.out] at hO
  rcases hO with ⟨h0, _⟩ | ⟨h0, _⟩ | ⟨_, _, g, gN, v4, rfl, hg, hgN, hs4, hc4⟩
  · exact absurd h0 (by decide)
  · exact absurd h0 (by decide)
  have HG := Lib.hid (show w3.heap.size ≤ g ∧ w3.heap.size ≤ gN from ⟨hg, hgN⟩)
  have HC4 := Lib.hid (HC3.out.then_ hc4 (fun i hi hw => by have := HFR.out i hi; omega))
  obtain ⟨y, hy⟩ : ∃ y, y = openV (fmt (St.new 20) 9 4) ⟨9, 4, 1⟩ := ⟨_, rfl⟩
  rw [← hy] at hs4 HK
  obtain ⟨s4, hs4e⟩ : ∃ s4, s4 = ckS (fmt (St.new 20) 9 4) y := ⟨_, rfl⟩
  rw [← hs4e] at hs4 HK
  have hxl : (ckV y).L = 9 ∧ (ckV y).P = 4 ∧ (ckV y).E = 2 ∧ (ckV y).used = 0 ∧ (ckV y).seq = 0 := by
    obtain ⟨a, b, c, _⟩ := turn_same (recT (fmt (St.new 20) 9 4) ⟨9, 4, 1⟩) (homeV (fmt (St.new 20) 9 4) ⟨9, 4, 1⟩)
    rw [hy]
    exact ⟨a, b, by show (openV _ _).E + 1 = 2; unfold openV; rw [c]; rfl, rfl, rfl⟩
  obtain ⟨x4, hx4⟩ : ∃ x4, x4 = ckV y := ⟨_, rfl⟩
  rw [← hx4] at hs4 HK hxl
  have HX := Lib.hid hxl
  have HS4 := Lib.hid hs4
  clear hg hgN hs4 hc4 hy hs4e hxl hx4 HD3 HBK
  go_wp2_with fail
  have hsec := sector18_any (w := w4) 5
  rw [show (((5 : UInt8).toNat : Nat) : Int) = 5 from rfl] at hsec
  refine hsec.mono ?_
  rintro e w5 ⟨rfl, hb5, hc5⟩
  have HBY5 := Lib.hid (show Whole w5 w4.heap.size 5 (bts s5) from hb5)
  have HC5 := Lib.hid (HC4.out.new hc5)
  have HS5 := Lib.hid (HS4.out.keep hc5)
  have HSZ4 := Lib.hid (show ∀ i ∈ SK.D ⟨p, bL, bS, bW, g, gN, []⟩, i < w4.heap.size from HS4.out.lts)
  obtain ⟨g5, hg5⟩ : ∃ g5, g5 = w4.heap.size := ⟨_, rfl⟩
  rw [← hg5] at HBY5 HSZ4 ⊢
  have HG5 := Lib.hid (show w.heap.size ≤ g5 by rw [hg5]; exact HC4.out.size)
  clear hsec hb5 hc5 hg5 HS4
  go_wp2_with fail
  have hal := (Chg.refl [] w5).alloc (.cells #[.int .i64 2, .slice (some ⟨g5, 0, none⟩) 64 64] 51)
  have hN := Whole.new w5 51 [.int .i64 2, .slice (some ⟨g5, 0, none⟩) 64 64]
  have hgd : g5 ∉ SK.D ⟨p, bL, bS, bW, g, gN, []⟩ := fun hm => by have := HSZ4.out _ hm; omega
  have hNd : w5.heap.size ∉ SK.D ⟨p, bL, bS, bW, g, gN, []⟩ := fun hm => by have := HS5.out.lts _ hm; omega
  have HC6 := Lib.hid (HC5.out.new hal)
  have HS6 := Lib.hid (HS5.out.keep hal)
  have hch := one_ch (pg := 2) (HBY5.out.keep hal) s5_len hN hgd hNd (by omega)
  have HCO := Lib.hid (commit_any (m := 1) (d := 1) HS6.out hch rfl (by omega))
  clear hal hN hgd hNd hch
  refine HCO.out.mono ?_
  rintro e w7 hO
  have hin : InL x4.P [oneC 2 g5 s5] := one_inl s5_len (by have := HX.out; omega) (by have := HX.out; omega)
  have hfit : x4.used + (18 + 66 * 1) ≤ x4.L * 64 := by have := HX.out; omega
  obtain ⟨rfl, ⟨v7, hs7⟩, hc7⟩ : e = .returned (.int .i64 0) ∧ (∃ v, Sto w7 ⟨p, bL, bS, bW, g, gN, []⟩ (comS s4 x4 [oneC 2 g5 s5]) (comV x4 [oneC 2 g5 s5]) v) ∧ Chg (SK.W ⟨p, bL, bS, bW, g, gN, []⟩) _ w7 := by
    rcases hO with ⟨h0, _⟩ | ⟨_, h0, _⟩ | ⟨_, _, h1, h2, h3⟩
    · rw [hin.2.1] at h0; cases h0
    · have h4 := HX.out
      rw [h4.1, h4.2.2.2.1] at h0
      have h0' : fitsB ((9 : Nat) : Int) ((0 : Nat) : Int) ((1 : Nat) : Int) = false := h0
      exact absurd h0' (by decide)
    · exact ⟨h1, h2, h3⟩
  have HFW := Lib.hid (show ∀ i ∈ SK.W ⟨p, bL, bS, bW, g, gN, []⟩, w.heap.size ≤ i from fun i hi => by
    have h1 := HB.out
    have h2 := HG.out
    have h3 := HC3.out.size
    simp only [SK.W, List.mem_cons, List.not_mem_nil, or_false] at hi
    rcases hi with rfl | rfl | rfl | rfl | rfl <;> omega)
  have HK7 := Lib.hid (HK.out.com hin hfit)
  have HC7 := Lib.hid (HC6.out.then_ hc7 (fun i hi hw => by have := HFW.out i hi; omega))
  have HPG := Lib.hid (show (applyL x4.pages [oneC 2 g5 s5]).getD 2 [] = s5 from one_apply (by have := HS6.out.pl; have := HX.out; omega))
  have HX7 := Lib.hid (show (comV x4 [oneC 2 g5 s5]).L = 9 ∧ (comV x4 [oneC 2 g5 s5]).P = 4 ∧ (comV x4 [oneC 2 g5 s5]).E = 2 ∧ (comV x4 [oneC 2 g5 s5]).used = 84 ∧ (comV x4 [oneC 2 g5 s5]).seq = 1 from by
    obtain ⟨a, b, c, d, f⟩ := HX.out
    exact ⟨a, b, c, by show x4.used + (18 + 66 * 1) = 84; omega, by show x4.seq + 1 = 1; omega⟩)
  obtain ⟨x7, hx7⟩ : ∃ x7, x7 = comV x4 [oneC 2 g5 s5] := ⟨_, rfl⟩
  obtain ⟨s7, hs7'⟩ : ∃ s7, s7 = comS s4 x4 [oneC 2 g5 s5] := ⟨_, rfl⟩
  have HPG7 := Lib.hid (show x7.pages.getD 2 [] = s5 by rw [hx7]; exact HPG.out)
  rw [← hx7, ← hs7'] at hs7 HK7
  rw [← hx7] at HX7
  have HS7 := Lib.hid hs7
  clear hO hin hfit hs7 hc7 hx7 hs7' HCO HK HS6 HS5 HPG HX HBY5 HSZ4
  go_wp2_with fail
  have hsec := sector18_any (w := w7) 5
  rw [show (((5 : UInt8).toNat : Nat) : Int) = 5 from rfl] at hsec
  refine hsec.mono ?_
  rintro e w8 ⟨rfl, hb8, hc8⟩
  have HBY8 := Lib.hid (show Whole w8 w7.heap.size 5 (bts s5) from hb8)
  have HC8 := Lib.hid (HC7.out.new hc8)
  have HS8 := Lib.hid (HS7.out.keep hc8)
  have HSZ7 := Lib.hid (show ∀ i ∈ SK.D ⟨p, bL, bS, bW, g, gN, []⟩, i < w7.heap.size from HS7.out.lts)
  obtain ⟨g8, hg8⟩ : ∃ g8, g8 = w7.heap.size := ⟨_, rfl⟩
  rw [← hg8] at HBY8 HSZ7 ⊢
  clear hsec hb8 hc8 hg8 HS7
  go_wp2_with fail
  have hal := (Chg.refl [] w8).alloc (.cells #[.int .i64 4, .slice (some ⟨g8, 0, none⟩) 64 64] 51)
  have hN := Whole.new w8 51 [.int .i64 4, .slice (some ⟨g8, 0, none⟩) 64 64]
  have hgd : g8 ∉ SK.D ⟨p, bL, bS, bW, g, gN, []⟩ := fun hm => by have := HSZ7.out _ hm; omega
  have hNd : w8.heap.size ∉ SK.D ⟨p, bL, bS, bW, g, gN, []⟩ := fun hm => by have := HS8.out.lts _ hm; omega
  have HC9 := Lib.hid (HC8.out.new hal)
  have HS9 := Lib.hid (HS8.out.keep hal)
  have hch := one_ch (pg := 4) (HBY8.out.keep hal) s5_len hN hgd hNd (by omega)
  have HCO := Lib.hid (commit_any (m := 1) (d := 1) HS9.out hch rfl (by omega))
  clear hal hN hgd hNd hch
  refine HCO.out.mono ?_
  rintro e w10 hO
  have hno : rightB x7.P [oneC 4 g8 s5] = false := one_no (by have := HX7.out; omega)
  obtain ⟨rfl, hc10⟩ : e = .returned (.int .i64 1) ∧ Chg [] _ w10 := by
    rcases hO with ⟨_, h1, h2⟩ | ⟨h0, _⟩ | ⟨h0, _⟩
    · exact ⟨h1, h2⟩
    · rw [hno] at h0; cases h0
    · rw [hno] at h0; cases h0
  have HC10 := Lib.hid (HC9.out.new hc10)
  have HS10 := Lib.hid (HS9.out.keep hc10)
  clear hO hno hc10 HCO HS9 HS8 HBY8 HSZ7
  go_wp2_with fail
  refine (spage_any HS10.out 2 (by have := HX7.out; omega)).mono ?_
  rintro e w11 ⟨vp, rfl, hop, hc11⟩
  rw [HPG7.out, s5_len] at hop
  have HOP := Lib.hid hop
  have HLT10 := Lib.hid (show bL < w10.heap.size ∧ bS < w10.heap.size ∧ bW < w10.heap.size from by
    have := HS10.out.lts
    exact ⟨this _ (by simp [SK.D]), this _ (by simp [SK.D]), this _ (by simp [SK.D])⟩)
  have HC11 := Lib.hid (HC10.out.new hc11)
  have HS11 := Lib.hid (HS10.out.keep hc11)
  clear hop hc11 HS10
  go_wp2_with fail
  refine (used_any HS11.out).mono ?_
  rintro e w12 ⟨rfl, hc12⟩
  have HC12 := Lib.hid (HC11.out.new hc12)
  have HS12 := Lib.hid (HS11.out.keep hc12)
  have HOP12 := Lib.hid (own_keep HOP.out hc12)
  rw [HX7.out.2.2.2.1]
  clear hc12 HS11 HOP
  go_wp2_with fail
  refine (seq_any HS12.out).mono ?_
  rintro e w13 ⟨rfl, hc13⟩
  have HC13 := Lib.hid (HC12.out.new hc13)
  have HS13 := Lib.hid (HS12.out.keep hc13)
  have HOP13 := Lib.hid (own_keep HOP12.out hc13)
  rw [HX7.out.2.2.2.2]
  clear hc13 HS12 HOP12
  go_wp2_with fail
  refine (sync_any HS13.out).mono ?_
  rintro e w14 ⟨rfl, hs14, hc14⟩
  have HC14 := Lib.hid (HC13.out.then_ hc14 (fun i hi hw => by have := HFR.out i hi; omega))
  have hpB : ∀ i ∈ [bL, bS, bW], i < w10.heap.size := fun i hi => by
    simp only [List.mem_cons, List.not_mem_nil, or_false] at hi
    have h1 := HLT10.out
    rcases hi with rfl | rfl | rfl <;> omega
  obtain ⟨Ap, cp, rfl, _, _, _, hAp⟩ := own_slice HOP13.out
  have HOP14 := Lib.hid (rown_chg HOP13.out hc14 (fun i hi => .inl (hpB i hi)))
  have HD14 := Lib.hid hs14.dsk
  have HK14 := Lib.hid HK7.out.flA
  clear hs14 hc14 HS13 HOP13 hAp
  go_wp2_with fail
  refine (crash_flA HD14.out).mono ?_
  rintro e w15 ⟨rfl, hd15, hc15⟩
  have HC15 := Lib.hid (HC14.out.then_ hc15 (fun i hi hw => by have := HFR.out i hi; omega))
  have HOP15 := Lib.hid (rown_chg HOP14.out hc15 (fun i hi => .inl (hpB i hi)))
  have HD15 := Lib.hid hd15
  clear hd15 hc15 HOP14 HD14
  go_wp2_with fail
  refine (open_any HD15.out).mono ?_
  rintro e w16 hO
  have hb := HK14.out.k.best
  rw [HX7.out.1, HX7.out.2.1, HX7.out.2.2.1] at hb
  rw [OpenPost, hb] at hO
  rcases hO with ⟨h0, _⟩ | ⟨h0, _⟩ | ⟨_, _, g2, gN2, v16, rfl, hg2, hgN2, hs16, hc16⟩
  · exact absurd h0 (by decide)
  · exact absurd h0 (by decide)
  have HC16 := Lib.hid (HC15.out.then_ hc16 (fun i hi hw => by have := HFR.out i hi; omega))
  have HOP16 := Lib.hid (rown_chg HOP15.out hc16 (fun i hi => .inl (hpB i hi)))
  have ho := HK14.out.k.open_
  rw [HX7.out.1, HX7.out.2.1, HX7.out.2.2.1] at ho
  obtain ⟨y, hy⟩ : ∃ y, y = openV (flA s7) ⟨9, 4, 2⟩ := ⟨_, rfl⟩
  rw [← hy] at ho hs16
  have HX16 := Lib.hid (show (ckV y).L = 9 ∧ (ckV y).P = 4 ∧ (ckV y).E = 3 ∧ (ckV y).pages.getD 2 [] = s5 from ⟨ho.2.2.1, ho.2.2.2.1, by show y.E + 1 = 3; rw [ho.2.2.2.2], by show y.pages.getD 2 [] = s5; rw [ho.1]; exact HPG7.out⟩)
  have HS16 := Lib.hid hs16
  clear hb hg2 hgN2 hs16 hc16 ho hy HOP15 HD15
  go_wp2_with fail
  refine (spage_any HS16.out 2 (by have := HX16.out; omega)).mono ?_
  rintro e w17 ⟨vc, rfl, hoc, hc17⟩
  rw [HX16.out.2.2.2, s5_len] at hoc
  have HOC := Lib.hid hoc
  have HC17 := Lib.hid (HC16.out.new hc17)
  have HS17 := Lib.hid (HS16.out.keep hc17)
  have HOP17 := Lib.hid (own_keep HOP16.out hc17)
  clear hoc hc17 HS16 HOP16 hpB
  have e5 : s5 = 5 :: (zeros 64).tail := by decide
  rw [e5] at HOC HOP17
  obtain ⟨gc, cc, rfl, kc⟩ := own_first HOC.out
  obtain ⟨gp, cp', ep, kp⟩ := own_first HOP17.out
  injection ep with ep1 _ ep2
  subst ep1 ep2
  rw [show (((5 : UInt8).toNat : Nat) : Int) = 5 from rfl] at kc kp
  clear e5 HOP17 HOC
  go_wp2_with fail
  refine (sroot_any HS17.out).mono ?_
  rintro e w18 ⟨rfl, hc18⟩
  have HC18 := Lib.hid (HC17.out.new hc18)
  have HS18 := Lib.hid (HS17.out.keep hc18)
  rw [HX16.out.1, HX16.out.2.1, HX16.out.2.2.1]
  unfold rootV
  have hfe := epoch_of w18 (.int .i64 9) (.int .i64 4) (.int .u32 3)
  clear hc18 HS17 kc kp
  go_wp2_with fail
  have hpn := spage_none HS18.out 9 (by have := HX16.out; omega) (by omega)
  rw [show ((9 : Nat) : Int) = 9 from rfl] at hpn
  refine hpn.mono ?_
  rintro e w19 ⟨rfl, hc19⟩
  have HC19 := Lib.hid (HC18.out.new hc19)
  have HS19 := Lib.hid (HS18.out.keep hc19)
  clear hc19 HS18 hpn
  go_wp2_with fail
  refine (format_any HS19.out.dsk 99 1).mono ?_
  rintro e w20 hF
  obtain ⟨rfl, hc20⟩ : e = .returned (.int .i64 25) ∧ Chg [] w19 w20 := by
    rcases hF with ⟨h0, _⟩ | ⟨_, h1, h2⟩
    · have := rightR_true.1 h0; omega
    · exact ⟨h1, h2⟩
  have HC20 := Lib.hid (HC19.out.new hc20)
  clear hF hc20 HS19
  go_wp2_with fail
  refine (format_nil 1 1).mono ?_
  rintro e w21 ⟨rfl, hc21⟩
  have HC21 := Lib.hid (HC20.out.new hc21)
  clear hc21
  go_wp2_with fail
  go_ret
  exact ⟨rfl, HC21.out⟩
end
end Go.Proofs.YtddjgncdjdjgeaaGreat
