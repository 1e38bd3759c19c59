/-
  SO: Sto11.
-/
import Derived.Test.YtfhgnoajfipjdaaZSO11
import Derived.Test.YtfhgnoajfipjdaaZSO35
namespace Go.Proofs.Ytfhgnoajfipjdaa
open Go.RowKit
theorem getD_set_ne {α : Type} (l : List α) (n i : Nat) (a d : α) (h : n ≠ i) : (l.set n a).getD i d = l.getD i d := by
  rw [List.getD_eq_getElem?_getD, List.getD_eq_getElem?_getD, List.getElem?_set_ne h]
theorem getD_set_eq {α : Type} (l : List α) (n : Nat) (a d : α) (h : n < l.length) : (l.set n a).getD n d = a := by
  rw [List.getD_eq_getElem?_getD, List.getElem?_set_self h]; rfl
theorem pin_list (base : List (List UInt8)) : ∀ (m : List ChV) (ps : List (List UInt8)) (N : List Bool), N.length = ps.length → (∀ i, N.getD i false = false → ps.getD i [] = base.getD i []) → ∀ i, (nameL N m).getD i false = false → (applyL ps m).getD i [] = base.getD i []
  | [], _, _, _, h, i, hi => h i hi
  | a :: m, ps, N, hl, h, i, hi => by
    show (applyL (applyC ps a) m).getD i [] = _
    refine pin_list base m (applyC ps a) (N.set a.page.toNat true) (by rw [applyC_len, List.length_set, hl]) (fun j hj => ?_) i hi
    by_cases e : a.page.toNat = j
    · subst e
      rcases Nat.lt_or_ge a.page.toNat N.length with hb | hb
      · rw [getD_set_eq N _ true false hb] at hj; cases hj
      · rw [List.set_eq_of_length_le hb] at hj
        have h1 := h _ hj
        unfold applyC
        split
        · rw [List.set_eq_of_length_le (by omega)]; exact h1
        · exact h1
    · rw [getD_set_ne N _ j true false e] at hj
      have h1 := h _ hj
      unfold applyC
      split
      · rw [getD_set_ne ps _ j a.B [] e]; exact h1
      · exact h1
theorem pin_fold (base : List (List UInt8)) : ∀ (ms : List (List ChV)) (x : SV), x.named.length = x.pages.length → (∀ i, x.named.getD i false = false → x.pages.getD i [] = base.getD i []) → ∀ i, (ms.foldl turnV x).named.getD i false = false → (ms.foldl turnV x).pages.getD i [] = base.getD i []
  | [], _, _, h, i, hi => h i hi
  | m :: ms, x, hl, h, i, hi => by
    refine pin_fold base ms (turnV x m) ?_ (fun j hj => pin_list base m x.pages x.named hl h j hj) i hi
    show (nameL x.named m).length = (applyL x.pages m).length
    rw [nameL_len, applyL_len, hl]
theorem fold_lens : ∀ (ms : List (List ChV)) (x : SV), (ms.foldl turnV x).pages.length = x.pages.length ∧ (ms.foldl turnV x).named.length = x.named.length
  | [], _ => ⟨rfl, rfl⟩
  | m :: ms, x => by
    obtain ⟨h1, h2⟩ := fold_lens ms (turnV x m)
    refine ⟨h1.trans ?_, h2.trans ?_⟩
    · show (applyL x.pages m).length = _; rw [applyL_len]
    · show (nameL x.named m).length = _; rw [nameL_len]
theorem fold_64 : ∀ (ms : List (List ChV)) (x : SV), (∀ l ∈ x.pages, l.length = 64) → (∀ m ∈ ms, ∀ a ∈ m, a.B.length = 64) → ∀ l ∈ (ms.foldl turnV x).pages, l.length = 64
  | [], _, h, _ => h
  | m :: ms, x, h, hm => fold_64 ms (turnV x m) (applyL_64 m x.pages h (hm m List.mem_cons_self)) (fun y hy => hm y (List.mem_cons_of_mem _ hy))
/-- The records that are found, as far as they turn pages. -/
def RecN (s : St) (L P E : Nat) (ms : List (List ChV)) : Prop := ∀ x, (recT s ⟨L, P, E⟩).foldl turnV x = ms.foldl turnV x
theorem recT_none {s : St} {L P E : Nat} (hr : rightR L P E s.V.length = true) (h : ¬ readOk (logB s L) E 0) : RecN s L P E [] := fun x => by
  unfold recT recsS
  show (recF (P : Int) (scanS (logL s L P E) E).1).1.foldl turnV x = _
  have h1 := (At.zero (logB s L) E).last h
  rw [show logL s L P E = logB s L by unfold logL; rw [if_pos hr, Int.toNat_natCast], h1]
  rfl
theorem readOk_ep {l : List UInt8} {E E' q q' : Nat} (h : readOk l E q) (hne : E' ≠ E) : ¬ readOk l E' q' := fun h2 => hne (by have := h.2.1; have := h2.2.1; omega)
theorem LogZ.other {s : St} {L P E : Nat} {ms : List (List ChV)} {u : Nat} (h : LogZ s L P E ms u) (hE : E < 4294967296) {E' : Nat} (hE' : 1 ≤ E') (hne : E' ≠ E) : ¬ readOk (logB s L) E' 0 := by
  rw [h.log]
  have hi := h.ins
  cases ms with
  | nil => exact zeros_noF hE'
  | cons m ms =>
    have hm := hi m List.mem_cons_self
    show ¬ readOk ((frameL E 0 (bytesD m) ++ frsL E 1 ms) ++ _) E' 0
    rw [List.append_assoc]
    exact readOk_ep (frame_ok E 0 (bytesD m) _ hE (by omega) (by rw [back_len hm.1]; have := hm.2.2; omega)) hne
theorem pagesL_at (s : St) (L n i : Nat) (hi : i < n) : (pagesL s L n).getD i [] = secV s (2 + L + i) := by
  unfold pagesL secV
  rw [List.getD_eq_getElem?_getD, List.getElem?_map, List.getElem?_range hi, Int.toNat_natCast]; rfl
theorem pagesL_64 {s : St} (h : Gd s) (L n : Nat) (hn : 2 + L + n ≤ s.V.length) : ∀ l ∈ pagesL s L n, l.length = 64 := fun l hl => by
  obtain ⟨i, hi, rfl⟩ := List.mem_map.1 hl
  have := List.mem_range.1 hi
  exact sectL_len h (by rw [Int.toNat_natCast]; omega)
theorem ext_getD {a b : List (List UInt8)} (hl : a.length = b.length) (h : ∀ i, i < a.length → a.getD i [] = b.getD i []) : a = b := by
  apply List.ext_getElem hl
  intro i h1 h2
  have := h i h1
  rw [List.getD_eq_getElem?_getD, List.getD_eq_getElem?_getD, List.getElem?_eq_getElem h1, List.getElem?_eq_getElem h2] at this
  exact this
/-- A store and its disk: what was written tells of the store. -/
structure Kept (s : St) (x : SV) (ms : List (List ChV)) : Prop where
  gd : Gd s
  rt : rightR x.L x.P x.E s.V.length = true
  ep : x.E < 4294967296
  best : bestK s.V.length s.S 2 = ⟨x.L, x.P, x.E⟩
  recs : RecN s x.L x.P x.E ms
  ins : ∀ m ∈ ms, InL x.P m
  pages : x.pages = (ms.foldl turnV (homeV s ⟨x.L, x.P, x.E⟩)).pages
  named : x.named = (ms.foldl turnV (homeV s ⟨x.L, x.P, x.E⟩)).named
section
variable {s : St} {x : SV} {ms : List (List ChV)}
theorem Kept.lens (h : Kept s x ms) : x.pages.length = x.P ∧ x.named.length = x.P ∧ (∀ l ∈ x.pages, l.length = 64) := by
  have h1 := rightR_true.1 h.rt
  obtain ⟨f1, f2⟩ := fold_lens ms (homeV s ⟨x.L, x.P, x.E⟩)
  refine ⟨by rw [h.pages, f1]; exact pagesL_len _ _ _, by rw [h.named, f2]; exact List.length_replicate .., ?_⟩
  rw [h.pages]
  exact fold_64 ms _ (pagesL_64 h.gd x.L x.P (by omega)) (fun m hm a ha => ((h.ins m hm).1 a ha).2)
/-- What Open makes of it. -/
theorem Kept.open_ (h : Kept s x ms) : (openV s ⟨x.L, x.P, x.E⟩).pages = x.pages ∧ (openV s ⟨x.L, x.P, x.E⟩).named = x.named ∧ (openV s ⟨x.L, x.P, x.E⟩).L = x.L ∧ (openV s ⟨x.L, x.P, x.E⟩).P = x.P ∧ (openV s ⟨x.L, x.P, x.E⟩).E = x.E := by
  have e : openV s ⟨x.L, x.P, x.E⟩ = ms.foldl turnV (homeV s ⟨x.L, x.P, x.E⟩) := h.recs _
  obtain ⟨a, b, c, _⟩ := turn_same ms (homeV s ⟨x.L, x.P, x.E⟩)
  rw [e]
  exact ⟨h.pages.symm, h.named.symm, a, b, c⟩
/-- The disk behind a Checkpoint has the pages at home. -/
theorem Kept.ck (h : Kept s x ms) (y : SV) (hy : y.pages = x.pages ∧ y.named = x.named ∧ y.L = x.L ∧ y.P = x.P ∧ y.E = x.E) (hE : x.E + 1 < 4294967296) (hno : ¬ readOk (logB s x.L) (x.E + 1) 0) : Kept (ckS s y) (ckV y) [] := by
  obtain ⟨y1, y2, y3, y4, y5⟩ := hy
  obtain ⟨l1, l2, l3⟩ := h.lens
  have h1 := rightR_true.1 h.rt
  have hr : rightR y.L y.P y.E s.V.length = true := by rw [y3, y4, y5]; exact h.rt
  have hp : y.pages.length = y.P := by rw [y1, y4]; exact l1
  have h64 : ∀ l ∈ y.pages, l.length = 64 := by rw [y1]; exact l3
  have hr' : rightR y.L y.P ((y.E + 1 : Nat) : Int) (ckS s y).V.length = true := by rw [ckS_len]; exact rightR_true.2 (by rw [y3, y4, y5]; omega)
  have hb : bestK (ckS s y).V.length (ckS s y).S 2 = ⟨y.L, y.P, y.E + 1⟩ := best_ck h.gd hr hp h64 (by rw [h.best, y5]; exact Nat.le_refl _) (by omega)
  have hpg : ∀ i, i < y.P → secV (ckS s y) (2 + y.L + i) = y.pages.getD i [] := fun i hi => by
    rw [secV_ckS h.gd hr hp h64, if_neg (by omega)]
    by_cases hn : y.named.getD i false = true
    · rw [if_pos ⟨by omega, by omega, by rw [show 2 + y.L + i - (2 + y.L) = i by omega]; exact hn⟩, show 2 + y.L + i - (2 + y.L) = i by omega]
    · rw [if_neg (fun h3 => hn (by have := h3.2.2; rwa [show 2 + y.L + i - (2 + y.L) = i by omega] at this))]
      have hn' : x.named.getD i false = false := by rw [← y2]; simpa using hn
      rw [h.named] at hn'
      have h2 := pin_fold (pagesL s x.L x.P) ms (homeV s ⟨x.L, x.P, x.E⟩) (by show (List.replicate x.P false).length = (pagesL s x.L x.P).length; rw [List.length_replicate, pagesL_len]) (fun j _ => rfl) i hn'
      rw [y1, h.pages, h2, pagesL_at s x.L x.P i (by omega), y3]
  refine { gd := ckS_good h.gd hr hp h64, rt := hr', ep := by show y.E + 1 < _; omega, best := hb, recs := ?_, ins := fun m hm => (by cases hm), pages := ?_, named := rfl }
  · refine recT_none hr' ?_
    show ¬ readOk (logB (ckS s y) y.L) (y.E + 1) 0
    have e : logB (ckS s y) y.L = logB s y.L := logB_same (ckS_len s y) (by omega) (fun j hj1 hj2 => by rw [secV_ckS h.gd hr hp h64, if_neg (by omega), if_neg (by omega)]) y.L (Nat.le_refl _)
    rw [e, y3, y5]; exact hno
  · show y.pages = pagesL (ckS s y) y.L y.P
    refine ext_getD (by rw [hp, pagesL_len]) (fun i hi => ?_)
    rw [pagesL_at _ _ _ _ (by omega), hpg i (by omega)]
theorem Kept.flA (h : Kept s x ms) : Kept (flA s) x ms := by
  have e : homeV (Go.Proofs.Ytfhgnoajfipjdaa.flA s) ⟨x.L, x.P, x.E⟩ = homeV s ⟨x.L, x.P, x.E⟩ := by
    unfold homeV pagesL
    rw [flA_S, flA_len]
  refine { gd := h.gd.flA, rt := by rw [flA_len]; exact h.rt, ep := h.ep, best := by rw [flA_S, flA_len]; exact h.best, recs := ?_, ins := h.ins, pages := by rw [e]; exact h.pages, named := by rw [e]; exact h.named }
  have e2 : recT (Go.Proofs.Ytfhgnoajfipjdaa.flA s) ⟨x.L, x.P, x.E⟩ = recT s ⟨x.L, x.P, x.E⟩ := by
    unfold recT recsS logL logB
    rw [flA_S, flA_len]
  intro y
  rw [e2]; exact h.recs y
end
end Go.Proofs.Ytfhgnoajfipjdaa
