/-
  N: Sto10, Sto11, Heal3.
-/
import Derived.Test.YtddjgncdjdjgeaaGreatZN3
import Derived.Test.YtddjgncdjdjgeaaGreatZN16
import Derived.Test.YtddjgncdjdjgeaaGreatZN27
import Derived.Test.YtddjgncdjdjgeaaGreatZN28
namespace Go.Proofs.YtddjgncdjdjgeaaGreat
open Go.RowKit
def frsL (E : Nat) : Nat → List (List ChV) → List UInt8
  | _, [] => []
  | k, m :: ms => frameL E k (bytesD m) ++ frsL E (k + 1) ms
theorem frsL_snoc (E : Nat) : ∀ (ms : List (List ChV)) (k : Nat) (m : List ChV), frsL E k (ms ++ [m]) = frsL E k ms ++ frameL E (k + ms.length) (bytesD m)
  | [], k, m => by simp [frsL]
  | a :: ms, k, m => by
    show frameL E k (bytesD a) ++ frsL E (k + 1) (ms ++ [m]) = (frameL E k (bytesD a) ++ frsL E (k + 1) ms) ++ _
    rw [frsL_snoc E ms, List.append_assoc, List.length_cons, show k + 1 + ms.length = k + (ms.length + 1) by omega]
theorem at_nextF {l : List UInt8} {ep k : Nat} {rs : List (List UInt8)} {a : Nat} (h : At l ep k rs a) (r m : List UInt8) (he : ep < 4294967296) (hk : k < 4294967296) (hr : r.length < 4294967296) (hl : l.drop a = frameL ep k r ++ m) :
    At l ep (k + 1) (rs ++ [r]) (a + (16 + r.length)) := by
  have h2 := h.next (by rw [hl]; exact frame_ok ep k r m he hk hr)
  rwa [hl, frame_rec ep k r m he hk hr, frame_len ep k r m he hk hr] at h2
theorem at_frs {l : List UInt8} {E : Nat} (hE : E < 4294967296) : ∀ (ms : List (List ChV)) (k : Nat) (rs : List (List UInt8)) (a : Nat) (z : List UInt8), At l E k rs a → l.drop a = frsL E k ms ++ z → k + ms.length < 4294967296 → (∀ m ∈ ms, (bytesD m).length < 4294967296) → At l E (k + ms.length) (rs ++ ms.map bytesD) (a + (frsL E k ms).length) ∧ l.drop (a + (frsL E k ms).length) = z
  | [], k, rs, a, z, h, hl, _, _ => ⟨by simpa [frsL] using h, by simpa [frsL] using hl⟩
  | m :: ms, k, rs, a, z, h, hl, hk, hm => by
    have hl' : l.drop a = frameL E k (bytesD m) ++ (frsL E (k + 1) ms ++ z) := by rw [hl]; show (frameL E k (bytesD m) ++ frsL E (k + 1) ms) ++ z = _; rw [List.append_assoc]
    have h1 := at_nextF h (bytesD m) _ hE (by simp at hk; omega) (hm m List.mem_cons_self) hl'
    have hd : l.drop (a + (16 + (bytesD m).length)) = frsL E (k + 1) ms ++ z := by
      rw [← List.drop_drop, hl', List.drop_left' (frameL_len _ _ _)]
    obtain ⟨h2, h3⟩ := at_frs hE ms (k + 1) _ _ z h1 hd (by simp at hk; omega) (fun x hx => hm x (List.mem_cons_of_mem _ hx))
    have e1 : (frsL E k (m :: ms)).length = 16 + (bytesD m).length + (frsL E (k + 1) ms).length := by show (frameL E k (bytesD m) ++ frsL E (k + 1) ms).length = _; rw [List.length_append, frameL_len]
    rw [e1, List.length_cons, show k + (ms.length + 1) = k + 1 + ms.length by omega, ← Nat.add_assoc a]
    refine ⟨?_, h3⟩
    have e2 : rs ++ List.map bytesD (m :: ms) = rs ++ [bytesD m] ++ List.map bytesD ms := by simp
    rw [e2]; exact h2
theorem zeros_noF {k E q : Nat} (hE : 1 ≤ E) : ¬ readOk (zeros k) E q := by
  intro h
  have h1 := h.2.1
  unfold getI at h1
  split at h1
  · rename_i hk
    rw [zeros_len] at hk
    have : ((zeros k).drop (0 : Int).toNat).take 4 = zeros 4 := by
      unfold zeros
      rw [List.drop_replicate, List.take_replicate]
      congr 1
      simp only [Int.toNat_zero]; omega
    rw [this, show numB (zeros 4) = 0 from by decide] at h1
    omega
  · omega
theorem scan_frs {E : Nat} (hE : 1 ≤ E) (hE2 : E < 4294967296) (ms : List (List ChV)) (z : Nat) (hk : ms.length < 4294967296) (hm : ∀ m ∈ ms, (bytesD m).length < 4294967296) :
    scanS (frsL E 0 ms ++ zeros z) E = (ms.map bytesD, (frsL E 0 ms).length) := by
  obtain ⟨h1, h2⟩ := at_frs hE2 ms 0 [] 0 (zeros z) (At.zero (frsL E 0 ms ++ zeros z) E) rfl (by omega) hm
  simp only [Nat.zero_add, List.nil_append] at h1 h2
  exact h1.last (by rw [h2]; exact zeros_noF hE)
/-- Lists that go in, as they are committed. -/
def InL (P : Nat) (m : List ChV) : Prop := (∀ a ∈ m, Page a) ∧ rightB (P : Int) m = true ∧ m.length ≤ 64
theorem InL.okR {P : Nat} {m : List ChV} (h : InL P m) : okR (P : Int) (bytesD m) := by
  have h1 := back_len h.1
  have h2 := back_num (l := m) (by have := h.2.2; omega)
  refine ⟨by omega, by rw [h1, h2], ?_⟩
  rw [asC_rightB (back_as h.1 (by have := h.2.2; omega))]
  exact h.2.1
theorem recF_all (P : Nat) : ∀ (ms : List (List ChV)), (∀ m ∈ ms, InL P m) → (recF (P : Int) (ms.map bytesD)).1 = ms.map fun m => recM (bytesD m)
  | [], _ => rfl
  | m :: ms, h => by
    show (recF (P : Int) (bytesD m :: ms.map bytesD)).1 = _
    unfold recF
    rw [if_pos (h m List.mem_cons_self).okR]
    show recM (bytesD m) :: (recF (P : Int) (ms.map bytesD)).1 = _
    rw [recF_all P ms fun x hx => h x (List.mem_cons_of_mem _ hx)]; rfl
theorem fold_back (P : Nat) : ∀ (ms : List (List ChV)) (x : SV), (∀ m ∈ ms, InL P m) → (ms.map fun m => recM (bytesD m)).foldl turnV x = ms.foldl turnV x
  | [], _, _ => rfl
  | m :: ms, x, h => by
    have h1 := h m List.mem_cons_self
    show (ms.map fun m => recM (bytesD m)).foldl turnV (turnV x (recM (bytesD m))) = ms.foldl turnV (turnV x m)
    have e : turnV x (recM (bytesD m)) = turnV x m := turnV_key x (back_as h1.1 (by have := h1.2.2; omega)).1
    rw [e]
    exact fold_back P ms _ fun y hy => h y (List.mem_cons_of_mem _ hy)
/-- A store whose log has its records, and zeros. -/
structure LogZ (s : St) (L P E : Nat) (ms : List (List ChV)) (u : Nat) : Prop where
  log : logB s L = frsL E 0 ms ++ zeros (L * 64 - u)
  len : (frsL E 0 ms).length = u
  top : u ≤ L * 64
  ins : ∀ m ∈ ms, InL P m
theorem frsL_ge (E : Nat) : ∀ (ms : List (List ChV)) (k : Nat), 16 * ms.length ≤ (frsL E k ms).length
  | [], _ => by simp
  | m :: ms, k => by
    have := frsL_ge E ms (k + 1)
    show _ ≤ (frameL E k (bytesD m) ++ frsL E (k + 1) ms).length
    rw [List.length_append, frameL_len, List.length_cons]; omega
theorem LogZ.recT {s : St} {L P E : Nat} {ms : List (List ChV)} {u : Nat} (h : LogZ s L P E ms u) (hr : rightR L P E s.V.length = true) (hE : E < 4294967296) (x : SV) : (recT s ⟨L, P, E⟩).foldl turnV x = ms.foldl turnV x := by
  have h1 := rightR_true.1 hr
  unfold Go.Proofs.YtddjgncdjdjgeaaGreat.recT recsS
  show (recF (P : Int) (scanS (logL s L P E) E).1).1.foldl turnV x = _
  rw [show logL s L P E = logB s L by unfold logL; rw [if_pos hr, Int.toNat_natCast], h.log, scan_frs (by omega) hE ms _ (by have := frsL_ge E ms 0; have := h.len; have := h.top; omega) (fun m hm => by rw [back_len (h.ins m hm).1]; have := (h.ins m hm).2.2; omega)]
  show (recF (P : Int) (ms.map bytesD)).1.foldl turnV x = _
  rw [recF_all P ms h.ins, fold_back P ms x h.ins]
theorem logB_same {s s' : St} {L : Nat} (hv : s'.V.length = s.V.length) (h2 : 2 + L ≤ s.V.length) (h : ∀ j, 2 ≤ j → j < 2 + L → secV s' j = secV s j) : ∀ k, k ≤ L → logB s' k = logB s k
  | 0, _ => by unfold logB; simp
  | k + 1, hk => by
    rw [logB_next, logB_next, logB_same hv h2 h k (by omega)]
    have h1 := h (2 + k) (by omega) (by omega)
    unfold secV sectL at h1
    rw [hv, if_pos (by omega), if_pos (by omega)] at h1
    rw [h1]
theorem logB_zeros {s : St} {L : Nat} (h2 : 2 + L ≤ s.V.length) (h : ∀ j, 2 ≤ j → j < 2 + L → secV s j = zeros 64) : ∀ k, k ≤ L → logB s k = zeros (k * 64)
  | 0, _ => by unfold logB zeros; simp
  | k + 1, hk => by
    rw [logB_next, logB_zeros h2 h k (by omega)]
    have h1 := h (2 + k) (by omega) (by omega)
    unfold secV sectL at h1
    rw [if_pos (by omega)] at h1
    rw [h1]
    unfold zeros
    rw [List.replicate_append_replicate]; congr 1; omega
theorem splice_mid {S b : List UInt8} {u N : Nat} (hu : u + b.length ≤ N) (hS : 128 + N ≤ S.length) : ((splice S (128 + u) b).drop 128).take N = ((S.drop 128).take N).take u ++ (b ++ ((S.drop 128).take N).drop (u + b.length)) := by
  have e : splice S (128 + u) b = S.take (128 + u) ++ (b ++ S.drop (128 + u + b.length)) := by unfold splice; simp
  have l1 : (S.take (128 + u)).length = 128 + u := by rw [List.length_take]; omega
  have l2 : ((S.drop 128).take u).length = u := by rw [List.length_take, List.length_drop]; omega
  rw [e, List.drop_append_of_le_length (by omega), List.drop_take, show 128 + u - 128 = u by omega, List.take_append, l2, List.take_append, List.take_of_length_le (by omega), List.take_of_length_le (l := b) (by omega), List.take_take, Nat.min_eq_left (by omega), List.drop_take, List.drop_drop, show 128 + (u + b.length) = 128 + u + b.length by omega, show N - u - b.length = N - (u + b.length) by omega]
theorem LogZ.com {s : St} {x : SV} {ms : List (List ChV)} {m : List ChV} (h : LogZ s x.L x.P x.E ms x.used) (hg : Gd s) (h2 : 2 + x.L ≤ s.V.length) (hq : x.seq = ms.length) (hm : InL x.P m) (hf : x.used + (18 + 66 * m.length) ≤ x.L * 64) :
    LogZ (comS s x m) x.L x.P x.E (ms ++ [m]) (x.used + (18 + 66 * m.length)) := by
  have hl : (comL x m).length = 18 + 66 * m.length := by unfold comL; rw [frameL_len, back_len hm.1]; omega
  have hlog := h.log
  have hlen := h.len
  have e : frsL x.E 0 (ms ++ [m]) = frsL x.E 0 ms ++ comL x m := by rw [frsL_snoc, Nat.zero_add, ← hq]; rfl
  refine ⟨?_, by rw [e, List.length_append, hl, hlen], hf, fun y hy => ?_⟩
  · rw [e]
    show ((splice s.S (128 + x.used) (comL x m)).drop 128).take (x.L * 64) = _
    rw [splice_mid (by omega) (by unfold Gd at hg; omega)]
    show (logB s x.L).take x.used ++ (comL x m ++ (logB s x.L).drop (x.used + (comL x m).length)) = _
    rw [hlog, List.take_left' hlen, ← List.drop_drop, List.drop_left' hlen, hl, List.append_assoc]
    congr 2
    unfold zeros
    rw [List.drop_replicate]; congr 1; omega
  · rcases List.mem_append.1 hy with hy | hy
    · exact h.ins y hy
    · simp only [List.mem_cons, List.not_mem_nil, or_false] at hy
      subst hy; exact hm
theorem LogZ.flA {s : St} {L P E : Nat} {ms : List (List ChV)} {u : Nat} (h : LogZ s L P E ms u) : LogZ (flA s) L P E ms u := ⟨by have := h.log; unfold logB at *; rw [flA_S]; exact this, h.len, h.top, h.ins⟩
theorem LogZ.none {s : St} {L P E : Nat} (h2 : 2 + L ≤ s.V.length) (h : ∀ j, 2 ≤ j → j < 2 + L → secV s j = zeros 64) : LogZ s L P E [] 0 := ⟨by rw [logB_zeros h2 h L (Nat.le_refl _)]; simp [frsL], rfl, Nat.zero_le _, fun m hm => by cases hm⟩
end Go.Proofs.YtddjgncdjdjgeaaGreat
namespace Go.Proofs.YtddjgncdjdjgeaaGreat
open Go.RowKit
theorem getD_set_ne {α : Type} (l : List α) (n i : Nat) (a d : α) (h : n ≠ i) : (l.set n a).getD i d = l.getD i d := by
  rw [List.getD_eq_getElem?_getD, List.getD_eq_getElem?_getD, List.getElem?_set_ne h]
theorem getD_set_eq {α : Type} (l : List α) (n : Nat) (a d : α) (h : n < l.length) : (l.set n a).getD n d = a := by
  rw [List.getD_eq_getElem?_getD, List.getElem?_set_self h]; rfl
theorem pin_list (base : List (List UInt8)) : ∀ (m : List ChV) (ps : List (List UInt8)) (N : List Bool), N.length = ps.length → (∀ i, N.getD i false = false → ps.getD i [] = base.getD i []) → ∀ i, (nameL N m).getD i false = false → (applyL ps m).getD i [] = base.getD i []
  | [], _, _, _, h, i, hi => h i hi
  | a :: m, ps, N, hl, h, i, hi => by
    show (applyL (applyC ps a) m).getD i [] = _
    refine pin_list base m (applyC ps a) (N.set a.page.toNat true) (by rw [applyC_len, List.length_set, hl]) (fun j hj => ?_) i hi
    by_cases e : a.page.toNat = j
    · subst e
      rcases Nat.lt_or_ge a.page.toNat N.length with hb | hb
      · rw [getD_set_eq N _ true false hb] at hj; cases hj
      · rw [List.set_eq_of_length_le hb] at hj
        have h1 := h _ hj
        unfold applyC
        split
        · rw [List.set_eq_of_length_le (by omega)]; exact h1
        · exact h1
    · rw [getD_set_ne N _ j true false e] at hj
      have h1 := h _ hj
      unfold applyC
      split
      · rw [getD_set_ne ps _ j a.B [] e]; exact h1
      · exact h1
theorem pin_fold (base : List (List UInt8)) : ∀ (ms : List (List ChV)) (x : SV), x.named.length = x.pages.length → (∀ i, x.named.getD i false = false → x.pages.getD i [] = base.getD i []) → ∀ i, (ms.foldl turnV x).named.getD i false = false → (ms.foldl turnV x).pages.getD i [] = base.getD i []
  | [], _, _, h, i, hi => h i hi
  | m :: ms, x, hl, h, i, hi => by
    refine pin_fold base ms (turnV x m) ?_ (fun j hj => pin_list base m x.pages x.named hl h j hj) i hi
    show (nameL x.named m).length = (applyL x.pages m).length
    rw [nameL_len, applyL_len, hl]
theorem fold_lens : ∀ (ms : List (List ChV)) (x : SV), (ms.foldl turnV x).pages.length = x.pages.length ∧ (ms.foldl turnV x).named.length = x.named.length
  | [], _ => ⟨rfl, rfl⟩
  | m :: ms, x => by
    obtain ⟨h1, h2⟩ := fold_lens ms (turnV x m)
    refine ⟨h1.trans ?_, h2.trans ?_⟩
    · show (applyL x.pages m).length = _; rw [applyL_len]
    · show (nameL x.named m).length = _; rw [nameL_len]
theorem fold_64 : ∀ (ms : List (List ChV)) (x : SV), (∀ l ∈ x.pages, l.length = 64) → (∀ m ∈ ms, ∀ a ∈ m, a.B.length = 64) → ∀ l ∈ (ms.foldl turnV x).pages, l.length = 64
  | [], _, h, _ => h
  | m :: ms, x, h, hm => fold_64 ms (turnV x m) (applyL_64 m x.pages h (hm m List.mem_cons_self)) (fun y hy => hm y (List.mem_cons_of_mem _ hy))
/-- The records that are found, as far as they turn pages. -/
def RecN (s : St) (L P E : Nat) (ms : List (List ChV)) : Prop := ∀ x, (recT s ⟨L, P, E⟩).foldl turnV x = ms.foldl turnV x
theorem recT_none {s : St} {L P E : Nat} (hr : rightR L P E s.V.length = true) (h : ¬ readOk (logB s L) E 0) : RecN s L P E [] := fun x => by
  unfold recT recsS
  show (recF (P : Int) (scanS (logL s L P E) E).1).1.foldl turnV x = _
  have h1 := (At.zero (logB s L) E).last h
  rw [show logL s L P E = logB s L by unfold logL; rw [if_pos hr, Int.toNat_natCast], h1]
  rfl
theorem readOk_ep {l : List UInt8} {E E' q q' : Nat} (h : readOk l E q) (hne : E' ≠ E) : ¬ readOk l E' q' := fun h2 => hne (by have := h.2.1; have := h2.2.1; omega)
theorem LogZ.other {s : St} {L P E : Nat} {ms : List (List ChV)} {u : Nat} (h : LogZ s L P E ms u) (hE : E < 4294967296) {E' : Nat} (hE' : 1 ≤ E') (hne : E' ≠ E) : ¬ readOk (logB s L) E' 0 := by
  rw [h.log]
  have hi := h.ins
  cases ms with
  | nil => exact zeros_noF hE'
  | cons m ms =>
    have hm := hi m List.mem_cons_self
    show ¬ readOk ((frameL E 0 (bytesD m) ++ frsL E 1 ms) ++ _) E' 0
    rw [List.append_assoc]
    exact readOk_ep (frame_ok E 0 (bytesD m) _ hE (by omega) (by rw [back_len hm.1]; have := hm.2.2; omega)) hne
theorem pagesL_at (s : St) (L n i : Nat) (hi : i < n) : (pagesL s L n).getD i [] = secV s (2 + L + i) := by
  unfold pagesL secV
  rw [List.getD_eq_getElem?_getD, List.getElem?_map, List.getElem?_range hi, Int.toNat_natCast]; rfl
theorem pagesL_64 {s : St} (h : Gd s) (L n : Nat) (hn : 2 + L + n ≤ s.V.length) : ∀ l ∈ pagesL s L n, l.length = 64 := fun l hl => by
  obtain ⟨i, hi, rfl⟩ := List.mem_map.1 hl
  have := List.mem_range.1 hi
  exact sectL_len h (by rw [Int.toNat_natCast]; omega)
theorem ext_getD {a b : List (List UInt8)} (hl : a.length = b.length) (h : ∀ i, i < a.length → a.getD i [] = b.getD i []) : a = b := by
  apply List.ext_getElem hl
  intro i h1 h2
  have := h i h1
  rw [List.getD_eq_getElem?_getD, List.getD_eq_getElem?_getD, List.getElem?_eq_getElem h1, List.getElem?_eq_getElem h2] at this
  exact this
/-- A store and its disk: what was written tells of the store. -/
structure Kept (s : St) (x : SV) (ms : List (List ChV)) : Prop where
  gd : Gd s
  rt : rightR x.L x.P x.E s.V.length = true
  ep : x.E < 4294967296
  best : bestK s.V.length s.S 2 = ⟨x.L, x.P, x.E⟩
  recs : RecN s x.L x.P x.E ms
  ins : ∀ m ∈ ms, InL x.P m
  pages : x.pages = (ms.foldl turnV (homeV s ⟨x.L, x.P, x.E⟩)).pages
  named : x.named = (ms.foldl turnV (homeV s ⟨x.L, x.P, x.E⟩)).named
section
variable {s : St} {x : SV} {ms : List (List ChV)}
theorem Kept.lens (h : Kept s x ms) : x.pages.length = x.P ∧ x.named.length = x.P ∧ (∀ l ∈ x.pages, l.length = 64) := by
  have h1 := rightR_true.1 h.rt
  obtain ⟨f1, f2⟩ := fold_lens ms (homeV s ⟨x.L, x.P, x.E⟩)
  refine ⟨by rw [h.pages, f1]; exact pagesL_len _ _ _, by rw [h.named, f2]; exact List.length_replicate .., ?_⟩
  rw [h.pages]
  exact fold_64 ms _ (pagesL_64 h.gd x.L x.P (by omega)) (fun m hm a ha => ((h.ins m hm).1 a ha).2)
/-- What Open makes of it. -/
theorem Kept.open_ (h : Kept s x ms) : (openV s ⟨x.L, x.P, x.E⟩).pages = x.pages ∧ (openV s ⟨x.L, x.P, x.E⟩).named = x.named ∧ (openV s ⟨x.L, x.P, x.E⟩).L = x.L ∧ (openV s ⟨x.L, x.P, x.E⟩).P = x.P ∧ (openV s ⟨x.L, x.P, x.E⟩).E = x.E := by
  have e : openV s ⟨x.L, x.P, x.E⟩ = ms.foldl turnV (homeV s ⟨x.L, x.P, x.E⟩) := h.recs _
  obtain ⟨a, b, c, _⟩ := turn_same ms (homeV s ⟨x.L, x.P, x.E⟩)
  rw [e]
  exact ⟨h.pages.symm, h.named.symm, a, b, c⟩
/-- The disk behind a Checkpoint has the pages at home. -/
theorem Kept.ck (h : Kept s x ms) (y : SV) (hy : y.pages = x.pages ∧ y.named = x.named ∧ y.L = x.L ∧ y.P = x.P ∧ y.E = x.E) (hE : x.E + 1 < 4294967296) (hno : ¬ readOk (logB s x.L) (x.E + 1) 0) : Kept (ckS s y) (ckV y) [] := by
  obtain ⟨y1, y2, y3, y4, y5⟩ := hy
  obtain ⟨l1, l2, l3⟩ := h.lens
  have h1 := rightR_true.1 h.rt
  have hr : rightR y.L y.P y.E s.V.length = true := by rw [y3, y4, y5]; exact h.rt
  have hp : y.pages.length = y.P := by rw [y1, y4]; exact l1
  have h64 : ∀ l ∈ y.pages, l.length = 64 := by rw [y1]; exact l3
  have hr' : rightR y.L y.P ((y.E + 1 : Nat) : Int) (ckS s y).V.length = true := by rw [ckS_len]; exact rightR_true.2 (by rw [y3, y4, y5]; omega)
  have hb : bestK (ckS s y).V.length (ckS s y).S 2 = ⟨y.L, y.P, y.E + 1⟩ := best_ck h.gd hr hp h64 (by rw [h.best, y5]; exact Nat.le_refl _) (by omega)
  have hpg : ∀ i, i < y.P → secV (ckS s y) (2 + y.L + i) = y.pages.getD i [] := fun i hi => by
    rw [secV_ckS h.gd hr hp h64, if_neg (by omega)]
    by_cases hn : y.named.getD i false = true
    · rw [if_pos ⟨by omega, by omega, by rw [show 2 + y.L + i - (2 + y.L) = i by omega]; exact hn⟩, show 2 + y.L + i - (2 + y.L) = i by omega]
    · rw [if_neg (fun h3 => hn (by have := h3.2.2; rwa [show 2 + y.L + i - (2 + y.L) = i by omega] at this))]
      have hn' : x.named.getD i false = false := by rw [← y2]; simpa using hn
      rw [h.named] at hn'
      have h2 := pin_fold (pagesL s x.L x.P) ms (homeV s ⟨x.L, x.P, x.E⟩) (by show (List.replicate x.P false).length = (pagesL s x.L x.P).length; rw [List.length_replicate, pagesL_len]) (fun j _ => rfl) i hn'
      rw [y1, h.pages, h2, pagesL_at s x.L x.P i (by omega), y3]
  refine { gd := ckS_good h.gd hr hp h64, rt := hr', ep := by show y.E + 1 < _; omega, best := hb, recs := ?_, ins := fun m hm => (by cases hm), pages := ?_, named := rfl }
  · refine recT_none hr' ?_
    show ¬ readOk (logB (ckS s y) y.L) (y.E + 1) 0
    have e : logB (ckS s y) y.L = logB s y.L := logB_same (ckS_len s y) (by omega) (fun j hj1 hj2 => by rw [secV_ckS h.gd hr hp h64, if_neg (by omega), if_neg (by omega)]) y.L (Nat.le_refl _)
    rw [e, y3, y5]; exact hno
  · show y.pages = pagesL (ckS s y) y.L y.P
    refine ext_getD (by rw [hp, pagesL_len]) (fun i hi => ?_)
    rw [pagesL_at _ _ _ _ (by omega), hpg i (by omega)]
theorem Kept.flA (h : Kept s x ms) : Kept (flA s) x ms := by
  have e : homeV (Go.Proofs.YtddjgncdjdjgeaaGreat.flA s) ⟨x.L, x.P, x.E⟩ = homeV s ⟨x.L, x.P, x.E⟩ := by
    unfold homeV pagesL
    rw [flA_S, flA_len]
  refine { gd := h.gd.flA, rt := by rw [flA_len]; exact h.rt, ep := h.ep, best := by rw [flA_S, flA_len]; exact h.best, recs := ?_, ins := h.ins, pages := by rw [e]; exact h.pages, named := by rw [e]; exact h.named }
  have e2 : recT (Go.Proofs.YtddjgncdjdjgeaaGreat.flA s) ⟨x.L, x.P, x.E⟩ = recT s ⟨x.L, x.P, x.E⟩ := by
    unfold recT recsS logL logB
    rw [flA_S, flA_len]
  intro y
  rw [e2]; exact h.recs y
end
end Go.Proofs.YtddjgncdjdjgeaaGreat
namespace Go.Proofs.YtddjgncdjdjgeaaGreat
open Go.RowKit
theorem recF_64 (P : Int) : ∀ (rs : List (List UInt8)), ∀ m ∈ (recF P rs).1, ∀ a ∈ m, a.B.length = 64
  | [], m, h => by simp [recF] at h
  | b :: rs, m, h => by
    rw [recF] at h
    split at h
    · rename_i hok
      rcases List.mem_cons.1 h with rfl | h
      · intro a ha
        unfold recM chsOf at ha
        obtain ⟨k, hk, rfl⟩ := List.mem_map.1 ha
        have hk' := List.mem_range.1 hk
        have h1 := hok.2.1
        show ((b.drop (2 + k * 66 + 2)).take 64).length = 64
        rw [List.length_take, List.length_drop]
        omega
      · exact recF_64 P rs m h
    · simp at h
theorem okD_op {s : St} (h : Gd s) : ∀ d ∈ opDs s, okD s.V.length d := by
  intro d hd
  unfold opDs at hd
  split at hd
  · rename_i hok
    have hr := (bestK_right s.V.length s.S 2).resolve_left (by omega)
    have hr2 := rightR_true.1 hr
    generalize bestK s.V.length s.S 2 = o at hd hok hr hr2
    have h1 : (openV s o).L = o.log ∧ (openV s o).P = o.pages ∧ (openV s o).E = o.epoch := ⟨(turn_same _ _).1, (turn_same _ _).2.1, (turn_same _ _).2.2.1⟩
    refine okD_ck (x := openV s o) (by rw [h1.1, h1.2.1, h1.2.2]; exact hr) ?_ ?_ d hd
    · rw [h1.2.1]
      exact (fold_lens _ _).1.trans (pagesL_len _ _ _)
    · refine fold_64 _ _ (pagesL_64 h _ _ (by omega)) (fun m hm a ha => ?_)
      exact recF_64 _ _ m hm a ha
  · cases hd
theorem DdV.slice {w : World} {B : Nat} {d : Deed} {u : Value} (h : DdV w B d u) : ∃ A n c, u = .slice A n c := by
  cases d with
  | none => exact ⟨none, 0, 0, h⟩
  | some x =>
    obtain ⟨A, c, e, _⟩ := own_slice h
    exact ⟨A, _, c, e⟩
def DoPost (w : World) (p bL bS bW : Nat) (s : St) (e : Ending) (w' : World) : Prop := e = .returned (.tuple #[]) ∧ DskS w' p bL bS bW s ∧ Chg [bL, bS, bW] w w'
section
variable {w : World} {p bL bS bW B : Nat} {s : St}
set_option maxHeartbeats 2000000 in
set_option maxRecDepth 100000 in
theorem do_any (h : DskS w p bL bS bW s) (d : Deed) (u : Value) (hu : DdV w B d u) (hok : okD s.V.length d) :
    Calls Tryz.prog 86 #[.agg #[.bool d.isNone, .int .i64 (keyD d : Int), u], .pointer (some ⟨p, 0, none⟩)] w (DoPost w p bL bS bW (dOne s d)) := by
  cases d with
  | none =>
    have hu' : u = .slice none 0 0 := hu
    subst hu'
    have H := Lib.hid h
    clear h hu hok
    show Calls Tryz.prog 86 #[.agg #[.bool true, .int .i64 0, .slice none 0 0], .pointer (some ⟨p, 0, none⟩)] w _
    go_enter Tryz.func86, Tryz.ntmps86
    go_upto_region 1 with fail
    have hX := Whole.new w 119 [.bool true, .int .i64 0, .slice none 0 0]
    have hal := (Chg.refl [] w).alloc (.cells #[.bool true, .int .i64 0, .slice none 0 0] 119)
    have HD := Lib.hid (Dsk.keep H.out hal)
    have HC := Lib.hid hal
    generalize w.heap.size = gx at hX ⊢
    generalize w.alloc (.cells #[.bool true, .int .i64 0, .slice none 0 0] 119) = w1 at hX HD HC ⊢
    have x0 := hX.cell 0
    clear hX hal
    go_wp2_with fail
    refine (flush_any HD.out).mono ?_
    rintro e w2 ⟨rfl, hd2, hc2⟩
    have HP := Lib.hid (show DoPost w p bL bS bW (dOne s none) (.returned (.tuple #[])) w2 from ⟨rfl, hd2, (HC.out.sub (T' := [bL, bS, bW]) (fun _ h => by cases h)).trans hc2⟩)
    clear hd2 hc2 x0
    go_wp2_with fail
    go_end0
    exact HP.out
  | some y =>
    obtain ⟨k, l⟩ := y
    obtain ⟨hk, hl⟩ := hok
    have hk' : k < s.V.length := hk
    have hl' : l.length = 64 := hl
    have hu' : w.ownsRow B 5 1 u l.length (bts l) := hu
    rw [hl'] at hu'
    obtain ⟨A, c, rfl, _, _, hs, _⟩ := own_slice hu'
    have H := Lib.hid h
    have HS := Lib.hid hs
    have HK := Lib.hid (And.intro hk' hl')
    clear h hu hu' hk hl hk' hl' hs
    show Calls Tryz.prog 86 #[.agg #[.bool false, .int .i64 (k : Int), .slice A 64 c], .pointer (some ⟨p, 0, none⟩)] w _
    go_enter Tryz.func86, Tryz.ntmps86
    go_upto_region 1 with fail
    have hX := Whole.new w 119 [.bool false, .int .i64 (k : Int), .slice A 64 c]
    have hal := (Chg.refl [] w).alloc (.cells #[.bool false, .int .i64 (k : Int), .slice A 64 c] 119)
    have HD := Lib.hid (Dsk.keep H.out hal)
    have HC := Lib.hid hal
    have HS1 := Lib.hid (HS.out.keep hal)
    generalize w.heap.size = gx at hX ⊢
    generalize w.alloc (.cells #[.bool false, .int .i64 (k : Int), .slice A 64 c] 119) = w1 at hX HD HC HS1 ⊢
    have x0 := hX.cell 0
    have x1 := hX.cell 1
    have x2 := hX.cell 2
    clear hX hal
    go_wp2_with fail
    refine (write_yes HD.out k HK.out.1 HK.out.2 HS1.out).mono ?_
    rintro e w2 ⟨rfl, hd2, hc2⟩
    have HP := Lib.hid (show DoPost w p bL bS bW (dOne s (some (k, l))) (.returned (.tuple #[])) w2 from ⟨rfl, hd2, (HC.out.sub (T' := [bL, bS, bW]) (fun _ h => by cases h)).trans (hc2.sub (by simp))⟩)
    clear hd2 hc2 x0 x1 x2
    go_wp2_with fail
    go_end0
    exact HP.out
def clampN (n : Int) (m : Nat) : Nat := min n.toNat m
def PartPost (w : World) (p bL bS bW : Nat) (s : St) (n : Int) (e : Ending) (w' : World) : Prop :=
  e = .returned (.int .i64 ((clampN n (opDs s).length : Nat) : Int)) ∧ DskS w' p bL bS bW (doD s ((opDs s).take (clampN n (opDs s).length))) ∧ Chg [bL, bS, bW] w w'
set_option maxHeartbeats 4000000 in
set_option maxRecDepth 100000 in
theorem hdeeds_any (h : DskS w p bL bS bW s) : Calls Tryz.prog 34 #[.pointer (some ⟨p, 0, none⟩)] w fun e w' => e = .returned (.int .i64 ((opDs s).length : Int)) ∧ Chg [] w w' := by
  have HD := Lib.hid (deeds_any h)
  clear h
  go_enter Tryz.func34, Tryz.ntmps34
  go_wp2_with fail
  refine HD.out.mono ?_
  rintro e w1 ⟨v, rfl, ⟨zs, hz1, hz2, _⟩, hc⟩
  obtain ⟨A, c, rfl, _⟩ := rown_slice hz2
  have HC := Lib.hid hc
  obtain ⟨n, hn⟩ : ∃ n, n = (opDs s).length := ⟨_, rfl⟩
  have HN := Lib.hid hn
  rw [← hn]
  clear hz1 hz2 hc hn
  go_wp2_with fail
  go_ret
  exact ⟨by rw [← HN.out]; rfl, HC.out⟩
set_option maxHeartbeats 4000000 in
set_option maxRecDepth 100000 in
theorem hdeeds_nil : Calls Tryz.prog 34 #[.pointer none] w fun e w' => e = .returned (.int .i64 0) ∧ Chg [] w w' := by
  have HN := Lib.hid (show ∀ W : World, Calls Tryz.prog 82 #[.pointer none] W fun e w' => e = .returned (.slice none 0 0) ∧ W = w' from fun W => by
    go_enter Tryz.func82, Tryz.ntmps82
    go_wp2_with fail
    go_ret
    exact ⟨rfl, rfl⟩)
  go_enter Tryz.func34, Tryz.ntmps34
  go_wp2_with fail
  refine (HN.out w).mono ?_
  rintro e w1 ⟨rfl, rfl⟩
  go_wp2_with fail
  go_ret
  exact ⟨rfl, Chg.refl _ _⟩
theorem doD_take (s : St) (ds : List Deed) (j : Nat) (d : Deed) (h : ds[j]? = some d) : doD s (ds.take (j + 1)) = dOne (doD s (ds.take j)) d := by
  obtain ⟨hj, he⟩ := List.getElem?_eq_some_iff.1 h
  unfold doD
  rw [List.take_succ_eq_append_getElem hj, List.foldl_append, he]; rfl
set_option maxHeartbeats 8000000 in
set_option maxRecDepth 100000 in
theorem part_any (h : DskS w p bL bS bW s) (n : Int) :
    Calls Tryz.prog 37 #[.pointer (some ⟨p, 0, none⟩), .int .i64 n] w (PartPost w p bL bS bW s n) := by
  have HD := Lib.hid (deeds_any h)
  have HOK := Lib.hid (okD_op (s := s) (Dsk.lenS h))
  have H := Lib.hid h
  have HLT := Lib.hid (show bL < w.heap.size ∧ bS < w.heap.size ∧ bW < w.heap.size from ⟨(Dsk.last h).lt, (Dsk.seen h).lt, (Dsk.wait h).lt⟩)
  clear h
  go_enter Tryz.func37, Tryz.ntmps37
  go_wp2_with fail
  refine HD.out.mono ?_
  rintro e w1 ⟨v, rfl, ⟨zs, hz1, hz2, hz3⟩, hc1⟩
  have HH := Lib.hid (show DskS w1 p bL bS bW (doD s ((opDs s).take 0)) from Dsk.keep H.out hc1)
  have HC1 := Lib.hid (show Chg [bL, bS, bW] w w1 from hc1.sub (fun _ h => by cases h))
  obtain ⟨A, c, rfl, hnc, hcm, hA⟩ := rown_slice hz2
  have HA := Lib.hid hA
  have HO := Lib.hid hz2
  have HZ := Lib.hid (And.intro hz1 hz3)
  have HSZ := Lib.hid hc1.size
  obtain ⟨m, hm⟩ : ∃ m, m = (opDs s).length := ⟨_, rfl⟩
  obtain ⟨q, hq⟩ : ∃ q, q = clampN n m := ⟨_, rfl⟩
  have HM := Lib.hid hm
  have HQ := Lib.hid (show q = clampN n m from hq)
  rw [← hm] at HO hnc ⊢
  have hqm : q ≤ m := by rw [hq]; exact Nat.min_le_right _ _
  obtain ⟨z, hz⟩ : ∃ z : Nat, z = n.toNat := ⟨_, rfl⟩
  have e1 : max n 0 = (z : Int) := by omega
  have e2 : min (z : Int) (m : Int) = (q : Int) := by rw [hq]; unfold clampN; omega
  have e3 : (q : Int) ≤ (c : Int) := by omega
  have e4 : q ≤ c := by omega
  clear hz1 hz2 hz3 hc1 hA hm hq hz HD
  go_wp2_with fail
  clear e1 e2
  go_loopw [19] (fun i wr => ∃ j : Nat, i = .int .i64 (j : Int) ∧ j ≤ q ∧ Hid (DskS wr p bL bS bW (doD s ((opDs s).take j))) ∧ Hid (Chg [bL, bS, bW] w1 wr)) (fun i _ => q - (intOf i).toNat)
  case atStart => exact ⟨0, rfl, Nat.zero_le _, HH, Lib.hid (Chg.refl _ _)⟩
  case round =>
    obtain ⟨j, rfl, hj, HDr, HCr⟩ := hrel
    clear HH
    by_cases hlt : j < q
    · have hjI : (j : Int) < (q : Int) := by omega
      have hj0 : (0 : Int) ≤ (j : Int) := by omega
      have hjz : j < zs.length := by have h1 := congrArg List.length HZ.out.1; rw [List.length_map, ← HM.out] at h1; omega
      have hT : ∀ i ∈ [bL, bS, bW], i < w.heap.size ∨ w1.heap.size ≤ i := fun i hi => by
        have := HLT.out
        simp only [List.mem_cons, List.not_mem_nil, or_false] at hi
        rcases hi with rfl | rfl | rfl <;> omega
      have hOr := rown_chg HO.out HCr.out hT
      obtain ⟨z, hz⟩ : ∃ z, zs[j]? = some z := ⟨zs[j], List.getElem?_eq_getElem hjz⟩
      obtain ⟨g0, g1, g2⟩ := dd_get zs j z hz
      obtain ⟨ga, rfl, k0⟩ := rown_cell hOr rfl g0
      obtain ⟨gb, eb, k1⟩ := rown_cell hOr rfl g1
      obtain ⟨gc, ec, k2⟩ := rown_cell hOr rfl g2
      injection eb with eb; injection eb with eb; subst eb
      injection ec with ec; injection ec with ec; subst ec
      have hdv := (HZ.out.2 z (List.mem_of_getElem? hz)).chg HCr.out hT
      have hds : (opDs s)[j]? = some z.1 := by rw [← HZ.out.1, List.getElem?_map, hz]; rfl
      have HTK := Lib.hid (doD_take s (opDs s) j z.1 hds)
      have hok := HOK.out z.1 (List.mem_of_getElem? hds)
      have h1c := hdv.one
      obtain ⟨d, u⟩ := z
      simp only at g0 g1 g2 k0 k1 k2 hdv hds HTK hok h1c
      have HDV := Lib.hid hdv
      have HOKD := Lib.hid (show okD (doD s ((opDs s).take j)).V.length d from by rw [doD_len]; exact hok)
      obtain ⟨sd, hsd⟩ : ∃ sd, sd = doD s ((opDs s).take j) := ⟨_, rfl⟩
      rw [← hsd] at HDr HTK HOKD
      clear hOr hz g0 g1 g2 hdv hds hok hjz hT hsd
      obtain ⟨Au, nu, cu, rfl⟩ := HDV.out.slice
      obtain ⟨bn, hbn⟩ : ∃ bn, bn = d.isNone := ⟨_, rfl⟩
      obtain ⟨kn, hkn⟩ : ∃ kn, kn = keyD d := ⟨_, rfl⟩
      have HBK := Lib.hid (And.intro hbn hkn)
      rw [← hbn] at k0
      rw [← hkn] at k1
      clear h1c hbn hkn
      go_upto_region 6 with fail
      have hX := Whole.new wr 119 [.bool bn, .int .i64 (kn : Int), .slice Au nu cu]
      have hal := (Chg.refl [] wr).alloc (.cells #[.bool bn, .int .i64 (kn : Int), .slice Au nu cu] 119)
      have hd2 := Dsk.keep HDr.out hal
      have hdv2 := HDV.out.keep hal
      have HC2 := Lib.hid (HCr.out.new hal)
      have hDO := do_any hd2 d _ hdv2 HOKD.out
      rw [← HBK.out.1, ← HBK.out.2] at hDO
      have HDO := Lib.hid hDO
      generalize wr.heap.size = gx at hX ⊢
      generalize wr.alloc (.cells #[.bool bn, .int .i64 (kn : Int), .slice Au nu cu] 119) = w2 at hX HC2 HDO ⊢
      have x0 := hX.cell 0
      have x1 := hX.cell 1
      have x2 := hX.cell 2
      clear hX hal hd2 hdv2 hDO k0 k1 k2
      go_wp2_with fail
      refine HDO.out.mono ?_
      rintro e w3 ⟨rfl, hd3, hc3⟩
      have HD3 := Lib.hid (show DskS w3 p bL bS bW (doD s ((opDs s).take (j + 1))) from by rw [HTK.out]; exact hd3)
      have HC3 := Lib.hid (HC2.out.trans hc3)
      clear hd3 hc3 x0 x1 x2
      go_wp2_with fail
      go_roundw
      case rel => exact ⟨j + 1, by go_num, by omega, HD3, HC3⟩
      case measure => simp [intOf]; omega
    · obtain rfl : q = j := by omega
      have hjI : ¬ (q : Int) < (q : Int) := by omega
      have HP := Lib.hid (show PartPost w p bL bS bW s n (.returned (.int .i64 (q : Int))) wr from by
        unfold PartPost
        rw [← HM.out, ← HQ.out]
        exact ⟨rfl, HDr.out, HC1.out.trans HCr.out⟩)
      go_wp2_with fail
      go_ret
      exact HP.out
end
end Go.Proofs.YtddjgncdjdjgeaaGreat
