/-
  T: LawHealC, HealT1, HealT2.
-/
import Derived.Test.YtddjgncdjdjgeaaZT8
import Derived.Test.YtddjgncdjdjgeaaZT10
import Derived.Test.YtddjgncdjdjgeaaZT37
import Derived.Test.YtddjgncdjdjgeaaZT38
namespace Go.Proofs.Ytddjgncdjdjgeaa
open Go.RowKit
theorem imageS_any {w : World} {p bL bS bW n : Nat} {s : St} (h : DskS w p bL bS bW s) (hn : n = s.L.length) : Calls Try.prog 21 #[.pointer (some ⟨p, 0, none⟩)] w fun e w' => e = .returned (.slice (some ⟨w.heap.size, 0, none⟩) n n) ∧ Whole w' w.heap.size 5 (bts s.L) ∧ Chg [] w w' := by
  subst hn
  exact image_any h
end Go.Proofs.Ytddjgncdjdjgeaa
namespace Go.Proofs.Ytddjgncdjdjgeaa
open Go.RowKit
theorem getI_congr {l m : List UInt8} {i : Nat} (hl : l.length = m.length) (h : ∀ j : Nat, i ≤ j → j < i + 4 → l[j]? = m[j]?) : getI l (i : Int) = getI m (i : Int) := by
  unfold getI
  rw [hl]
  have e : (l.drop i).take 4 = (m.drop i).take 4 := by
    apply List.ext_getElem?
    intro j
    rw [List.getElem?_take, List.getElem?_take]
    split
    · rw [List.getElem?_drop, List.getElem?_drop]
      exact h _ (by omega) (by omega)
    · rfl
  rw [show ((i : Int)).toNat = i from rfl, e]
theorem root_pre {L P a b : Nat} (ha : a < 256) (hb : b < 256) (j : Nat) (hj : j < 15) : (rootL L P a)[j]? = (rootL L P b)[j]? := by
  have key : ∀ e : Nat, e < 256 → (rootL L P e)[j]? = (markL ++ be4 L ++ be4 P ++ [0, 0, 0])[j]? := fun e he => by
    have e1 : be4 e = [0, 0, 0] ++ [UInt8.ofNat e] := by
      unfold be4
      rw [show e / 16777216 = 0 by omega, show e / 65536 = 0 by omega, show e / 256 = 0 by omega]; rfl
    unfold rootL
    rw [List.append_assoc]
    unfold headR
    rw [e1]
    simp only [List.append_assoc]
    have e2 : ∀ t : List UInt8, (markL ++ (be4 L ++ (be4 P ++ ([0, 0, 0] ++ t))))[j]? = (markL ++ (be4 L ++ (be4 P ++ [0, 0, 0])))[j]? := fun t => by
      rw [← List.append_assoc (be4 P), ← List.append_assoc (be4 L), ← List.append_assoc markL, List.getElem?_append_left (by simp [markL, be4]; omega)]
    exact e2 _
  rw [key a ha, key b hb]
/-- A root, over which another one was written as far as byte c. -/
def Slt (L P E : Nat) (M : List UInt8) : Prop := M.length = 64 ∧ ∃ c : Nat, ∀ j : Nat, M[j]? = if j < c then (rootL L P (E + 1))[j]? else (rootL L P (E - 1))[j]?
theorem Slt.root {L P E : Nat} {M : List UInt8} (h : Slt L P E M) (hL : L ≤ 2147483647) (hP : P ≤ 2147483647) (hE : E < 255) (hr : isRoot M) : M = rootL L P (E + 1) ∨ M = rootL L P (E - 1) := by
  obtain ⟨hl, c, hc⟩ := h
  have key : ∀ e : Nat, e < 256 → (∀ j : Nat, j < 16 → M[j]? = (rootL L P e)[j]?) → M = rootL L P e := fun e he hj => by
    obtain ⟨g4, g8, g12, _, _⟩ := root_get L P e (by omega) (by omega) (by omega)
    have k4 : getI M ((4 : Nat) : Int) = L := (getI_congr (by rw [hl, rootL_len]) (fun j _ hj2 => hj j (by omega))).trans g4
    have k8 : getI M ((8 : Nat) : Int) = P := (getI_congr (by rw [hl, rootL_len]) (fun j _ hj2 => hj j (by omega))).trans g8
    have k12 : getI M ((12 : Nat) : Int) = e := (getI_congr (by rw [hl, rootL_len]) (fun j _ hj2 => hj j (by omega))).trans g12
    have h3 := hr.2.2
    rw [show getI M 4 = L from k4, show getI M 8 = P from k8, show getI M 12 = e from k12] at h3
    exact h3
  rcases Nat.lt_or_ge c 16 with h16 | h16
  · refine .inr (key (E - 1) (by omega) fun j hj => ?_)
    rw [hc j]
    split
    · exact root_pre (by omega) (by omega) j (by omega)
    · rfl
  · refine .inl (key (E + 1) (by omega) fun j hj => ?_)
    rw [hc j, if_pos (by omega)]
theorem slt_old (L P E : Nat) : Slt L P E (rootL L P (E - 1)) := ⟨rootL_len _ _ _, 0, fun j => by rw [if_neg (by omega)]⟩
theorem Slt.mix {L P E : Nat} {O M : List UInt8} (h : Slt L P E O) (hl : M.length = 64) {c : Nat} (hc : ∀ j : Nat, M[j]? = if j < c then (rootL L P (E + 1))[j]? else O[j]?) : Slt L P E M := by
  obtain ⟨_, c0, h0⟩ := h
  refine ⟨hl, max c c0, fun j => ?_⟩
  rw [hc j, h0 j]
  by_cases h1 : j < c
  · rw [if_pos h1, if_pos (by omega)]
  · rw [if_neg h1]
    by_cases h2 : j < c0
    · rw [if_pos h2, if_pos (by omega)]
    · rw [if_neg h2, if_neg (by omega)]
/-- The best root beside a torn one. -/
theorem best_slt {s : St} {L P E : Nat} (hr : rightR L P E s.V.length = true) (hE : 1 ≤ E ∧ E < 255) (h0 : secV s (E % 2) = rootL L P E) (h1 : Slt L P E (secV s ((E + 1) % 2))) (hne : secV s ((E + 1) % 2) ≠ rootL L P (E + 1)) : bestK s.V.length s.S 2 = ⟨L, P, E⟩ := by
  have hLP := rightR_true.1 hr
  have hM : ∀ o : RV, o.epoch = E → bestStep s.V.length o (secV s ((E + 1) % 2)) = o := fun o ho => by
    by_cases hR : isRoot (secV s ((E + 1) % 2))
    · have h2 := (h1.root (by omega) (by omega) (by omega) hR).resolve_left hne
      rw [h2]
      obtain ⟨_, g4, g8, g12⟩ := root_is L P (E - 1) (by omega) (by omega) (by omega)
      unfold bestStep
      rw [if_neg]
      rintro ⟨_, _, h3⟩
      rw [g12] at h3
      omega
    · exact bestStep_no hR
  have hZ : (bestStep s.V.length RV.zero (secV s ((E + 1) % 2))).epoch < E := by
    by_cases hR : isRoot (secV s ((E + 1) % 2))
    · have h2 := (h1.root (by omega) (by omega) (by omega) hR).resolve_left hne
      rw [h2]
      obtain ⟨_, g4, g8, g12⟩ := root_is L P (E - 1) (by omega) (by omega) (by omega)
      unfold bestStep
      split
      · show (getI (rootL L P (E - 1)) 12 : Nat) < E
        rw [g12]; omega
      · show 0 < E; omega
    · rw [bestStep_no hR]; show 0 < E; omega
  rw [bestK_two]
  rcases Nat.mod_two_eq_zero_or_one E with he | he
  · rw [he] at h0
    rw [show (E + 1) % 2 = 1 by omega] at hM
    rw [h0, bestStep_root hr (by omega) (by show 0 < E; omega), hM _ rfl]
  · rw [he] at h0
    rw [show (E + 1) % 2 = 0 by omega] at hZ
    rw [h0, bestStep_root hr (by omega) hZ]
/-- .. and beside the elder one. -/
theorem best_new2 {s : St} {L P E : Nat} (hr : rightR L P (E + 1 : Nat) s.V.length = true) (hE : E + 1 < 4294967296) (h0 : secV s (E % 2) = rootL L P E) (h1 : secV s ((E + 1) % 2) = rootL L P (E + 1)) : bestK s.V.length s.S 2 = ⟨L, P, E + 1⟩ := by
  have hLP := rightR_true.1 hr
  obtain ⟨_, g4, g8, g12⟩ := root_is L P E (by omega) (by omega) (by omega)
  have hS : ∀ o : RV, o.epoch ≤ E → (bestStep s.V.length o (rootL L P E)).epoch ≤ E := fun o ho => by
    unfold bestStep
    split
    · show (getI (rootL L P E) 12 : Nat) ≤ E
      rw [g12]; exact Nat.le_refl _
    · exact ho
  rw [bestK_two]
  rcases Nat.mod_two_eq_zero_or_one E with he | he
  · rw [he] at h0
    rw [show (E + 1) % 2 = 1 by omega] at h1
    rw [h0, h1, bestStep_root hr hE (by have := hS RV.zero (Nat.zero_le _); omega)]
  · rw [he] at h0
    rw [show (E + 1) % 2 = 0 by omega] at h1
    rw [h0, h1, bestStep_root hr hE (by show 0 < E + 1; omega)]
    unfold bestStep
    rw [if_neg]
    rintro ⟨_, _, h3⟩
    rw [g12] at h3
    have h3' : E + 1 < E := h3
    omega
/-- What a crash leaves of a sector. -/
theorem crash_sec {s : St} (h : Sa s) (cuts : List Int) (q : Nat) : ∃ cut, cut ≤ 64 ∧ ∀ t : Nat, t < 64 → (s.crash (wl s.V s.V.length) cuts (wl s.V s.V.length).length).S[q * 64 + t]? = if t < cut then s.S[q * 64 + t]? else s.L[q * 64 + t]? := by
  have hE : Eqn s := ⟨h.ls, by rw [h.ll, h.ls]⟩
  have hw : ∀ k ∈ wl s.V s.V.length, k < s.V.length := fun k hk => ((wl_mem s.V s.V.length k).1 hk).1
  have hnd := wl_rises s.V s.V.length
  generalize hws : wl s.V s.V.length = ws at hw hnd ⊢
  have key : ∀ i, i ≤ ws.length → (q ∉ ws.take i → ∀ t : Nat, t < 64 → (s.crash ws cuts i).S[q * 64 + t]? = s.S[q * 64 + t]? ∧ (s.crash ws cuts i).L[q * 64 + t]? = s.L[q * 64 + t]?) ∧ (q ∈ ws.take i → ∃ cut, cut ≤ 64 ∧ ∀ t : Nat, t < 64 → (s.crash ws cuts i).S[q * 64 + t]? = if t < cut then s.S[q * 64 + t]? else s.L[q * 64 + t]?) := by
    intro i
    induction i with
    | zero => exact fun _ => ⟨fun _ t _ => ⟨rfl, rfl⟩, fun hm => by simp at hm⟩
    | succ i ih =>
      intro hi
      obtain ⟨ih1, ih2⟩ := ih (by omega)
      have ic := Crs.crash hE ws cuts hw (fun i => cutAt_le cuts i) i (by omega)
      have hgd : ws.getD i 0 = ws[i] := by rw [List.getD_eq_getElem?_getD, List.getElem?_eq_getElem (by omega)]; rfl
      have hkv : ws[i] < (s.crash ws cuts i).V.length := by rw [ic.v]; exact hw _ (List.getElem_mem _)
      have hS : ∀ t : Nat, t < 64 → (s.crash ws cuts (i + 1)).S[q * 64 + t]? = if ws[i] * 64 + cutAt cuts i ≤ q * 64 + t ∧ q * 64 + t < (ws[i] + 1) * 64 then (s.crash ws cuts i).L[q * 64 + t]? else (s.crash ws cuts i).S[q * 64 + t]? := fun t _ => by
        show ((s.crash ws cuts i).settle (ws.getD i 0) (cutAt cuts i)).S[_]? = _
        rw [hgd, settle_S ic.eq hkv (cutAt_le cuts i)]
      have hL : ∀ t : Nat, t < 64 → (s.crash ws cuts (i + 1)).L[q * 64 + t]? = if ws[i] * 64 ≤ q * 64 + t ∧ q * 64 + t < ws[i] * 64 + cutAt cuts i then (s.crash ws cuts i).S[q * 64 + t]? else (s.crash ws cuts i).L[q * 64 + t]? := fun t _ => by
        show ((s.crash ws cuts i).settle (ws.getD i 0) (cutAt cuts i)).L[_]? = _
        rw [hgd, settle_L ic.eq hkv (cutAt_le cuts i)]
      have hcl := cutAt_le cuts i
      have htk : ws.take (i + 1) = ws.take i ++ [ws[i]] := List.take_succ_eq_append_getElem (by omega)
      by_cases hk : q = ws[i]
      · have hnm : q ∉ ws.take i := fun hm => by
          obtain ⟨j, hj, hje⟩ := List.getElem_of_mem hm
          rw [List.length_take] at hj
          rw [List.getElem_take] at hje
          have := List.pairwise_iff_getElem.1 hnd j i (by omega) (by omega) (by omega)
          omega
        refine ⟨fun hn => absurd (by rw [htk, hk]; exact List.mem_append_right _ List.mem_cons_self) hn, fun _ => ⟨cutAt cuts i, hcl, fun t ht => ?_⟩⟩
        obtain ⟨a1, a2⟩ := ih1 hnm t ht
        rw [hS t ht, a1, a2, ← hk]
        by_cases h1 : t < cutAt cuts i
        · rw [if_neg (by omega), if_pos h1]
        · rw [if_pos (by omega), if_neg h1]
      · have hout : ∀ t : Nat, t < 64 → (s.crash ws cuts (i + 1)).S[q * 64 + t]? = (s.crash ws cuts i).S[q * 64 + t]? ∧ (s.crash ws cuts (i + 1)).L[q * 64 + t]? = (s.crash ws cuts i).L[q * 64 + t]? := fun t ht => by
          have : q < ws[i] ∨ ws[i] < q := by omega
          rw [hS t ht, hL t ht]
          constructor
          · rw [if_neg (by rcases this with h | h <;> omega)]
          · rw [if_neg (by rcases this with h | h <;> omega)]
        refine ⟨fun hn t ht => ?_, fun hm => ?_⟩
        · have hn' : q ∉ ws.take i := fun h => hn (by rw [htk]; exact List.mem_append_left _ h)
          obtain ⟨a1, a2⟩ := ih1 hn' t ht
          obtain ⟨b1, b2⟩ := hout t ht
          exact ⟨b1.trans a1, b2.trans a2⟩
        · rw [htk] at hm
          have hm' : q ∈ ws.take i := by
            rcases List.mem_append.1 hm with h | h
            · exact h
            · simp only [List.mem_singleton] at h; exact absurd h hk
          obtain ⟨cut, h1, h2⟩ := ih2 hm'
          exact ⟨cut, h1, fun t ht => ((hout t ht).1).trans (h2 t ht)⟩
  obtain ⟨k1, k2⟩ := key ws.length (Nat.le_refl _)
  rw [List.take_length] at k1 k2
  by_cases hm : q ∈ ws
  · exact k2 hm
  · refine ⟨64, Nat.le_refl _, fun t ht => ?_⟩
    rw [if_pos ht]
    exact (k1 hm t ht).1
/-- Pages whose base is turned where they are named. -/
theorem pin2_list (Bq : Nat → Prop) : ∀ (m : List ChV) (ps qs : List (List UInt8)) (N : List Bool), (∀ a ∈ m, 0 ≤ a.page) → ps.length = qs.length → N.length = ps.length → (∀ i, (N.getD i false = true ∨ Bq i) → ps.getD i [] = qs.getD i []) → ∀ i, ((nameL N m).getD i false = true ∨ Bq i) → (applyL ps m).getD i [] = (applyL qs m).getD i []
  | [], _, _, _, _, _, _, h, i, hi => h i hi
  | a :: m, ps, qs, N, hp, hl, hn, h, i, hi => by
    have ha := hp a List.mem_cons_self
    refine pin2_list Bq m (applyC ps a) (applyC qs a) (N.set a.page.toNat true) (fun b hb => hp b (List.mem_cons_of_mem _ hb)) (by rw [applyC_len, applyC_len, hl]) (by rw [applyC_len, List.length_set, hn]) (fun j hj => ?_) i hi
    unfold applyC
    by_cases hr : a.page < (ps.length : Int)
    · rw [if_pos ⟨ha, hr⟩, if_pos ⟨ha, by rw [← hl]; exact hr⟩]
      by_cases e : a.page.toNat = j
      · subst e
        rw [getD_set_eq _ _ _ _ (by omega), getD_set_eq _ _ _ _ (by omega)]
      · rw [getD_set_ne _ _ _ _ _ e] at hj
        rw [getD_set_ne _ _ _ _ _ e, getD_set_ne _ _ _ _ _ e]
        exact h j hj
    · rw [if_neg (fun hh => hr hh.2), if_neg (fun hh => hr (by rw [hl]; exact hh.2))]
      rw [List.set_eq_of_length_le (by omega)] at hj
      exact h j hj
theorem pin2_fold (Bq : Nat → Prop) : ∀ (ms : List (List ChV)) (x y : SV), (∀ m ∈ ms, ∀ a ∈ m, 0 ≤ a.page) → x.pages.length = y.pages.length → x.named.length = x.pages.length → (∀ i, (x.named.getD i false = true ∨ Bq i) → x.pages.getD i [] = y.pages.getD i []) → ∀ i, ((ms.foldl turnV x).named.getD i false = true ∨ Bq i) → (ms.foldl turnV x).pages.getD i [] = (ms.foldl turnV y).pages.getD i []
  | [], _, _, _, _, _, h, i, hi => h i hi
  | m :: ms, x, y, hp, hl, hn, h, i, hi => by
    refine pin2_fold Bq ms (turnV x m) (turnV y m) (fun m' hm' => hp m' (List.mem_cons_of_mem _ hm')) ?_ ?_ (fun j hj => pin2_list Bq m x.pages y.pages x.named (hp m List.mem_cons_self) hl hn h j hj) i hi
    · show (applyL x.pages m).length = (applyL y.pages m).length
      rw [applyL_len, applyL_len, hl]
    · show (nameL x.named m).length = (applyL x.pages m).length
      rw [nameL_len, applyL_len, hn]
end Go.Proofs.Ytddjgncdjdjgeaa
namespace Go.Proofs.Ytddjgncdjdjgeaa
open Go.RowKit
def secL (s : St) (j : Nat) : List UInt8 := sectL s.L s.V.length j
theorem sec_get {S : List UInt8} {n q t : Nat} (hq : q < n) (ht : t < 64) : (sectL S n q)[t]? = S[q * 64 + t]? := by
  unfold sectL
  rw [if_pos hq, List.getElem?_take, if_pos ht, List.getElem?_drop]
theorem sec_le (S : List UInt8) (n q : Nat) : (sectL S n q).length ≤ 64 := by
  unfold sectL
  split
  · rw [List.length_take]; omega
  · simp
theorem sec_ext {S S' : List UInt8} {n n' q : Nat} (h : ∀ t : Nat, t < 64 → (sectL S n q)[t]? = (sectL S' n' q)[t]?) : sectL S n q = sectL S' n' q := by
  apply List.ext_getElem?
  intro t
  by_cases ht : t < 64
  · exact h t ht
  · have h1 := sec_le S n q
    have h2 := sec_le S' n' q
    rw [List.getElem?_eq_none (by omega), List.getElem?_eq_none (by omega)]
theorem secL_flA {s : St} (h : Sa s) (j : Nat) : secL (flA s) j = secV s j := by
  unfold secL secV
  rw [flA_len, flA_L h]
theorem secL_write (s : St) (q : Nat) (x : List UInt8) (j : Nat) : secL (s.write q x) j = secL s j := by
  unfold secL
  rw [write_len]; rfl
theorem Sa.dOne {s : St} (h : Sa s) {d : Deed} (hd : okD s.V.length d) : Sa (dOne s d) := by
  cases d with
  | none => exact h.flA
  | some y => exact h.write hd.1 hd.2
theorem Sa.gd {s : St} (h : Sa s) : Gd s := h.ls
/-- Out of what is written all stays. -/
theorem doD_out (W : Nat → Prop) (B : Nat → List UInt8) (n : Nat) : ∀ (ds : List Deed) (s : St), Sa s → s.V.length = n → (∀ d ∈ ds, okD n d) → (∀ d ∈ ds, ∀ y, d = some y → W y.1) → (∀ q, ¬ W q → secV s q = B q ∧ secL s q = B q) → Sa (doD s ds) ∧ ∀ q, ¬ W q → secV (doD s ds) q = B q ∧ secL (doD s ds) q = B q
  | [], _, h, _, _, _, hB => ⟨h, hB⟩
  | d :: ds, s, h, hn, ho, hw, hB => by
    have hd : okD s.V.length d := by rw [hn]; exact ho d List.mem_cons_self
    refine doD_out W B n ds (dOne s d) (h.dOne hd) ((dOne_len s d).trans hn) (fun d' h' => ho d' (List.mem_cons_of_mem _ h')) (fun d' h' => hw d' (List.mem_cons_of_mem _ h')) (fun q hq => ?_)
    obtain ⟨h1, h2⟩ := hB q hq
    cases d with
    | none => exact ⟨(secV_flA s q).trans h1, (secL_flA h q).trans h1⟩
    | some y =>
      have hy := hw _ List.mem_cons_self y rfl
      refine ⟨?_, (secL_write s y.1 y.2 q).trans h2⟩
      show secV (s.write y.1 y.2) q = _
      rw [secV_write h.gd hd.1 hd.2, if_neg (fun e => hq (by rw [e]; exact hy))]
      exact h1
/-- A crash, by sectors. -/
theorem crash_secV {s : St} (h : Sa s) (cuts : List Int) {l : List UInt8} (he : s.crash (wl s.V s.V.length) cuts (wl s.V s.V.length).length = ⟨l, l, falses s.V.length⟩) {q : Nat} (hq : q < s.V.length) : ∃ c : Nat, ∀ t : Nat, t < 64 → (secV ⟨l, l, falses s.V.length⟩ q)[t]? = if t < c then (secV s q)[t]? else (secL s q)[t]? := by
  obtain ⟨c, _, hc⟩ := crash_sec h cuts q
  rw [he] at hc
  refine ⟨c, fun t ht => ?_⟩
  unfold secV secL
  have hf : (St.mk l l (falses s.V.length)).V.length = s.V.length := falses_len _
  rw [hf, sec_get hq ht, sec_get hq ht, sec_get hq ht]
  exact hc t ht
theorem crash_secE {s : St} (h : Sa s) (cuts : List Int) {l : List UInt8} (he : s.crash (wl s.V s.V.length) cuts (wl s.V s.V.length).length = ⟨l, l, falses s.V.length⟩) {q : Nat} (hq : q < s.V.length) (hs : secL s q = secV s q) : secV ⟨l, l, falses s.V.length⟩ q = secV s q := by
  obtain ⟨c, hc⟩ := crash_secV h cuts he hq
  refine sec_ext (fun t ht => ?_)
  have h1 := hc t ht
  rw [hs, ite_self] at h1
  exact h1
/-- What is found stays where the pages that are not named, and the log, stay. -/
theorem open_stay {s s' : St} {L P E : Nat} (hv : s'.V.length = s.V.length) (hr : rightR L P E s.V.length = true) (hlog : ∀ j, 2 ≤ j → j < 2 + L → secV s' j = secV s j) (hh : ∀ i, i < P → (openV s ⟨L, P, E⟩).named.getD i false = false → secV s' (2 + L + i) = secV s (2 + L + i)) : (openV s' ⟨L, P, E⟩).pages = (openV s ⟨L, P, E⟩).pages := by
  have h1 := rightR_true.1 hr
  have hlg : logB s' L = logB s L := logB_same hv (by omega) hlog L (Nat.le_refl _)
  have hT : recT s' ⟨L, P, E⟩ = recT s ⟨L, P, E⟩ := by
    unfold recT recsS logL
    rw [hv, Int.toNat_natCast, hlg]
  have hpg : ∀ m ∈ recT s ⟨L, P, E⟩, ∀ a ∈ m, 0 ≤ a.page := fun m hm a ha => by
    have hrb := recF_right (P : Int) _ m hm
    have hrs : rightS (-1) (P : Int) m = true := by unfold rightB at hrb; rw [Bool.and_eq_true] at hrb; exact hrb.2
    have := (rs_len hrs (by omega)).2 a ha
    omega
  have e1 : openV s' ⟨L, P, E⟩ = (recT s ⟨L, P, E⟩).foldl turnV (homeV s' ⟨L, P, E⟩) := by unfold openV; rw [hT]
  have e2 : openV s ⟨L, P, E⟩ = (recT s ⟨L, P, E⟩).foldl turnV (homeV s ⟨L, P, E⟩) := rfl
  have hl1 : (openV s' ⟨L, P, E⟩).pages.length = P := by rw [e1]; exact (fold_lens _ _).1.trans (pagesL_len _ _ _)
  have hl2 : (openV s ⟨L, P, E⟩).pages.length = P := by rw [e2]; exact (fold_lens _ _).1.trans (pagesL_len _ _ _)
  have hnm : ((recT s ⟨L, P, E⟩).foldl turnV (homeV s' ⟨L, P, E⟩)).named = (openV s ⟨L, P, E⟩).named := by
    rw [e2, named_fold, named_fold]; rfl
  refine ext_getD (hl1.trans hl2.symm) (fun i hi => ?_)
  rw [hl1] at hi
  have hpin := pin2_fold (fun i => i < P ∧ (openV s ⟨L, P, E⟩).named.getD i false = false) (recT s ⟨L, P, E⟩) (homeV s' ⟨L, P, E⟩) (homeV s ⟨L, P, E⟩) hpg (by show (pagesL s' L P).length = (pagesL s L P).length; rw [pagesL_len, pagesL_len]) (by show (List.replicate P false).length = (pagesL s' L P).length; rw [List.length_replicate, pagesL_len]) (fun j hj => by
    show (pagesL s' L P).getD j [] = (pagesL s L P).getD j []
    rcases hj with hj | ⟨hj1, hj2⟩
    · have : (List.replicate P false).getD j false = true := hj
      rw [List.getD_eq_getElem?_getD, List.getElem?_replicate] at this
      split at this <;> simp at this
    · rw [pagesL_at _ _ _ _ hj1, pagesL_at _ _ _ _ hj1]
      exact hh j hj1 hj2) i
  rw [hnm] at hpin
  rw [e1, e2]
  refine hpin ?_
  cases hb : (openV s ⟨L, P, E⟩).named.getD i false with
  | true => exact .inl rfl
  | false => exact .inr ⟨hi, rfl⟩
/-- A settled disk on which one store was opened, in part or whole, again and again. -/
structure HJ0 (n b : Nat) (PG : List (List UInt8)) (s : St) (L P E : Nat) : Prop where
  v : s.V.length = n
  sa : Sa s
  ls : s.L = s.S
  rt : rightR L P E n = true
  e1 : 1 ≤ E
  eb : E ≤ b
  best : bestK n s.S 2 = ⟨L, P, E⟩
  top : secV s (E % 2) = rootL L P E
  slot : Slt L P E (secV s ((E + 1) % 2))
  log : getI (logB s L) 0 ≤ E
  pg : (openV s ⟨L, P, E⟩).pages = PG
def HJ (n b : Nat) (PG : List (List UInt8)) (s : St) : Prop := ∃ L P E, HJ0 n b PG s L P E
theorem HJ0.stay {n b : Nat} {PG : List (List UInt8)} {s s' : St} {L P E : Nat} (h : HJ0 n b PG s L P E) (hv : s'.V.length = n) (hsa : Sa s') (hls : s'.L = s'.S) (htop : secV s' (E % 2) = rootL L P E) (hslot : Slt L P E (secV s' ((E + 1) % 2)))
    (hbs : bestK n s'.S 2 = ⟨L, P, E⟩) (hlog : ∀ j, 2 ≤ j → j < 2 + L → secV s' j = secV s j) (hh : ∀ i, i < P → (openV s ⟨L, P, E⟩).named.getD i false = false → secV s' (2 + L + i) = secV s (2 + L + i)) : HJ0 n (b + 1) PG s' L P E := by
  have h1 := rightR_true.1 h.rt
  have hv' : s'.V.length = s.V.length := hv.trans h.v.symm
  have hlg : logB s' L = logB s L := logB_same hv' (by rw [h.v]; omega) hlog L (Nat.le_refl _)
  exact ⟨hv, hsa, hls, h.rt, h.e1, by have := h.eb; omega, hbs, htop, hslot, by rw [hlg]; exact h.log, (open_stay hv' (by rw [h.v]; exact h.rt) hlog hh).trans h.pg⟩
theorem homeDs_in (x : SV) : ∀ k, k ≤ x.P → ∀ d ∈ homeDs x k, ∀ y, d = some y → 2 + x.L ≤ y.1 ∧ y.1 < 2 + x.L + x.P ∧ x.named.getD (y.1 - (2 + x.L)) false = true
  | 0, _, d, h, _, _ => by cases h
  | k + 1, hk, d, h, y, hy => by
    rw [homeDs] at h
    rcases List.mem_append.1 h with h | h
    · exact homeDs_in x k (by omega) d h y hy
    · split at h
      · rename_i hn
        simp only [List.mem_singleton] at h
        rw [h] at hy
        injection hy with hy
        subst hy
        refine ⟨by show 2 + x.L ≤ 2 + x.L + k; omega, by show 2 + x.L + k < _; omega, ?_⟩
        show x.named.getD (2 + x.L + k - (2 + x.L)) false = true
        rw [show 2 + x.L + k - (2 + x.L) = k by omega]
        exact hn
      · cases h
theorem bestK_secs {s s' : St} {n : Nat} (hv : s.V.length = n) (hv' : s'.V.length = n) (h0 : secV s' 0 = secV s 0) (h1 : secV s' 1 = secV s 1) : bestK n s'.S 2 = bestK n s.S 2 := by
  have e1 := bestK_two s
  have e2 := bestK_two s'
  rw [hv] at e1
  rw [hv'] at e2
  rw [e1, e2, h0, h1]
theorem HJ0.step {n b : Nat} {PG : List (List UInt8)} {s : St} {L P E : Nat} (h : HJ0 n b PG s L P E) (hb : b ≤ 200) (k : Nat) (cuts : List Int) : ∃ l, (doD s ((opDs s).take k)).crash (wl (doD s ((opDs s).take k)).V (doD s ((opDs s).take k)).V.length) cuts (wl (doD s ((opDs s).take k)).V (doD s ((opDs s).take k)).V.length).length = ⟨l, l, falses n⟩ ∧ HJ n (b + 1) PG ⟨l, l, falses n⟩ := by
  have h1 := rightR_true.1 h.rt
  have he1 := h.e1
  have heb := h.eb
  have hvn := h.v
  have hbest : bestK s.V.length s.S 2 = ⟨L, P, E⟩ := by rw [hvn]; exact h.best
  obtain ⟨x, hx⟩ : ∃ x, x = openV s ⟨L, P, E⟩ := ⟨_, rfl⟩
  have xL : x.L = L := by rw [hx]; exact (turn_same _ _).1
  have xP : x.P = P := by rw [hx]; exact (turn_same _ _).2.1
  have xE : x.E = E := by rw [hx]; exact (turn_same _ _).2.2.1
  have hr : rightR x.L x.P x.E s.V.length = true := by rw [xL, xP, xE, hvn]; exact h.rt
  have hp : x.pages.length = x.P := by rw [xP, hx]; exact (fold_lens _ _).1.trans (pagesL_len _ _ _)
  have h64 : ∀ l ∈ x.pages, l.length = 64 := by
    rw [hx]
    exact fold_64 _ _ (pagesL_64 h.sa.gd _ _ (by rw [hvn]; show 2 + L + P ≤ n; omega)) (fun m hm a ha => recF_64 _ _ m hm a ha)
  have hop : opDs s = (none :: (homeDs x x.P ++ [none])) ++ [rootD x, none] := by
    unfold opDs
    rw [hbest, if_pos (by show 0 < E ∧ E < 4294967295; omega), ← hx]
    unfold ckDs
    simp
  have hLS : ∀ q, secL s q = secV s q := fun q => by unfold secL secV; rw [h.ls]
  have hok : ∀ d ∈ none :: (homeDs x x.P ++ [none]), okD n d := fun d hd => by
    rcases List.mem_cons.1 hd with rfl | hd
    · trivial
    · rcases List.mem_append.1 hd with hd | hd
      · rw [← hvn]; exact okD_home hr hp h64 _ (Nat.le_refl _) d hd
      · simp only [List.mem_singleton] at hd; subst hd; trivial
  have hin : ∀ d ∈ none :: (homeDs x x.P ++ [none]), ∀ y, d = some y → (fun q => 2 + L ≤ q ∧ q < 2 + L + P ∧ x.named.getD (q - (2 + L)) false = true) y.1 := fun d hd y hy => by
    rcases List.mem_cons.1 hd with rfl | hd
    · cases hy
    · rcases List.mem_append.1 hd with hd | hd
      · have := homeDs_in x _ (Nat.le_refl _) d hd y hy
        rw [xL, xP] at this
        exact this
      · simp only [List.mem_singleton] at hd; subst hd; cases hy
  have hunn : ∀ i, i < P → x.named.getD i false = false → ¬ (2 + L ≤ 2 + L + i ∧ 2 + L + i < 2 + L + P ∧ x.named.getD (2 + L + i - (2 + L)) false = true) := fun i _ hi h3 => by
    have := h3.2.2
    rw [show 2 + L + i - (2 + L) = i by omega, hi] at this
    cases this
  rw [hop]
  rcases Nat.lt_or_ge (none :: (homeDs x x.P ++ [none])).length k with hk | hk
  · -- the root was written
    obtain ⟨s3, hs3⟩ : ∃ s3, s3 = Go.Proofs.Ytddjgncdjdjgeaa.flA (homeN (Go.Proofs.Ytddjgncdjdjgeaa.flA s) x x.P) := ⟨_, rfl⟩
    have hA : doD s (none :: (homeDs x x.P ++ [none])) = s3 := by
      show doD (dOne s none) (homeDs x x.P ++ [none]) = _
      rw [doD_app, doD_home, hs3]; rfl
    have hsa3' : Sa (homeN (Go.Proofs.Ytddjgncdjdjgeaa.flA s) x x.P) := h.sa.flA.homeN (by rw [flA_len]; exact hr) hp h64 x.P (Nat.le_refl _)
    have hsa3 : Sa s3 := by rw [hs3]; exact hsa3'.flA
    have hv3 : s3.V.length = n := by rw [hs3, flA_len, homeN_len, flA_len]; exact hvn
    have hL3 : ∀ q, secL s3 q = secV s3 q := fun q => by rw [hs3, secL_flA hsa3', secV_flA]
    have hS3 : ∀ q, secV s3 q = if 2 + L ≤ q ∧ q < 2 + L + P ∧ x.named.getD (q - (2 + L)) false = true then x.pages.getD (q - (2 + L)) [] else secV s q := fun q => by
      rw [hs3, secV_flA, secV_homeN h.sa.gd.flA (by rw [flA_len]; exact hr) hp h64 x.P (Nat.le_refl _), secV_flA, xL, xP]
    have hsl : (E + 1) % 2 < s3.V.length := by rw [hv3]; omega
    have hrl : (rootL L P (E + 1)).length = 64 := rootL_len _ _ _
    have hsa4 : Sa (s3.write ((E + 1) % 2) (rootL L P (E + 1))) := hsa3.write hsl hrl
    obtain ⟨t, ht, hsat, hvt, htq, ht1, ht2⟩ : ∃ t, doD s (((none :: (homeDs x x.P ++ [none])) ++ [rootD x, none]).take k) = t ∧ Sa t ∧ t.V.length = n ∧ (∀ q, q ≠ (E + 1) % 2 → secV t q = secV s3 q ∧ secL t q = secV s3 q) ∧ secV t ((E + 1) % 2) = rootL L P (E + 1) ∧ Slt L P E (secL t ((E + 1) % 2)) := by
      have hold : secL s3 ((E + 1) % 2) = secV s ((E + 1) % 2) := by rw [hL3, hS3, if_neg (by omega)]
      have hw1 : ∀ q, secV (s3.write ((E + 1) % 2) (rootL L P (E + 1))) q = if q = (E + 1) % 2 then rootL L P (E + 1) else secV s3 q := fun q => secV_write hsa3.gd hsl hrl q
      have hrd : rootD x = some ((E + 1) % 2, rootL L P (E + 1)) := by unfold rootD; rw [xE, xL, xP]
      rcases Nat.lt_or_ge ((none :: (homeDs x x.P ++ [none])).length + 1) k with hk2 | hk2
      · refine ⟨Go.Proofs.Ytddjgncdjdjgeaa.flA (s3.write ((E + 1) % 2) (rootL L P (E + 1))), ?_, hsa4.flA, by rw [flA_len, write_len]; exact hv3, fun q hq => ?_, ?_, ?_⟩
        · rw [List.take_of_length_le (by rw [List.length_append]; show _ + 2 ≤ k; omega), doD_app, hA, hrd]; rfl
        · rw [secV_flA, secL_flA hsa4, hw1, if_neg hq]
          exact ⟨rfl, rfl⟩
        · rw [secV_flA, hw1, if_pos rfl]
        · rw [secL_flA hsa4, hw1, if_pos rfl]
          exact ⟨hrl, 64, fun j => by
            by_cases hj : j < 64
            · rw [if_pos hj]
            · rw [if_neg hj, List.getElem?_eq_none (by omega), List.getElem?_eq_none (by rw [rootL_len]; omega)]⟩
      · refine ⟨s3.write ((E + 1) % 2) (rootL L P (E + 1)), ?_, hsa4, by rw [write_len]; exact hv3, fun q hq => ?_, ?_, ?_⟩
        · rw [show k = (none :: (homeDs x x.P ++ [none])).length + 1 by omega, List.take_length_add_append, doD_app, hA, hrd]; rfl
        · rw [hw1, if_neg hq, secL_write, hL3]
          exact ⟨rfl, rfl⟩
        · rw [hw1, if_pos rfl]
        · rw [secL_write, hold]; exact h.slot
    rw [ht]
    obtain ⟨l, hl, he⟩ := hsat.crash cuts
    have hq := fun q (hqn : q < n) (hne : q ≠ (E + 1) % 2) => crash_secE hsat cuts he (q := q) (by rw [hvt]; exact hqn) (by rw [(htq q hne).1, (htq q hne).2])
    obtain ⟨c, hc⟩ := crash_secV hsat cuts he (q := (E + 1) % 2) (by rw [hvt]; omega)
    rw [hvt] at hl he hq hc
    rw [hvt]
    have hvl : (St.mk l l (falses n)).V.length = n := falses_len n
    obtain ⟨s', hs'⟩ : ∃ s', s' = St.mk l l (falses n) := ⟨_, rfl⟩
    have hsa' : Sa s' := by rw [hs']; exact Sa.of_len hl
    have hls' : s'.L = s'.S := by rw [hs']
    rw [← hs'] at hvl hq hc he
    have hq' : ∀ q, q < n → q ≠ (E + 1) % 2 → secV s' q = secV s3 q := fun q h2 h3 => (hq q h2 h3).trans (htq q h3).1
    have hsl' : Slt L P E (secV s' ((E + 1) % 2)) := by
      have hl64 : (secV s' ((E + 1) % 2)).length = 64 := by
        unfold secV sectL
        have := hsa'.gd
        unfold Gd at this
        rw [if_pos (by rw [hvl]; omega), List.length_take, List.length_drop]
        omega
      refine ht2.mix hl64 (c := c) (fun j => ?_)
      by_cases hj : j < 64
      · rw [← ht1]; exact hc j hj
      · rw [List.getElem?_eq_none (by omega)]
        split
        · rw [List.getElem?_eq_none (by rw [rootL_len]; omega)]
        · rw [List.getElem?_eq_none (by rw [ht2.1]; omega)]
    have hlow : ∀ q, q < 2 + L → q ≠ (E + 1) % 2 → secV s' q = secV s q := fun q h2 h3 => by rw [hq' q (by omega) h3, hS3, if_neg (by omega)]
    have htop : secV s' (E % 2) = rootL L P E := (hlow _ (by omega) (by omega)).trans h.top
    have hlogq : ∀ j, 2 ≤ j → j < 2 + L → secV s' j = secV s j := fun j h2 h3 => hlow j h3 (by omega)
    have hv's : s'.V.length = s.V.length := hvl.trans hvn.symm
    refine ⟨l, by rw [he]; exact hs', ?_⟩
    rw [← hs']
    by_cases hnew : secV s' ((E + 1) % 2) = rootL L P (E + 1)
    · have hr1 : rightR L P ((E + 1 : Nat) : Int) s'.V.length = true := by rw [hvl]; exact rightR_true.2 (by omega)
      have hlg : logB s' L = logB s L := logB_same hv's (by omega) hlogq L (Nat.le_refl _)
      have hb2 := best_new2 (s := s') (L := L) (P := P) (E := E) hr1 (by omega) htop hnew
      rw [hvl] at hb2
      have e2 : (E + 1 + 1) % 2 = E % 2 := by omega
      refine ⟨L, P, E + 1, hvl, hsa', hls', by rw [← hvl]; exact hr1, by omega, by omega, hb2, hnew, ?_, ?_, ?_⟩
      · rw [e2, htop]; exact slt_old L P (E + 1)
      · rw [hlg]; have := h.log; omega
      · have hno : ¬ readOk (logB s' L) (E + 1) 0 := fun h2 => by
          have h3 := h2.2.1
          rw [hlg] at h3
          have := h.log
          omega
        have e3 : openV s' ⟨L, P, E + 1⟩ = homeV s' ⟨L, P, E + 1⟩ := recT_none hr1 hno _
        rw [e3, ← h.pg, ← hx]
        show pagesL s' L P = _
        refine ext_getD (by rw [pagesL_len, hp, xP]) (fun i hi => ?_)
        rw [pagesL_len] at hi
        rw [pagesL_at _ _ _ _ hi, hq' _ (by omega) (by omega), hS3]
        by_cases hn : x.named.getD i false = true
        · rw [if_pos ⟨by omega, by omega, by rw [show 2 + L + i - (2 + L) = i by omega]; exact hn⟩, show 2 + L + i - (2 + L) = i by omega]
        · have hn' : x.named.getD i false = false := by simpa using hn
          rw [if_neg (hunn i hi hn')]
          rw [hx, openV_named] at hn'
          have h2 := pin_fold (pagesL s L P) (recT s ⟨L, P, E⟩) (homeV s ⟨L, P, E⟩) (by show (List.replicate P false).length = (pagesL s L P).length; rw [List.length_replicate, pagesL_len]) (fun j _ => rfl) i (by rw [named_fold]; exact hn')
          rw [hx]
          show _ = ((recT s ⟨L, P, E⟩).foldl turnV (homeV s ⟨L, P, E⟩)).pages.getD i []
          rw [h2, pagesL_at s L P i hi]
    · have hb2 := best_slt (s := s') (L := L) (P := P) (E := E) (by rw [hvl]; exact h.rt) (by omega) htop hsl' hnew
      rw [hvl] at hb2
      refine ⟨L, P, E, h.stay hvl hsa' hls' htop hsl' hb2 hlogq (fun i hi hn => ?_)⟩
      rw [← hx] at hn
      rw [hq' _ (by omega) (by omega), hS3, if_neg (hunn i hi hn)]
  · -- no root yet
    rw [List.take_append_of_le_length hk]
    obtain ⟨hsat, hB⟩ := doD_out (fun q => 2 + L ≤ q ∧ q < 2 + L + P ∧ x.named.getD (q - (2 + L)) false = true) (secV s) n ((none :: (homeDs x x.P ++ [none])).take k) s h.sa hvn (fun d hd => hok d (List.mem_of_mem_take hd)) (fun d hd => hin d (List.mem_of_mem_take hd)) (fun q _ => ⟨rfl, hLS q⟩)
    have hvt : (doD s ((none :: (homeDs x x.P ++ [none])).take k)).V.length = n := (doD_len _ _).trans hvn
    generalize doD s ((none :: (homeDs x x.P ++ [none])).take k) = t at hsat hB hvt ⊢
    obtain ⟨l, hl, he⟩ := hsat.crash cuts
    have hq := fun q (hqn : q < n) hW => (crash_secE hsat cuts he (q := q) (by rw [hvt]; exact hqn) (by rw [(hB q hW).1, (hB q hW).2])).trans (hB q hW).1
    rw [hvt] at hl he hq
    rw [hvt]
    have hvl : (St.mk l l (falses n)).V.length = n := falses_len n
    obtain ⟨s', hs'⟩ : ∃ s', s' = St.mk l l (falses n) := ⟨_, rfl⟩
    have hsa' : Sa s' := by rw [hs']; exact Sa.of_len hl
    have hls' : s'.L = s'.S := by rw [hs']
    rw [← hs'] at hvl hq he
    refine ⟨l, by rw [he]; exact hs', ?_⟩
    rw [← hs']
    have h0 := hq 0 (by omega) (by omega)
    have h01 := hq 1 (by omega) (by omega)
    refine ⟨L, P, E, h.stay hvl hsa' hls' ((hq _ (by omega) (by omega)).trans h.top) (by rw [hq _ (by omega) (by omega)]; exact h.slot) ((bestK_secs hvn hvl h0 h01).trans h.best) (fun j h2 h3 => hq j (by omega) (by omega)) (fun i hi hn => ?_)⟩
    rw [← hx] at hn
    exact hq _ (by omega) (hunn i hi hn)
end Go.Proofs.Ytddjgncdjdjgeaa
