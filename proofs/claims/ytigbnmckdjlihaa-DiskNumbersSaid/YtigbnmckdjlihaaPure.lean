/-
  Lists alone: what settle, Flush and Crash make of the bytes.
-/
import Derived.Test.YtigbnmckdjlihaaFlush
namespace Go.Proofs.Ytigbnmckdjlihaa

theorem splice_get {α : Type} (L : List α) (o : Nat) (m : List α) (h : o + m.length ≤ L.length) (i : Nat) :
    (splice L o m)[i]? = if i < o then L[i]? else if i < o + m.length then m[i - o]? else L[i]? := by
  unfold splice
  have ht : (L.take o).length = o := by rw [List.length_take]; omega
  by_cases h1 : i < o
  · rw [if_pos h1, List.getElem?_append_left (by omega), List.getElem?_take_of_lt h1]
  · rw [if_neg h1, List.getElem?_append_right (by omega), ht]
    by_cases h2 : i < o + m.length
    · rw [if_pos h2, List.getElem?_append_left (by omega)]
    · rw [if_neg h2, List.getElem?_append_right (by omega), List.getElem?_drop]
      congr 1
      omega
theorem cut_get {α : Type} (L : List α) (o n i : Nat) : ((L.drop o).take n)[i]? = if i < n then L[o + i]? else none := by
  rw [List.getElem?_take]
  split
  · rw [List.getElem?_drop]
  · rfl

section
variable {L S : List UInt8} {k cut n : Nat}
theorem setL_get (l1 : 64 * (k + 1) ≤ L.length) (s1 : 64 * (k + 1) ≤ S.length) (hc : cut ≤ 64) (i : Nat) :
    (setL L S k cut)[i]? = if k * 64 ≤ i ∧ i < k * 64 + cut then S[i]? else L[i]? := by
  unfold setL
  have e : ((S.drop (k * 64)).take cut).length = cut := by rw [List.length_take, List.length_drop]; omega
  rw [splice_get _ _ _ (by omega), e, cut_get]
  by_cases h1 : i < k * 64
  · rw [if_pos h1, if_neg (by omega)]
  · rw [if_neg h1]
    by_cases h2 : i < k * 64 + cut
    · rw [if_pos h2, if_pos (by omega), if_pos (by omega)]
      congr 1
      omega
    · rw [if_neg h2, if_neg (by omega)]
theorem setS_get (l1 : 64 * (k + 1) ≤ L.length) (s1 : 64 * (k + 1) ≤ S.length) (hc : cut ≤ 64) (i : Nat) :
    (setS L S k cut)[i]? = if k * 64 + cut ≤ i ∧ i < k * 64 + 64 then L[i]? else S[i]? := by
  unfold setS
  have e : ((L.drop (k * 64 + cut)).take (64 - cut)).length = 64 - cut := by rw [List.length_take, List.length_drop]; omega
  rw [splice_get _ _ _ (by omega), e, cut_get]
  by_cases h1 : i < k * 64 + cut
  · rw [if_pos h1, if_neg (by omega)]
  · rw [if_neg h1]
    by_cases h2 : i < k * 64 + cut + (64 - cut)
    · rw [if_pos h2, if_pos (by omega), if_pos (by omega)]
      congr 1
      omega
    · rw [if_neg h2, if_neg (by omega)]
end

/-- A state whose sizes are right, and whose sectors that do not wait are seen as they last. -/
structure Sane (s : St) (n : Nat) : Prop where
  lv : s.V.length = n
  ll : s.L.length = 64 * n
  ls : s.S.length = 64 * n
  eq : ∀ j, j < n → s.V[j]? = some false → ∀ i, i < 64 → s.L[j * 64 + i]? = s.S[j * 64 + i]?

theorem Sane.settle {s : St} {n k cut : Nat} (h : Sane s n) (hk : k < n) (hc : cut ≤ 64) : Sane (s.settle k cut) n := by
  have l1 : 64 * (k + 1) ≤ s.L.length := by rw [h.ll]; omega
  have s1 : 64 * (k + 1) ≤ s.S.length := by rw [h.ls]; omega
  refine ⟨by simp [St.settle, h.lv], by simp only [St.settle]; rw [setL_len l1 hc, h.ll], by simp only [St.settle]; rw [setS_len s1 hc, h.ls], fun j hj hv i hi => ?_⟩
  simp only [St.settle] at hv ⊢
  rw [setL_get l1 s1 hc, setS_get l1 s1 hc]
  by_cases hjk : j = k
  · subst hjk
    by_cases h1 : i < cut
    · rw [if_pos (by omega), if_neg (by omega)]
    · rw [if_neg (by omega), if_pos (by omega)]
  · rw [List.getElem?_set_ne (by omega)] at hv
    have hne : j < k ∨ k < j := by omega
    rcases hne with hlt | hlt
    · have : j * 64 + i < k * 64 := by omega
      rw [if_neg (by omega), if_neg (by omega)]
      exact h.eq j hj hv i hi
    · have : k * 64 + 64 ≤ j * 64 + i := by omega
      rw [if_neg (by omega), if_neg (by omega)]
      exact h.eq j hj hv i hi

theorem Sane.write {s : St} {n k : Nat} {x : List UInt8} (h : Sane s n) (hk : k < n) (hx : x.length = 64) : Sane ⟨s.L, splice s.S (k * 64) x, s.V.set k true⟩ n := by
  have s1 : k * 64 + x.length ≤ s.S.length := by rw [h.ls]; omega
  refine ⟨by simp [h.lv], h.ll, by show (splice s.S (k * 64) x).length = _; rw [length_splice _ _ _ s1, h.ls], fun j hj hv i hi => ?_⟩
  show s.L[_]? = (splice s.S (k * 64) x)[_]?
  have hjk : k ≠ j := by
    rintro rfl
    simp only [] at hv
    rw [List.getElem?_set_self (by rw [h.lv]; exact hk)] at hv
    cases hv
  simp only [] at hv
  rw [List.getElem?_set_ne hjk] at hv
  rw [splice_get _ _ _ s1, hx]
  have hne : j < k ∨ k < j := by omega
  rcases hne with hlt | hlt
  · rw [if_pos (by omega)]
    exact h.eq j hj hv i hi
  · rw [if_neg (by omega), if_neg (by omega)]
    exact h.eq j hj hv i hi

/-- Where nothing waits, what is seen lasts. -/
theorem Sane.same {s : St} {n : Nat} (h : Sane s n) (hv : ∀ j, j < n → s.V[j]? = some false) : s.L = s.S := by
  apply List.ext_getElem?
  intro i
  by_cases hi : i < 64 * n
  · have := h.eq (i / 64) (by omega) (hv _ (by omega)) (i % 64) (by omega)
    rwa [show i / 64 * 64 + i % 64 = i by omega] at this
  · rw [List.getElem?_eq_none (by rw [h.ll]; omega), List.getElem?_eq_none (by rw [h.ls]; omega)]

theorem Sane.crash {s : St} {n : Nat} (h : Sane s n) (ws : List Nat) (cuts : List Int) (hws : ∀ j (hj : j < ws.length), ws[j] < n) : ∀ i, i ≤ ws.length → Sane (s.crash ws cuts i) n
  | 0, _ => h
  | i + 1, hi => by
    have ih := Sane.crash h ws cuts hws i (by omega)
    have e : ws.getD i 0 = ws[i] := by rw [List.getD_eq_getElem?_getD, List.getElem?_eq_getElem (by omega)]; rfl
    show Sane ((s.crash ws cuts i).settle (ws.getD i 0) (cutAt cuts i)) n
    rw [e]
    exact ih.settle (hws i (by omega)) (cutAt_le _ _)
theorem crash_V {s : St} (ws : List Nat) (cuts : List Int) (j : Nat) : ∀ i, i ≤ ws.length → (s.crash ws cuts i).V[j]? = if j ∈ ws.take i then (s.V[j]?).map (fun _ => false) else s.V[j]?
  | 0, _ => by simp [St.crash]
  | i + 1, hi => by
    have ih := crash_V (s := s) ws cuts j i (by omega)
    have e : ws.getD i 0 = ws[i] := by rw [List.getD_eq_getElem?_getD, List.getElem?_eq_getElem (by omega)]; rfl
    show (((s.crash ws cuts i).V).set (ws.getD i 0) false)[j]? = _
    have hm : j ∈ ws.take (i + 1) ↔ j ∈ ws.take i ∨ j = ws[i] := by
      rw [List.take_succ_eq_append_getElem (by omega), List.mem_append, List.mem_singleton]
    rw [e, List.getElem?_set, ih, crash_len]
    by_cases h1 : ws[i] = j
    · rw [if_pos h1, if_pos (hm.2 (.inr h1.symm))]
      by_cases h2 : j < s.V.length
      · rw [if_pos (by rw [h1]; exact h2), List.getElem?_eq_getElem h2]; rfl
      · rw [if_neg (by rw [h1]; exact h2), List.getElem?_eq_none (by omega)]; rfl
    · rw [if_neg h1]
      by_cases h3 : j ∈ ws.take i
      · rw [if_pos h3, if_pos (hm.2 (.inl h3))]
      · rw [if_neg h3, if_neg (fun h => (hm.1 h).elim h3 (fun e => h1 e.symm))]
theorem wl_mem (V : List Bool) (n j : Nat) : j ∈ wl V n ↔ j < n ∧ V.getD j false = true := by
  unfold wl
  simp
theorem crash_quiet {s : St} {n : Nat} (h : Sane s n) (cuts : List Int) : Sane (s.crash (wl s.V s.V.length) cuts (wl s.V s.V.length).length) n ∧
    ∀ j, j < n → (s.crash (wl s.V s.V.length) cuts (wl s.V s.V.length).length).V[j]? = some false := by
  refine ⟨h.crash _ cuts (fun j hj => Nat.lt_of_lt_of_le (wl_lt s.V s.V.length j hj) (Nat.le_of_eq h.lv)) _ (Nat.le_refl _), fun j hj => ?_⟩
  rw [crash_V _ cuts j _ (Nat.le_refl _), List.take_length]
  have hjv : j < s.V.length := by rw [h.lv]; exact hj
  by_cases hm : j ∈ wl s.V s.V.length
  · rw [if_pos hm, List.getElem?_eq_getElem hjv]; rfl
  · rw [if_neg hm, List.getElem?_eq_getElem hjv]
    rw [wl_mem] at hm
    have : s.V.getD j false = s.V[j] := by rw [List.getD_eq_getElem?_getD, List.getElem?_eq_getElem hjv]; rfl
    rw [this] at hm
    have : s.V[j] = false := by
      cases hb : s.V[j]
      · rfl
      · exact absurd ⟨hjv, hb⟩ hm
    rw [this]
/-- Behind a crash all that is seen lasts, and nothing waits. -/
theorem crash_same {s : St} {n : Nat} (h : Sane s n) (cuts : List Int) :
    (s.crash (wl s.V s.V.length) cuts (wl s.V s.V.length).length).L = (s.crash (wl s.V s.V.length) cuts (wl s.V s.V.length).length).S ∧
    (s.crash (wl s.V s.V.length) cuts (wl s.V s.V.length).length).V = falses n := by
  obtain ⟨h1, h2⟩ := crash_quiet h cuts
  refine ⟨h1.same h2, ?_⟩
  apply List.ext_getElem?
  intro j
  by_cases hj : j < n
  · rw [h2 j hj]; simp [falses, hj]
  · rw [List.getElem?_eq_none (by rw [h1.lv]; omega), List.getElem?_eq_none (by simp [falses]; omega)]

/-- Behind a Flush what was seen lasts. -/
theorem flush_to {s : St} {n : Nat} (hv : s.V.length = n) (hl : s.L.length = 64 * n) (hs : s.S.length = 64 * n) : ∀ k, k ≤ n → (s.flush k) = ⟨s.S.take (k * 64) ++ s.L.drop (k * 64), s.S, falses k ++ s.V.drop k⟩
  | 0, _ => by simp [St.flush, falses]
  | k + 1, hk => by
    have ih := flush_to hv hl hs k (by omega)
    show (s.flush k).settle k 64 = _
    rw [ih]
    simp only [St.settle, St.mk.injEq]
    have hlen : (s.S.take (k * 64) ++ s.L.drop (k * 64)).length = 64 * n := by
      rw [List.length_append, List.length_take, List.length_drop]; omega
    refine ⟨?_, ?_, ?_⟩
    · apply List.ext_getElem?
      intro i
      rw [setL_get (by omega) (by omega) (Nat.le_refl _)]
      by_cases h1 : i < k * 64
      · rw [if_neg (by omega), List.getElem?_append_left (by rw [List.length_take]; omega), List.getElem?_append_left (by rw [List.length_take]; omega), List.getElem?_take_of_lt h1, List.getElem?_take_of_lt (by omega)]
      · by_cases h2 : i < k * 64 + 64
        · rw [if_pos (by omega), List.getElem?_append_left (by rw [List.length_take]; omega), List.getElem?_take_of_lt (by omega)]
        · rw [if_neg (by omega), List.getElem?_append_right (by rw [List.length_take]; omega), List.getElem?_append_right (by rw [List.length_take]; omega), List.length_take, List.length_take, List.getElem?_drop, List.getElem?_drop]
          congr 1
          omega
    · apply List.ext_getElem?
      intro i
      rw [setS_get (by omega) (by omega) (Nat.le_refl _), if_neg (by omega)]
    · apply List.ext_getElem?
      intro i
      have hf : (falses k).length = k := falses_len k
      have hf1 : (falses (k + 1)).length = k + 1 := falses_len (k + 1)
      rw [List.getElem?_set]
      by_cases h1 : k = i
      · subst h1
        rw [if_pos rfl, if_pos (by rw [List.length_append, hf, List.length_drop]; omega), List.getElem?_append_left (by omega)]
        simp [falses]
      · rw [if_neg h1]
        by_cases h2 : i < k
        · rw [List.getElem?_append_left (by omega), List.getElem?_append_left (by omega)]
          simp [falses, h2, show i < k + 1 by omega]
        · rw [List.getElem?_append_right (by omega), List.getElem?_append_right (by omega), hf, hf1, List.getElem?_drop, List.getElem?_drop]
          congr 1
          omega
theorem flush_all {s : St} {n : Nat} (hv : s.V.length = n) (hl : s.L.length = 64 * n) (hs : s.S.length = 64 * n) : s.flush s.V.length = ⟨s.S, s.S, falses n⟩ := by
  rw [hv, flush_to hv hl hs n (Nat.le_refl _), List.take_of_length_le (by omega), List.drop_of_length_le (by omega), List.drop_of_length_le (by omega)]
  simp

end Go.Proofs.Ytigbnmckdjlihaa
