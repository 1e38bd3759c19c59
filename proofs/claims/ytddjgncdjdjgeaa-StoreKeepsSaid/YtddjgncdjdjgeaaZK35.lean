/-
  K: Sane, Sto18, StoSane.
-/
import Derived.Test.YtddjgncdjdjgeaaZK12
import Derived.Test.YtddjgncdjdjgeaaZK33
import Derived.Test.YtddjgncdjdjgeaaZK34
namespace Go.Proofs.Ytddjgncdjdjgeaa

theorem splice_get3 {α : Type} (L : List α) (o : Nat) (m : List α) (h : o + m.length ≤ L.length) (i : Nat) :
    (splice L o m)[i]? = if i < o then L[i]? else if i < o + m.length then m[i - o]? else L[i]? := by
  unfold splice
  have ht : (L.take o).length = o := by rw [List.length_take]; omega
  by_cases h1 : i < o
  · rw [if_pos h1, List.getElem?_append_left (by omega), List.getElem?_take_of_lt h1]
  · rw [if_neg h1, List.getElem?_append_right (by omega), ht]
    by_cases h2 : i < o + m.length
    · rw [if_pos h2, List.getElem?_append_left (by omega)]
    · rw [if_neg h2, List.getElem?_append_right (by omega), List.getElem?_drop]
      congr 1
      omega
theorem cut_get {α : Type} (L : List α) (o n i : Nat) : ((L.drop o).take n)[i]? = if i < n then L[o + i]? else none := by
  rw [List.getElem?_take]
  split
  · rw [List.getElem?_drop]
  · rfl

section
variable {L S : List UInt8} {k cut n : Nat}
theorem setL_get (l1 : 64 * (k + 1) ≤ L.length) (s1 : 64 * (k + 1) ≤ S.length) (hc : cut ≤ 64) (i : Nat) :
    (setL L S k cut)[i]? = if k * 64 ≤ i ∧ i < k * 64 + cut then S[i]? else L[i]? := by
  unfold setL
  have e : ((S.drop (k * 64)).take cut).length = cut := by rw [List.length_take, List.length_drop]; omega
  rw [splice_get3 _ _ _ (by omega), e, cut_get]
  by_cases h1 : i < k * 64
  · rw [if_pos h1, if_neg (by omega)]
  · rw [if_neg h1]
    by_cases h2 : i < k * 64 + cut
    · rw [if_pos h2, if_pos (by omega), if_pos (by omega)]
      congr 1
      omega
    · rw [if_neg h2, if_neg (by omega)]
theorem setS_get (l1 : 64 * (k + 1) ≤ L.length) (s1 : 64 * (k + 1) ≤ S.length) (hc : cut ≤ 64) (i : Nat) :
    (setS L S k cut)[i]? = if k * 64 + cut ≤ i ∧ i < k * 64 + 64 then L[i]? else S[i]? := by
  unfold setS
  have e : ((L.drop (k * 64 + cut)).take (64 - cut)).length = 64 - cut := by rw [List.length_take, List.length_drop]; omega
  rw [splice_get3 _ _ _ (by omega), e, cut_get]
  by_cases h1 : i < k * 64 + cut
  · rw [if_pos h1, if_neg (by omega)]
  · rw [if_neg h1]
    by_cases h2 : i < k * 64 + cut + (64 - cut)
    · rw [if_pos h2, if_pos (by omega), if_pos (by omega)]
      congr 1
      omega
    · rw [if_neg h2, if_neg (by omega)]
end

/-- A state whose sizes are right, and whose sectors that do not wait are seen as they last. -/
structure Sane (s : St) (n : Nat) : Prop where
  lv : s.V.length = n
  ll : s.L.length = 64 * n
  ls : s.S.length = 64 * n
  eq : ∀ j, j < n → s.V[j]? = some false → ∀ i, i < 64 → s.L[j * 64 + i]? = s.S[j * 64 + i]?

theorem Sane.settle {s : St} {n k cut : Nat} (h : Sane s n) (hk : k < n) (hc : cut ≤ 64) : Sane (s.settle k cut) n := by
  have l1 : 64 * (k + 1) ≤ s.L.length := by rw [h.ll]; omega
  have s1 : 64 * (k + 1) ≤ s.S.length := by rw [h.ls]; omega
  refine ⟨by simp [St.settle, h.lv], by simp only [St.settle]; rw [setL_len l1 hc, h.ll], by simp only [St.settle]; rw [setS_len s1 hc, h.ls], fun j hj hv i hi => ?_⟩
  simp only [St.settle] at hv ⊢
  rw [setL_get l1 s1 hc, setS_get l1 s1 hc]
  by_cases hjk : j = k
  · subst hjk
    by_cases h1 : i < cut
    · rw [if_pos (by omega), if_neg (by omega)]
    · rw [if_neg (by omega), if_pos (by omega)]
  · rw [List.getElem?_set_ne (by omega)] at hv
    have hne : j < k ∨ k < j := by omega
    rcases hne with hlt | hlt
    · have : j * 64 + i < k * 64 := by omega
      rw [if_neg (by omega), if_neg (by omega)]
      exact h.eq j hj hv i hi
    · have : k * 64 + 64 ≤ j * 64 + i := by omega
      rw [if_neg (by omega), if_neg (by omega)]
      exact h.eq j hj hv i hi

theorem Sane.write {s : St} {n k : Nat} {x : List UInt8} (h : Sane s n) (hk : k < n) (hx : x.length = 64) : Sane ⟨s.L, splice s.S (k * 64) x, s.V.set k true⟩ n := by
  have s1 : k * 64 + x.length ≤ s.S.length := by rw [h.ls]; omega
  refine ⟨by simp [h.lv], h.ll, by show (splice s.S (k * 64) x).length = _; rw [length_splice _ _ _ s1, h.ls], fun j hj hv i hi => ?_⟩
  show s.L[_]? = (splice s.S (k * 64) x)[_]?
  have hjk : k ≠ j := by
    rintro rfl
    simp only [] at hv
    rw [List.getElem?_set_self (by rw [h.lv]; exact hk)] at hv
    cases hv
  simp only [] at hv
  rw [List.getElem?_set_ne hjk] at hv
  rw [splice_get3 _ _ _ s1, hx]
  have hne : j < k ∨ k < j := by omega
  rcases hne with hlt | hlt
  · rw [if_pos (by omega)]
    exact h.eq j hj hv i hi
  · rw [if_neg (by omega), if_neg (by omega)]
    exact h.eq j hj hv i hi

/-- Where nothing waits, what is seen lasts. -/
theorem Sane.same {s : St} {n : Nat} (h : Sane s n) (hv : ∀ j, j < n → s.V[j]? = some false) : s.L = s.S := by
  apply List.ext_getElem?
  intro i
  by_cases hi : i < 64 * n
  · have := h.eq (i / 64) (by omega) (hv _ (by omega)) (i % 64) (by omega)
    rwa [show i / 64 * 64 + i % 64 = i by omega] at this
  · rw [List.getElem?_eq_none (by rw [h.ll]; omega), List.getElem?_eq_none (by rw [h.ls]; omega)]

theorem Sane.crash {s : St} {n : Nat} (h : Sane s n) (ws : List Nat) (cuts : List Int) (hws : ∀ j (hj : j < ws.length), ws[j] < n) : ∀ i, i ≤ ws.length → Sane (s.crash ws cuts i) n
  | 0, _ => h
  | i + 1, hi => by
    have ih := Sane.crash h ws cuts hws i (by omega)
    have e : ws.getD i 0 = ws[i] := by rw [List.getD_eq_getElem?_getD, List.getElem?_eq_getElem (by omega)]; rfl
    show Sane ((s.crash ws cuts i).settle (ws.getD i 0) (cutAt cuts i)) n
    rw [e]
    exact ih.settle (hws i (by omega)) (cutAt_le _ _)
theorem crash_V {s : St} (ws : List Nat) (cuts : List Int) (j : Nat) : ∀ i, i ≤ ws.length → (s.crash ws cuts i).V[j]? = if j ∈ ws.take i then (s.V[j]?).map (fun _ => false) else s.V[j]?
  | 0, _ => by simp [St.crash]
  | i + 1, hi => by
    have ih := crash_V (s := s) ws cuts j i (by omega)
    have e : ws.getD i 0 = ws[i] := by rw [List.getD_eq_getElem?_getD, List.getElem?_eq_getElem (by omega)]; rfl
    show (((s.crash ws cuts i).V).set (ws.getD i 0) false)[j]? = _
    have hm : j ∈ ws.take (i + 1) ↔ j ∈ ws.take i ∨ j = ws[i] := by
      rw [List.take_succ_eq_append_getElem (by omega), List.mem_append, List.mem_singleton]
    rw [e, List.getElem?_set, ih, crash_len]
    by_cases h1 : ws[i] = j
    · rw [if_pos h1, if_pos (hm.2 (.inr h1.symm))]
      by_cases h2 : j < s.V.length
      · rw [if_pos (by rw [h1]; exact h2), List.getElem?_eq_getElem h2]; rfl
      · rw [if_neg (by rw [h1]; exact h2), List.getElem?_eq_none (by omega)]; rfl
    · rw [if_neg h1]
      by_cases h3 : j ∈ ws.take i
      · rw [if_pos h3, if_pos (hm.2 (.inl h3))]
      · rw [if_neg h3, if_neg (fun h => (hm.1 h).elim h3 (fun e => h1 e.symm))]
theorem wl_mem (V : List Bool) (n j : Nat) : j ∈ wl V n ↔ j < n ∧ V.getD j false = true := by
  unfold wl
  simp
theorem crash_quiet {s : St} {n : Nat} (h : Sane s n) (cuts : List Int) : Sane (s.crash (wl s.V s.V.length) cuts (wl s.V s.V.length).length) n ∧
    ∀ j, j < n → (s.crash (wl s.V s.V.length) cuts (wl s.V s.V.length).length).V[j]? = some false := by
  refine ⟨h.crash _ cuts (fun j hj => Nat.lt_of_lt_of_le (wl_lt s.V s.V.length j hj) (Nat.le_of_eq h.lv)) _ (Nat.le_refl _), fun j hj => ?_⟩
  rw [crash_V _ cuts j _ (Nat.le_refl _), List.take_length]
  have hjv : j < s.V.length := by rw [h.lv]; exact hj
  by_cases hm : j ∈ wl s.V s.V.length
  · rw [if_pos hm, List.getElem?_eq_getElem hjv]; rfl
  · rw [if_neg hm, List.getElem?_eq_getElem hjv]
    rw [wl_mem] at hm
    have : s.V.getD j false = s.V[j] := by rw [List.getD_eq_getElem?_getD, List.getElem?_eq_getElem hjv]; rfl
    rw [this] at hm
    have : s.V[j] = false := by
      cases hb : s.V[j]
      · rfl
      · exact absurd ⟨hjv, hb⟩ hm
    rw [this]
/-- Behind a crash all that is seen lasts, and nothing waits. -/
theorem crash_same {s : St} {n : Nat} (h : Sane s n) (cuts : List Int) :
    (s.crash (wl s.V s.V.length) cuts (wl s.V s.V.length).length).L = (s.crash (wl s.V s.V.length) cuts (wl s.V s.V.length).length).S ∧
    (s.crash (wl s.V s.V.length) cuts (wl s.V s.V.length).length).V = falses n := by
  obtain ⟨h1, h2⟩ := crash_quiet h cuts
  refine ⟨h1.same h2, ?_⟩
  apply List.ext_getElem?
  intro j
  by_cases hj : j < n
  · rw [h2 j hj]; simp [falses, hj]
  · rw [List.getElem?_eq_none (by rw [h1.lv]; omega), List.getElem?_eq_none (by simp [falses]; omega)]

/-- Behind a Flush what was seen lasts. -/
theorem flush_to {s : St} {n : Nat} (hv : s.V.length = n) (hl : s.L.length = 64 * n) (hs : s.S.length = 64 * n) : ∀ k, k ≤ n → (s.flush k) = ⟨s.S.take (k * 64) ++ s.L.drop (k * 64), s.S, falses k ++ s.V.drop k⟩
  | 0, _ => by simp [St.flush, falses]
  | k + 1, hk => by
    have ih := flush_to hv hl hs k (by omega)
    show (s.flush k).settle k 64 = _
    rw [ih]
    simp only [St.settle, St.mk.injEq]
    have hlen : (s.S.take (k * 64) ++ s.L.drop (k * 64)).length = 64 * n := by
      rw [List.length_append, List.length_take, List.length_drop]; omega
    refine ⟨?_, ?_, ?_⟩
    · apply List.ext_getElem?
      intro i
      rw [setL_get (by omega) (by omega) (Nat.le_refl _)]
      by_cases h1 : i < k * 64
      · rw [if_neg (by omega), List.getElem?_append_left (by rw [List.length_take]; omega), List.getElem?_append_left (by rw [List.length_take]; omega), List.getElem?_take_of_lt h1, List.getElem?_take_of_lt (by omega)]
      · by_cases h2 : i < k * 64 + 64
        · rw [if_pos (by omega), List.getElem?_append_left (by rw [List.length_take]; omega), List.getElem?_take_of_lt (by omega)]
        · rw [if_neg (by omega), List.getElem?_append_right (by rw [List.length_take]; omega), List.getElem?_append_right (by rw [List.length_take]; omega), List.length_take, List.length_take, List.getElem?_drop, List.getElem?_drop]
          congr 1
          omega
    · apply List.ext_getElem?
      intro i
      rw [setS_get (by omega) (by omega) (Nat.le_refl _), if_neg (by omega)]
    · apply List.ext_getElem?
      intro i
      have hf : (falses k).length = k := falses_len k
      have hf1 : (falses (k + 1)).length = k + 1 := falses_len (k + 1)
      rw [List.getElem?_set]
      by_cases h1 : k = i
      · subst h1
        rw [if_pos rfl, if_pos (by rw [List.length_append, hf, List.length_drop]; omega), List.getElem?_append_left (by omega)]
        simp [falses]
      · rw [if_neg h1]
        by_cases h2 : i < k
        · rw [List.getElem?_append_left (by omega), List.getElem?_append_left (by omega)]
          simp [falses, h2, show i < k + 1 by omega]
        · rw [List.getElem?_append_right (by omega), List.getElem?_append_right (by omega), hf, hf1, List.getElem?_drop, List.getElem?_drop]
          congr 1
          omega
theorem flush_all {s : St} {n : Nat} (hv : s.V.length = n) (hl : s.L.length = 64 * n) (hs : s.S.length = 64 * n) : s.flush s.V.length = ⟨s.S, s.S, falses n⟩ := by
  rw [hv, flush_to hv hl hs n (Nat.le_refl _), List.take_of_length_le (by omega), List.drop_of_length_le (by omega), List.drop_of_length_le (by omega)]
  simp

end Go.Proofs.Ytddjgncdjdjgeaa
namespace Go.Proofs.Ytddjgncdjdjgeaa
open Go.RowKit
theorem Eqn.write {s : St} (h : Eqn s) {q : Nat} {x : List UInt8} (hq : q < s.V.length) (hx : x.length = 64) : Eqn (s.write q x) := by
  have h1 := h.lenS
  have h2 := h.lenL
  have e : (s.write q x).S.length = s.S.length := splice_len _ _ _ (by rw [hx]; omega)
  exact ⟨by rw [e, write_len]; exact h1, by rw [e]; exact h2⟩
theorem Eqn.wipeN {s : St} (h : Eqn s) (a : Nat) : ∀ k, a + k ≤ s.V.length → Eqn (wipeN s a k)
  | 0, _ => h
  | k + 1, hk => (Eqn.wipeN h a k (by omega)).write (by rw [wipeN_len]; omega) zeros64_len
theorem Eqn.putR {s : St} (h : Eqn s) (L P E : Nat) (h2 : 2 ≤ s.V.length) : Eqn (putR s L P E) := (h.write (by omega) (rootL_len _ _ _)).flA
theorem Eqn.fmt {s : St} (h : Eqn s) (L P : Nat) (h2 : 2 + L + P ≤ s.V.length) : Eqn (fmt s L P) := by
  unfold Go.Proofs.Ytddjgncdjdjgeaa.fmt
  exact Eqn.putR (((h.wipeN 0 2 (by omega)).flA.wipeN 2 (L + P) (by rw [flA_len, wipeN_len]; omega)).flA) L P 1 (by rw [flA_len, wipeN_len, flA_len, wipeN_len]; omega)
theorem Eqn.homeN {s : St} (h : Eqn s) {x : SV} (hr : rightR x.L x.P x.E s.V.length = true) (hp : x.pages.length = x.P) (h64 : ∀ l ∈ x.pages, l.length = 64) : ∀ k, k ≤ x.P → Eqn (homeN s x k)
  | 0, _ => h
  | k + 1, hk => by
    have h1 := rightR_true.1 hr
    have ih := Eqn.homeN h hr hp h64 k (by omega)
    show Eqn (if _ then _ else _)
    split
    · refine ih.write (by rw [homeN_len]; omega) ?_
      rw [List.getD_eq_getElem?_getD, List.getElem?_eq_getElem (by omega)]
      exact h64 _ (List.getElem_mem _)
    · exact ih
theorem eqn_new (n : Nat) : Eqn (St.new n) := ⟨gd_new n, by show (zeros (n * 64)).length = (zeros (n * 64)).length; rfl⟩
/-- .. with the records that last: the bytes of the log ahead of u. -/
structure KeptW (s : St) (x : SV) (ms : List (List ChV)) (u : Nat) : Prop where
  z : KeptZ s x ms
  eq : Eqn s
  alk : Alk s x.L u
  wtl : Wtl s x.L
  hu : u ≤ x.used
theorem KeptW.flA {s : St} {x : SV} {ms : List (List ChV)} {u : Nat} (h : KeptW s x ms u) : KeptW (flA s) x ms x.used := ⟨h.z.flA, h.eq.flA, alk_flA h.eq _ _, wtl_flA _ _, Nat.le_refl _⟩
theorem KeptW.com {s : St} {x : SV} {ms : List (List ChV)} {u : Nat} {m : List ChV} (h : KeptW s x ms u) (hm : InL x.P m) (hf : x.used + (18 + 66 * m.length) ≤ x.L * 64) : KeptW (comS s x m) (comV x m) (ms ++ [m]) u := by
  have h1 := rightR_true.1 h.z.k.rt
  have hl : (comL x m).length = 18 + 66 * m.length := by unfold comL; rw [frameL_len, back_len hm.1]; omega
  have h2 := h.eq.lenS
  have h3 := h.hu
  have hb : 128 + x.used + (comL x m).length ≤ s.S.length := by omega
  exact ⟨h.z.com hm hf, h.eq.apS hb, h.alk.apS hb (by omega) (by omega), h.wtl.apS (by omega) (by omega), by show u ≤ x.used + (18 + 66 * m.length); omega⟩
/-- A disk that was formatted, and opened. -/
theorem keptw_new {s : St} (h : Eqn s) (L P : Nat) (hr : rightR L P 1 s.V.length = true) : KeptW (ckS (fmt s L P) (openV (fmt s L P) ⟨L, P, 1⟩)) (ckV (openV (fmt s L P) ⟨L, P, 1⟩)) [] 0 := by
  have h1 := rightR_true.1 hr
  have hz := kept_new h.lenS L P hr
  obtain ⟨hk, _⟩ := kept_fmt h.lenS L P hr
  obtain ⟨o1, o2, o3, o4, o5⟩ := hk.open_
  obtain ⟨l1, l2, l3⟩ := hk.lens
  have o3' : (openV (fmt s L P) ⟨L, P, 1⟩).L = L := o3
  have o4' : (openV (fmt s L P) ⟨L, P, 1⟩).P = P := o4
  have o5' : (openV (fmt s L P) ⟨L, P, 1⟩).E = 1 := o5
  have hf := (h.fmt L P (by omega)).flA
  have hh := hf.homeN (x := openV (fmt s L P) ⟨L, P, 1⟩) (by rw [o3', o4', o5', flA_len, fmt_len]; exact hr) (by rw [o4']; exact (congrArg List.length o1).trans l1) (fun l hl => l3 l (by rw [← o1]; exact hl)) _ (Nat.le_refl _)
  have hw := hh.flA.write (q := ((openV (fmt s L P) ⟨L, P, 1⟩).E + 1) % 2) (x := rootL (openV (fmt s L P) ⟨L, P, 1⟩).L (openV (fmt s L P) ⟨L, P, 1⟩).P ((openV (fmt s L P) ⟨L, P, 1⟩).E + 1)) (by rw [flA_len, homeN_len, flA_len, fmt_len]; omega) (rootL_len _ _ _)
  exact ⟨hz, hw.flA, alk_flA hw _ _, wtl_flA _ _, Nat.zero_le _⟩
end Go.Proofs.Ytddjgncdjdjgeaa
namespace Go.Proofs.Ytddjgncdjdjgeaa
open Go.RowKit
def Sa (s : St) : Prop := Sane s s.V.length
theorem Sa.write {s : St} (h : Sa s) {q : Nat} {x : List UInt8} (hq : q < s.V.length) (hx : x.length = 64) : Sa (s.write q x) := by
  unfold Sa
  rw [write_len]
  exact Sane.write h hq hx
theorem Sa.flA {s : St} (h : Sa s) : Sa (flA s) := by
  unfold Sa Go.Proofs.Ytddjgncdjdjgeaa.flA
  rw [flush_len, flush_all rfl h.ll h.ls]
  exact ⟨falses_len _, h.ls, h.ls, fun _ _ _ _ _ => rfl⟩
theorem Sa.wipeN {s : St} (h : Sa s) (a : Nat) : ∀ k, a + k ≤ s.V.length → Sa (wipeN s a k)
  | 0, _ => h
  | k + 1, hk => (Sa.wipeN h a k (by omega)).write (by rw [wipeN_len]; omega) zeros64_len
theorem Sa.putR {s : St} (h : Sa s) (L P E : Nat) (h2 : 2 ≤ s.V.length) : Sa (putR s L P E) := (h.write (by omega) (rootL_len _ _ _)).flA
theorem Sa.fmt {s : St} (h : Sa s) (L P : Nat) (h2 : 2 + L + P ≤ s.V.length) : Sa (fmt s L P) := by
  unfold Go.Proofs.Ytddjgncdjdjgeaa.fmt
  exact Sa.putR (((h.wipeN 0 2 (by omega)).flA.wipeN 2 (L + P) (by rw [flA_len, wipeN_len]; omega)).flA) L P 1 (by rw [flA_len, wipeN_len, flA_len, wipeN_len]; omega)
theorem Sa.homeN {s : St} (h : Sa s) {x : SV} (hr : rightR x.L x.P x.E s.V.length = true) (hp : x.pages.length = x.P) (h64 : ∀ l ∈ x.pages, l.length = 64) : ∀ k, k ≤ x.P → Sa (homeN s x k)
  | 0, _ => h
  | k + 1, hk => by
    have h1 := rightR_true.1 hr
    have ih := Sa.homeN h hr hp h64 k (by omega)
    show Sa (if _ then _ else _)
    split
    · refine ih.write (by rw [homeN_len]; omega) ?_
      rw [List.getD_eq_getElem?_getD, List.getElem?_eq_getElem (by omega)]
      exact h64 _ (List.getElem_mem _)
    · exact ih
theorem Sa.apS {s : St} (h : Sa s) {a : Nat} {b : List UInt8} (hb : a + b.length ≤ s.S.length) : Sa (apS s a b) := by
  unfold Sa
  rw [apS_V]
  refine ⟨apS_V s a b, h.ll, by show (splice s.S a b).length = _; rw [splice_len _ _ _ hb]; exact h.ls, fun j hj hv i hi => ?_⟩
  show s.L[_]? = (splice s.S a b)[_]?
  have hv' : ((List.range s.V.length).map fun j => s.V.getD j false || tch a b.length j)[j]? = some false := hv
  rw [List.getElem?_map, List.getElem?_range hj] at hv'
  simp only [Option.map_some, Option.some.injEq, Bool.or_eq_false_iff] at hv'
  have h2 : ¬ (0 < b.length ∧ j * 64 < a + b.length ∧ a < (j + 1) * 64) := by
    have := hv'.2
    unfold tch at this
    exact of_decide_eq_false this
  rw [splice_get _ _ _ _ hb, if_neg (by omega)]
  refine h.eq j hj ?_ i hi
  have := hv'.1
  rw [List.getD_eq_getElem?_getD, List.getElem?_eq_getElem hj] at this
  rw [List.getElem?_eq_getElem hj]
  exact congrArg some this
theorem Sa.ckS {s : St} (h : Sa s) {x : SV} (hr : rightR x.L x.P x.E s.V.length = true) (hp : x.pages.length = x.P) (h64 : ∀ l ∈ x.pages, l.length = 64) : Sa (ckS s x) := by
  have h1 := rightR_true.1 hr
  exact ((h.flA.homeN (by rw [flA_len]; exact hr) hp h64 x.P (Nat.le_refl _)).flA).putR _ _ _ (by rw [flA_len, homeN_len, flA_len]; omega)
theorem sa_new (n : Nat) : Sa (St.new n) := by
  unfold Sa
  rw [newV]
  exact ⟨newV n, by show (zeros (n * 64)).length = _; simp [zeros]; omega, by show (zeros (n * 64)).length = _; simp [zeros]; omega, fun _ _ _ _ _ => rfl⟩
/-- Behind a crash. -/
theorem Sa.crash {s : St} (h : Sa s) (cuts : List Int) : ∃ l, l.length = 64 * s.V.length ∧ s.crash (wl s.V s.V.length) cuts (wl s.V s.V.length).length = ⟨l, l, falses s.V.length⟩ := by
  obtain ⟨e2, e3⟩ := crash_same h cuts
  have e4 := (crash_quiet h cuts).1.ls
  generalize s.crash (wl s.V s.V.length) cuts (wl s.V s.V.length).length = t at e2 e3 e4
  obtain ⟨tL, tS, tV⟩ := t
  simp only at e2 e3 e4
  exact ⟨tS, e4, by rw [e2, e3]⟩
/-- .. kept, and sane. -/
structure KeptS (s : St) (x : SV) (ms : List (List ChV)) (u : Nat) : Prop where
  k : KeptW s x ms u
  sa : Sa s
theorem KeptS.flA {s : St} {x : SV} {ms : List (List ChV)} {u : Nat} (h : KeptS s x ms u) : KeptS (flA s) x ms x.used := ⟨h.k.flA, h.sa.flA⟩
theorem KeptS.com {s : St} {x : SV} {ms : List (List ChV)} {u : Nat} {m : List ChV} (h : KeptS s x ms u) (hm : InL x.P m) (hf : x.used + (18 + 66 * m.length) ≤ x.L * 64) : KeptS (comS s x m) (comV x m) (ms ++ [m]) u := by
  have h1 := rightR_true.1 h.k.z.k.rt
  have hl : (comL x m).length = 18 + 66 * m.length := by unfold comL; rw [frameL_len, back_len hm.1]; omega
  have h2 := h.k.eq.lenS
  exact ⟨h.k.com hm hf, h.sa.apS (by omega)⟩
theorem keptS_new {s : St} (h : Eqn s) (hs : Sa s) (L P : Nat) (hr : rightR L P 1 s.V.length = true) : KeptS (ckS (fmt s L P) (openV (fmt s L P) ⟨L, P, 1⟩)) (ckV (openV (fmt s L P) ⟨L, P, 1⟩)) [] 0 := by
  have h1 := rightR_true.1 hr
  obtain ⟨hk, _⟩ := kept_fmt h.lenS L P hr
  obtain ⟨o1, o2, o3, o4, o5⟩ := hk.open_
  obtain ⟨l1, l2, l3⟩ := hk.lens
  have o3' : (openV (fmt s L P) ⟨L, P, 1⟩).L = L := o3
  have o4' : (openV (fmt s L P) ⟨L, P, 1⟩).P = P := o4
  have o5' : (openV (fmt s L P) ⟨L, P, 1⟩).E = 1 := o5
  exact ⟨keptw_new h L P hr, (hs.fmt L P (by omega)).ckS (by rw [o3', o4', o5', fmt_len]; exact hr) (by rw [o4']; exact (congrArg List.length o1).trans l1) (fun l hl => l3 l (by rw [← o1]; exact hl))⟩
section
variable {w : World} {p bL bS bW : Nat} {s : St}
/-- A formatted disk, opened, with all that is kept. -/
def NewPostS (w : World) (p bL bS bW L P nV : Nat) (e : Ending) (w' : World) : Prop :=
  ∃ g gN v s' x', e = .returned (.tuple #[.pointer (some ⟨g, 0, none⟩), .int .i64 0]) ∧ w.heap.size ≤ g ∧ w.heap.size ≤ gN ∧ Sto w' ⟨p, bL, bS, bW, g, gN, []⟩ s' x' v ∧ KeptS s' x' [] 0 ∧ x'.L = L ∧ x'.P = P ∧ x'.E = 2 ∧ s'.V.length = nV ∧ Chg [bL, bS, bW] w w'
theorem openedS_any (hg : Eqn s) (hs : Sa s) (L P : Nat) (hr : rightR L P 1 s.V.length = true) (hd : DskS w p bL bS bW (fmt s L P)) :
    Calls Try.prog 8 #[.pointer (some ⟨p, 0, none⟩)] w (NewPostS w p bL bS bW L P s.V.length) := by
  refine (open_any hd).mono ?_
  rintro e w' hO
  rw [OpenPost, best_fmt hg.lenS L P hr] at hO
  have ho := (kept_fmt hg.lenS L P hr).1.open_
  rcases hO with ⟨h0, _⟩ | ⟨h0, _⟩ | ⟨_, _, g, gN, v, rfl, hg1, hgN, hs', hc⟩
  · exact absurd h0 (by show ¬ (1 : Nat) = 0; omega)
  · exact absurd h0 (by show ¬ (1 : Nat) = 4294967295; omega)
  · have o3 : (openV (fmt s L P) ⟨L, P, 1⟩).L = L := ho.2.2.1
    have o4 : (openV (fmt s L P) ⟨L, P, 1⟩).P = P := ho.2.2.2.1
    have o5 : (openV (fmt s L P) ⟨L, P, 1⟩).E = 1 := ho.2.2.2.2
    exact ⟨g, gN, v, _, _, rfl, hg1, hgN, hs', keptS_new hg hs L P hr, o3, o4, by show (openV (fmt s L P) ⟨L, P, 1⟩).E + 1 = 2; rw [o5], (ckS_len _ _).trans (fmt_len s L P), hc⟩
end
end Go.Proofs.Ytddjgncdjdjgeaa
