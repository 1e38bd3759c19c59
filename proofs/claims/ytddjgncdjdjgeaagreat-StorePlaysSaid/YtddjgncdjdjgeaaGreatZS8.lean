/-
  S: Flush, Sane, Of, New, Known.
-/
import Derived.Test.YtddjgncdjdjgeaaGreatZS3
import Derived.Test.YtddjgncdjdjgeaaGreatZS5
namespace Go.Proofs.YtddjgncdjdjgeaaGreat
open Go.RowKit

/-- Behind the first i sectors. -/
def St.flush (s : St) : Nat → St
  | 0 => s
  | i + 1 => (St.flush s i).settle i 64
theorem flush_len (s : St) (i : Nat) : (s.flush i).V.length = s.V.length := by
  induction i with
  | zero => rfl
  | succ i ih => simp [St.flush, St.settle, ih]

section
variable {w : World} {p bL bS bW : Nat} {L S : List UInt8} {V : List Bool}
set_option maxHeartbeats 1000000 in
set_option maxRecDepth 100000 in
theorem flush_any (h : Dsk w p bL bS bW L S V) :
    Calls Tryz.prog 78 #[.pointer (some ⟨p, 0, none⟩)] w fun e w' => e = .returned (.tuple #[]) ∧ DskS w' p bL bS bW (St.flush ⟨L, S, V⟩ V.length) ∧ Chg [bL, bS, bW] w w' := by
  have c2 := h.rec_.cell 2
  have hle := h.le
  go_enter Tryz.func78, Tryz.ntmps78
  go_wp2_with fail
  go_loopw [8] (fun i wr => ∃ k : Nat, k ≤ V.length ∧ i = .int .i64 (k : Int) ∧ DskS wr p bL bS bW (St.flush ⟨L, S, V⟩ k) ∧ Chg [bL, bS, bW] w wr) (fun i _ => V.length - (intOf i).toNat)
  case atStart => exact ⟨0, Nat.zero_le _, rfl, h, Chg.refl _ _⟩
  case round =>
    obtain ⟨k, hk, rfl, hdk, hck⟩ := hrel
    by_cases hlt : k < V.length
    · have hlt3 : k < (St.flush ⟨L, S, V⟩ k).V.length := by rw [flush_len]; exact hlt
      have HE := Lib.hid (show (St.flush ⟨L, S, V⟩ (k + 1)) = (St.flush ⟨L, S, V⟩ k).settle k 64 from rfl)
      obtain ⟨s2, hE2⟩ : ∃ s2, s2 = St.flush ⟨L, S, V⟩ (k + 1) := ⟨_, rfl⟩
      rw [← hE2] at HE
      have hE2 := Lib.hid hE2
      generalize St.flush ⟨L, S, V⟩ k = s0 at HE hdk hlt3
      go_wp2_with fail
      refine (settle_int hdk k hlt3 64 (by omega) (by omega)).mono ?_
      rintro e w2 ⟨rfl, hd2, hc2⟩
      have hd3 : DskS w2 p bL bS bW s2 := by rw [HE.out]; exact hd2
      clear hd2
      go_wp2_with fail
      go_roundw
      case rel => exact ⟨k + 1, by omega, by go_num, (hE2.out ▸ hd3), hck.trans hc2⟩
      case measure => simp [intOf]; omega
    · have hkl : k = V.length := by omega
      have hdl : DskS wr p bL bS bW (St.flush ⟨L, S, V⟩ V.length) := hkl ▸ hdk
      clear hkl
      go_wp2_with fail
      go_end0
      exact ⟨rfl, hdl, hck⟩
end
end Go.Proofs.YtddjgncdjdjgeaaGreat
namespace Go.Proofs.YtddjgncdjdjgeaaGreat

theorem splice_get3 {α : Type} (L : List α) (o : Nat) (m : List α) (h : o + m.length ≤ L.length) (i : Nat) :
    (splice L o m)[i]? = if i < o then L[i]? else if i < o + m.length then m[i - o]? else L[i]? := by
  unfold splice
  have ht : (L.take o).length = o := by rw [List.length_take]; omega
  by_cases h1 : i < o
  · rw [if_pos h1, List.getElem?_append_left (by omega), List.getElem?_take_of_lt h1]
  · rw [if_neg h1, List.getElem?_append_right (by omega), ht]
    by_cases h2 : i < o + m.length
    · rw [if_pos h2, List.getElem?_append_left (by omega)]
    · rw [if_neg h2, List.getElem?_append_right (by omega), List.getElem?_drop]
      congr 1
      omega
theorem cut_get {α : Type} (L : List α) (o n i : Nat) : ((L.drop o).take n)[i]? = if i < n then L[o + i]? else none := by
  rw [List.getElem?_take]
  split
  · rw [List.getElem?_drop]
  · rfl

section
variable {L S : List UInt8} {k cut n : Nat}
theorem setL_get (l1 : 64 * (k + 1) ≤ L.length) (s1 : 64 * (k + 1) ≤ S.length) (hc : cut ≤ 64) (i : Nat) :
    (setL L S k cut)[i]? = if k * 64 ≤ i ∧ i < k * 64 + cut then S[i]? else L[i]? := by
  unfold setL
  have e : ((S.drop (k * 64)).take cut).length = cut := by rw [List.length_take, List.length_drop]; omega
  rw [splice_get3 _ _ _ (by omega), e, cut_get]
  by_cases h1 : i < k * 64
  · rw [if_pos h1, if_neg (by omega)]
  · rw [if_neg h1]
    by_cases h2 : i < k * 64 + cut
    · rw [if_pos h2, if_pos (by omega), if_pos (by omega)]
      congr 1
      omega
    · rw [if_neg h2, if_neg (by omega)]
theorem setS_get (l1 : 64 * (k + 1) ≤ L.length) (s1 : 64 * (k + 1) ≤ S.length) (hc : cut ≤ 64) (i : Nat) :
    (setS L S k cut)[i]? = if k * 64 + cut ≤ i ∧ i < k * 64 + 64 then L[i]? else S[i]? := by
  unfold setS
  have e : ((L.drop (k * 64 + cut)).take (64 - cut)).length = 64 - cut := by rw [List.length_take, List.length_drop]; omega
  rw [splice_get3 _ _ _ (by omega), e, cut_get]
  by_cases h1 : i < k * 64 + cut
  · rw [if_pos h1, if_neg (by omega)]
  · rw [if_neg h1]
    by_cases h2 : i < k * 64 + cut + (64 - cut)
    · rw [if_pos h2, if_pos (by omega), if_pos (by omega)]
      congr 1
      omega
    · rw [if_neg h2, if_neg (by omega)]
end

/-- A state whose sizes are right, and whose sectors that do not wait are seen as they last. -/
structure Sane (s : St) (n : Nat) : Prop where
  lv : s.V.length = n
  ll : s.L.length = 64 * n
  ls : s.S.length = 64 * n
  eq : ∀ j, j < n → s.V[j]? = some false → ∀ i, i < 64 → s.L[j * 64 + i]? = s.S[j * 64 + i]?

theorem Sane.settle {s : St} {n k cut : Nat} (h : Sane s n) (hk : k < n) (hc : cut ≤ 64) : Sane (s.settle k cut) n := by
  have l1 : 64 * (k + 1) ≤ s.L.length := by rw [h.ll]; omega
  have s1 : 64 * (k + 1) ≤ s.S.length := by rw [h.ls]; omega
  refine ⟨by simp [St.settle, h.lv], by simp only [St.settle]; rw [setL_len l1 hc, h.ll], by simp only [St.settle]; rw [setS_len s1 hc, h.ls], fun j hj hv i hi => ?_⟩
  simp only [St.settle] at hv ⊢
  rw [setL_get l1 s1 hc, setS_get l1 s1 hc]
  by_cases hjk : j = k
  · subst hjk
    by_cases h1 : i < cut
    · rw [if_pos (by omega), if_neg (by omega)]
    · rw [if_neg (by omega), if_pos (by omega)]
  · rw [List.getElem?_set_ne (by omega)] at hv
    have hne : j < k ∨ k < j := by omega
    rcases hne with hlt | hlt
    · have : j * 64 + i < k * 64 := by omega
      rw [if_neg (by omega), if_neg (by omega)]
      exact h.eq j hj hv i hi
    · have : k * 64 + 64 ≤ j * 64 + i := by omega
      rw [if_neg (by omega), if_neg (by omega)]
      exact h.eq j hj hv i hi

theorem Sane.write {s : St} {n k : Nat} {x : List UInt8} (h : Sane s n) (hk : k < n) (hx : x.length = 64) : Sane ⟨s.L, splice s.S (k * 64) x, s.V.set k true⟩ n := by
  have s1 : k * 64 + x.length ≤ s.S.length := by rw [h.ls]; omega
  refine ⟨by simp [h.lv], h.ll, by show (splice s.S (k * 64) x).length = _; rw [length_splice _ _ _ s1, h.ls], fun j hj hv i hi => ?_⟩
  show s.L[_]? = (splice s.S (k * 64) x)[_]?
  have hjk : k ≠ j := by
    rintro rfl
    simp only [] at hv
    rw [List.getElem?_set_self (by rw [h.lv]; exact hk)] at hv
    cases hv
  simp only [] at hv
  rw [List.getElem?_set_ne hjk] at hv
  rw [splice_get3 _ _ _ s1, hx]
  have hne : j < k ∨ k < j := by omega
  rcases hne with hlt | hlt
  · rw [if_pos (by omega)]
    exact h.eq j hj hv i hi
  · rw [if_neg (by omega), if_neg (by omega)]
    exact h.eq j hj hv i hi

/-- Where nothing waits, what is seen lasts. -/
theorem Sane.same {s : St} {n : Nat} (h : Sane s n) (hv : ∀ j, j < n → s.V[j]? = some false) : s.L = s.S := by
  apply List.ext_getElem?
  intro i
  by_cases hi : i < 64 * n
  · have := h.eq (i / 64) (by omega) (hv _ (by omega)) (i % 64) (by omega)
    rwa [show i / 64 * 64 + i % 64 = i by omega] at this
  · rw [List.getElem?_eq_none (by rw [h.ll]; omega), List.getElem?_eq_none (by rw [h.ls]; omega)]

theorem Sane.crash {s : St} {n : Nat} (h : Sane s n) (ws : List Nat) (cuts : List Int) (hws : ∀ j (hj : j < ws.length), ws[j] < n) : ∀ i, i ≤ ws.length → Sane (s.crash ws cuts i) n
  | 0, _ => h
  | i + 1, hi => by
    have ih := Sane.crash h ws cuts hws i (by omega)
    have e : ws.getD i 0 = ws[i] := by rw [List.getD_eq_getElem?_getD, List.getElem?_eq_getElem (by omega)]; rfl
    show Sane ((s.crash ws cuts i).settle (ws.getD i 0) (cutAt cuts i)) n
    rw [e]
    exact ih.settle (hws i (by omega)) (cutAt_le _ _)
theorem crash_V {s : St} (ws : List Nat) (cuts : List Int) (j : Nat) : ∀ i, i ≤ ws.length → (s.crash ws cuts i).V[j]? = if j ∈ ws.take i then (s.V[j]?).map (fun _ => false) else s.V[j]?
  | 0, _ => by simp [St.crash]
  | i + 1, hi => by
    have ih := crash_V (s := s) ws cuts j i (by omega)
    have e : ws.getD i 0 = ws[i] := by rw [List.getD_eq_getElem?_getD, List.getElem?_eq_getElem (by omega)]; rfl
    show (((s.crash ws cuts i).V).set (ws.getD i 0) false)[j]? = _
    have hm : j ∈ ws.take (i + 1) ↔ j ∈ ws.take i ∨ j = ws[i] := by
      rw [List.take_succ_eq_append_getElem (by omega), List.mem_append, List.mem_singleton]
    rw [e, List.getElem?_set, ih, crash_len]
    by_cases h1 : ws[i] = j
    · rw [if_pos h1, if_pos (hm.2 (.inr h1.symm))]
      by_cases h2 : j < s.V.length
      · rw [if_pos (by rw [h1]; exact h2), List.getElem?_eq_getElem h2]; rfl
      · rw [if_neg (by rw [h1]; exact h2), List.getElem?_eq_none (by omega)]; rfl
    · rw [if_neg h1]
      by_cases h3 : j ∈ ws.take i
      · rw [if_pos h3, if_pos (hm.2 (.inl h3))]
      · rw [if_neg h3, if_neg (fun h => (hm.1 h).elim h3 (fun e => h1 e.symm))]
theorem wl_mem (V : List Bool) (n j : Nat) : j ∈ wl V n ↔ j < n ∧ V.getD j false = true := by
  unfold wl
  simp
theorem crash_quiet {s : St} {n : Nat} (h : Sane s n) (cuts : List Int) : Sane (s.crash (wl s.V s.V.length) cuts (wl s.V s.V.length).length) n ∧
    ∀ j, j < n → (s.crash (wl s.V s.V.length) cuts (wl s.V s.V.length).length).V[j]? = some false := by
  refine ⟨h.crash _ cuts (fun j hj => Nat.lt_of_lt_of_le (wl_lt s.V s.V.length j hj) (Nat.le_of_eq h.lv)) _ (Nat.le_refl _), fun j hj => ?_⟩
  rw [crash_V _ cuts j _ (Nat.le_refl _), List.take_length]
  have hjv : j < s.V.length := by rw [h.lv]; exact hj
  by_cases hm : j ∈ wl s.V s.V.length
  · rw [if_pos hm, List.getElem?_eq_getElem hjv]; rfl
  · rw [if_neg hm, List.getElem?_eq_getElem hjv]
    rw [wl_mem] at hm
    have : s.V.getD j false = s.V[j] := by rw [List.getD_eq_getElem?_getD, List.getElem?_eq_getElem hjv]; rfl
    rw [this] at hm
    have : s.V[j] = false := by
      cases hb : s.V[j]
      · rfl
      · exact absurd ⟨hjv, hb⟩ hm
    rw [this]
/-- Behind a crash all that is seen lasts, and nothing waits. -/
theorem crash_same {s : St} {n : Nat} (h : Sane s n) (cuts : List Int) :
    (s.crash (wl s.V s.V.length) cuts (wl s.V s.V.length).length).L = (s.crash (wl s.V s.V.length) cuts (wl s.V s.V.length).length).S ∧
    (s.crash (wl s.V s.V.length) cuts (wl s.V s.V.length).length).V = falses n := by
  obtain ⟨h1, h2⟩ := crash_quiet h cuts
  refine ⟨h1.same h2, ?_⟩
  apply List.ext_getElem?
  intro j
  by_cases hj : j < n
  · rw [h2 j hj]; simp [falses, hj]
  · rw [List.getElem?_eq_none (by rw [h1.lv]; omega), List.getElem?_eq_none (by simp [falses]; omega)]

/-- Behind a Flush what was seen lasts. -/
theorem flush_to {s : St} {n : Nat} (hv : s.V.length = n) (hl : s.L.length = 64 * n) (hs : s.S.length = 64 * n) : ∀ k, k ≤ n → (s.flush k) = ⟨s.S.take (k * 64) ++ s.L.drop (k * 64), s.S, falses k ++ s.V.drop k⟩
  | 0, _ => by simp [St.flush, falses]
  | k + 1, hk => by
    have ih := flush_to hv hl hs k (by omega)
    show (s.flush k).settle k 64 = _
    rw [ih]
    simp only [St.settle, St.mk.injEq]
    have hlen : (s.S.take (k * 64) ++ s.L.drop (k * 64)).length = 64 * n := by
      rw [List.length_append, List.length_take, List.length_drop]; omega
    refine ⟨?_, ?_, ?_⟩
    · apply List.ext_getElem?
      intro i
      rw [setL_get (by omega) (by omega) (Nat.le_refl _)]
      by_cases h1 : i < k * 64
      · rw [if_neg (by omega), List.getElem?_append_left (by rw [List.length_take]; omega), List.getElem?_append_left (by rw [List.length_take]; omega), List.getElem?_take_of_lt h1, List.getElem?_take_of_lt (by omega)]
      · by_cases h2 : i < k * 64 + 64
        · rw [if_pos (by omega), List.getElem?_append_left (by rw [List.length_take]; omega), List.getElem?_take_of_lt (by omega)]
        · rw [if_neg (by omega), List.getElem?_append_right (by rw [List.length_take]; omega), List.getElem?_append_right (by rw [List.length_take]; omega), List.length_take, List.length_take, List.getElem?_drop, List.getElem?_drop]
          congr 1
          omega
    · apply List.ext_getElem?
      intro i
      rw [setS_get (by omega) (by omega) (Nat.le_refl _), if_neg (by omega)]
    · apply List.ext_getElem?
      intro i
      have hf : (falses k).length = k := falses_len k
      have hf1 : (falses (k + 1)).length = k + 1 := falses_len (k + 1)
      rw [List.getElem?_set]
      by_cases h1 : k = i
      · subst h1
        rw [if_pos rfl, if_pos (by rw [List.length_append, hf, List.length_drop]; omega), List.getElem?_append_left (by omega)]
        simp [falses]
      · rw [if_neg h1]
        by_cases h2 : i < k
        · rw [List.getElem?_append_left (by omega), List.getElem?_append_left (by omega)]
          simp [falses, h2, show i < k + 1 by omega]
        · rw [List.getElem?_append_right (by omega), List.getElem?_append_right (by omega), hf, hf1, List.getElem?_drop, List.getElem?_drop]
          congr 1
          omega
theorem flush_all {s : St} {n : Nat} (hv : s.V.length = n) (hl : s.L.length = 64 * n) (hs : s.S.length = 64 * n) : s.flush s.V.length = ⟨s.S, s.S, falses n⟩ := by
  rw [hv, flush_to hv hl hs n (Nat.le_refl _), List.take_of_length_le (by omega), List.drop_of_length_le (by omega), List.drop_of_length_le (by omega)]
  simp

end Go.Proofs.YtddjgncdjdjgeaaGreat
namespace Go.Proofs.YtddjgncdjdjgeaaGreat
open Go.RowKit

section
variable {w : World} {A : Option Addr} {n c : Nat} {l : List UInt8}

set_option maxHeartbeats 400000 in
set_option maxRecDepth 100000 in
/-- Less than a sector, or more than 160, or no whole ones: nil. -/
theorem of_no (hn : n ≤ 1000000) (h : n < 64 ∨ 10304 ≤ n ∨ n % 64 ≠ 0) :
    Calls Tryz.prog 39 #[.slice A n c] w fun e w' => e = .returned (.pointer none) ∧ w = w' := by
  by_cases h1 : n < 64
  · have hd : decide ((n : Int) / 64 < 1) = true := by simp; omega
    go_enter Tryz.func39, Tryz.ntmps39
    go_wp2_with fail
    go_ret
    exact ⟨rfl, rfl⟩
  · by_cases h2 : 10304 ≤ n
    · have hd1 : decide ((n : Int) / 64 < 1) = false := by simp; omega
      have hd2 : decide (160 < (n : Int) / 64) = true := by simp; omega
      go_enter Tryz.func39, Tryz.ntmps39
      go_wp2_with fail
      go_ret
      exact ⟨rfl, rfl⟩
    · have h3 : n % 64 ≠ 0 := by omega
      have hd1 : decide ((n : Int) / 64 < 1) = false := by simp; omega
      have hd2 : decide (160 < (n : Int) / 64) = false := by simp; omega
      have hd3 : ((n : Int) % 64 != 0) = true := by simp; omega
      clear h
      go_enter Tryz.func39, Tryz.ntmps39
      go_wp2_with fail
      go_ret
      exact ⟨rfl, rfl⟩

/-- The struct is laid last: the disk stands. -/
theorem dsk_end {W : World} {q bL bS bW : Nat} (hq : q = W.heap.size) (hL : Whole W bL 5 (bts l)) (hS : Whole W bS 5 (bts l)) (hV : Whole W bW 4 (bls (falses (l.length / 64)))) (hne : bL ≠ bS)
    (h1 : 64 ≤ l.length) (h2 : l.length < 10304) (h3 : l.length % 64 = 0) (hc : Chg [] w W) (b1 : w.heap.size ≤ bL) (b2 : w.heap.size ≤ bS) (b3 : w.heap.size ≤ bW) :
    ∃ p bL' bS' bW', Ending.returned (.pointer (some ⟨q, 0, none⟩)) = .returned (.pointer (some ⟨p, 0, none⟩)) ∧
      Dsk (W.alloc (.cells #[.slice (some ⟨bL, 0, none⟩) l.length l.length, .slice (some ⟨bS, 0, none⟩) l.length l.length, .slice (some ⟨bW, 0, none⟩) (l.length / 64) (l.length / 64)] 123)) p bL' bS' bW' l l (falses (l.length / 64)) ∧
      w.heap.size ≤ p ∧ w.heap.size ≤ bL' ∧ w.heap.size ≤ bS' ∧ w.heap.size ≤ bW' ∧ Chg [] w (W.alloc (.cells #[.slice (some ⟨bL, 0, none⟩) l.length l.length, .slice (some ⟨bS, 0, none⟩) l.length l.length, .slice (some ⟨bW, 0, none⟩) (l.length / 64) (l.length / 64)] 123)) := by
  subst hq
  have hk : ∀ o, Chg [] W (W.alloc o) := fun o => (Chg.refl [] W).alloc o
  refine ⟨W.heap.size, bL, bS, bW, rfl, ⟨?_, hL.keep (hk _), hS.keep (hk _), hV.keep (hk _), ?_, ?_, ?_, ?_, hne⟩, hc.size, b1, b2, b3, hc.alloc _⟩
  · have := Whole.new W 123 [.slice (some ⟨bL, 0, none⟩) l.length l.length, .slice (some ⟨bS, 0, none⟩) l.length l.length, .slice (some ⟨bW, 0, none⟩) (l.length / 64) (l.length / 64)]
    simpa only [falses_len] using this
  · rw [falses_len]; omega
  · rw [falses_len]; omega
  · rw [falses_len]; omega
  · rw [falses_len]; omega

set_option maxHeartbeats 400000 in
set_option maxRecDepth 100000 in
theorem of_yes (hl : l.length = n) (hs : Src w A (bts l)) (h1 : 64 ≤ n) (h2 : n < 10304) (h3 : n % 64 = 0) :
    Calls Tryz.prog 39 #[.slice A n c] w fun e w' => ∃ p bL bS bW, e = .returned (.pointer (some ⟨p, 0, none⟩)) ∧ Dsk w' p bL bS bW l l (falses (n / 64)) ∧
      w.heap.size ≤ p ∧ w.heap.size ≤ bL ∧ w.heap.size ≤ bS ∧ w.heap.size ≤ bW ∧ Chg [] w w' := by
  have hd1 : decide ((n : Int) / 64 < 1) = false := by simp; omega
  have hd2 : decide (160 < (n : Int) / 64) = false := by simp; omega
  have hd3 : ((n : Int) % 64 != 0) = false := by simp; omega
  have hmk : ∀ W : World, (Instr.makeSlice 67 (.int .i64 ((n : Int) / 64)) (.int .i64 ((n : Int) / 64))).run Tryz.prog W = .ok (.slice (some ⟨W.heap.size, 0, none⟩) (n / 64) (n / 64)) (W.alloc (.cells (bls (falses (n / 64))).toArray 4)) :=
    fun W => make_bool (n / 64) (by omega) W
  have HL := Lib.hid hl
  have H3 := Lib.hid h3
  clear hl h3
  go_enter Tryz.func39, Tryz.ntmps39
  go_wp2_with fail
  go_region_with (first
    | (go_at_call 87; have _t := HB1; refine (fresh_any (xs := bts l) (by rw [bts_len]; exact HL.out) ?_ (bts_one l) (by omega)).mono ?_; · (refine hs.keep ?_; repeat (first | exact Chg.refl _ _ | apply Chg.drew | apply Chg.alloc | refine Chg.new ?_ HC1))
       rintro e w2 ⟨rfl, HB2, HC2⟩)
    | (go_at_call 87; refine (fresh_any (xs := bts l) (by rw [bts_len]; exact HL.out) ?_ (bts_one l) (by omega)).mono ?_; · (refine hs.keep ?_; repeat (first | exact Chg.refl _ _ | apply Chg.drew | apply Chg.alloc))
       rintro e w1 ⟨rfl, HB1, HC1⟩))
  all_goals (go_wp2_with fail; go_ret; obtain rfl := HL.out)
  · have c1 : Chg [] w w1 := (Chg.refl [] w).drew.new HC1
    have l1 := Whole.lt HB1
    have z1 : w.drew.heap.size = w.heap.size := rfl
    exact dsk_end (W := w2.alloc _) (by simp) ((Whole.keep HB1 HC2).keep ((Chg.refl [] w2).alloc _)) (HB2.keep ((Chg.refl [] w2).alloc _)) (Whole.new w2 _ _) (by omega) h1 h2 H3.out ((c1.new HC2).alloc _)
      (Nat.le_refl _) c1.size (Nat.le_trans c1.size HC2.size)
  · have c1 : Chg [] w w1 := (Chg.refl [] w).drew.new HC1
    have l1 := Whole.lt HB1
    have z1 : w.drew.heap.size = w.heap.size := rfl
    have hb2 : Whole w2 (w1.heap.size + 1) 5 (bts l) := by simpa using HB2
    have s1 := c1.size
    exact dsk_end (W := w2) rfl ((Whole.keep HB1 ((Chg.refl [] w1).alloc _)).keep HC2) hb2 ((Whole.new w1 _ _).keep HC2) (by omega) h1 h2 H3.out ((c1.alloc _).new HC2)
      (Nat.le_refl _) (by omega) s1
  · have hb1 : Whole w1 (w.heap.size + 1) 5 (bts l) := by simpa using HB1
    have c1 : Chg [] w w1 := ((Chg.refl [] w).alloc _).drew.new HC1
    have l1 := hb1.lt
    exact dsk_end (W := w2) rfl (hb1.keep HC2) HB2 (((Whole.new w _ _).keep ((Chg.refl [] _).drew.new HC1)).keep HC2) (by omega) h1 h2 H3.out (c1.new HC2)
      (by omega) (by omega) (Nat.le_refl _)
end
end Go.Proofs.YtddjgncdjdjgeaaGreat
namespace Go.Proofs.YtddjgncdjdjgeaaGreat
open Go.RowKit

section
variable {w : World}
set_option maxHeartbeats 400000 in
set_option maxRecDepth 100000 in
theorem new_yes (k : Nat) (h1 : 1 ≤ k) (h2 : k ≤ 160) :
    Calls Tryz.prog 41 #[.int .i64 (k : Int)] w fun e w' => ∃ p bL bS bW, e = .returned (.pointer (some ⟨p, 0, none⟩)) ∧ Dsk w' p bL bS bW (zeros (k * 64)) (zeros (k * 64)) (falses k) ∧
      w.heap.size ≤ p ∧ w.heap.size ≤ bL ∧ w.heap.size ≤ bS ∧ w.heap.size ≤ bW ∧ Chg [] w w' := by
  have hd1 : decide ((k : Int) < 1) = false := by simp; omega
  have hd2 : decide (160 < (k : Int)) = false := by simp; omega
  have hmk : ∀ W : World, (Instr.makeSlice 30 (.int .i64 ((k : Int) * 64)) (.int .i64 ((k : Int) * 64))).run Tryz.prog W = .ok (.slice (some ⟨W.heap.size, 0, none⟩) (k * 64) (k * 64)) (W.alloc (.cells (bts (zeros (k * 64))).toArray 5)) :=
    fun W => by
      have := make_u8 (k * 64) (by omega) W
      simpa using this
  go_enter Tryz.func41, Tryz.ntmps41
  go_wp2_with (go_at_call 39; refine (of_yes (l := zeros (k * 64)) (by simp [zeros]) (Src.of_all (Whole.new w _ _)) (by omega) (by omega) (by omega)).mono ?_; rintro e w1 ⟨p, bL, bS, bW, rfl, HD, b0, b1, b2, b3, HC⟩)
  go_ret
  rw [show k * 64 / 64 = k by omega] at HD
  have hs : (w.alloc (.cells (bts (zeros (k * 64))).toArray 5)).heap.size = w.heap.size + 1 := by simp
  exact ⟨p, bL, bS, bW, rfl, HD, by omega, by omega, by omega, by omega, ((Chg.refl [] w).alloc _).new HC⟩
end
end Go.Proofs.YtddjgncdjdjgeaaGreat
namespace Go.Proofs.YtddjgncdjdjgeaaGreat
open Go.RowKit

def St.new (n : Nat) : St := ⟨zeros (n * 64), zeros (n * 64), falses n⟩
def St.of (l : List UInt8) : St := ⟨l, l, falses (l.length / 64)⟩

section
variable {w : World} {p bL bS bW : Nat} {s : St}
theorem new_int (n : Int) (h1 : 1 ≤ n) (h2 : n ≤ 160) :
    Calls Tryz.prog 41 #[.int .i64 n] w fun e w' => ∃ p bL bS bW, e = .returned (.pointer (some ⟨p, 0, none⟩)) ∧ DskS w' p bL bS bW (St.new n.toNat) ∧
      w.heap.size ≤ p ∧ w.heap.size ≤ bL ∧ w.heap.size ≤ bS ∧ w.heap.size ≤ bW ∧ Chg [] w w' := by
  obtain ⟨k, rfl⟩ := Int.eq_ofNat_of_zero_le (show 0 ≤ n by omega)
  rw [Int.toNat_natCast]
  exact new_yes k (by omega) (by omega)
end


end Go.Proofs.YtddjgncdjdjgeaaGreat
