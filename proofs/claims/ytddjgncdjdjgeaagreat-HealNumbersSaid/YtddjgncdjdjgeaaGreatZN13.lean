/-
  N: Sane, Rfw.
-/
import Derived.Test.YtddjgncdjdjgeaaGreatZN3
import Derived.Test.YtddjgncdjdjgeaaGreatZN6
import Derived.Test.YtddjgncdjdjgeaaGreatZN12
namespace Go.Proofs.YtddjgncdjdjgeaaGreat

theorem splice_get3 {α : Type} (L : List α) (o : Nat) (m : List α) (h : o + m.length ≤ L.length) (i : Nat) :
    (splice L o m)[i]? = if i < o then L[i]? else if i < o + m.length then m[i - o]? else L[i]? := by
  unfold splice
  have ht : (L.take o).length = o := by rw [List.length_take]; omega
  by_cases h1 : i < o
  · rw [if_pos h1, List.getElem?_append_left (by omega), List.getElem?_take_of_lt h1]
  · rw [if_neg h1, List.getElem?_append_right (by omega), ht]
    by_cases h2 : i < o + m.length
    · rw [if_pos h2, List.getElem?_append_left (by omega)]
    · rw [if_neg h2, List.getElem?_append_right (by omega), List.getElem?_drop]
      congr 1
      omega
theorem cut_get {α : Type} (L : List α) (o n i : Nat) : ((L.drop o).take n)[i]? = if i < n then L[o + i]? else none := by
  rw [List.getElem?_take]
  split
  · rw [List.getElem?_drop]
  · rfl

section
variable {L S : List UInt8} {k cut n : Nat}
theorem setL_get (l1 : 64 * (k + 1) ≤ L.length) (s1 : 64 * (k + 1) ≤ S.length) (hc : cut ≤ 64) (i : Nat) :
    (setL L S k cut)[i]? = if k * 64 ≤ i ∧ i < k * 64 + cut then S[i]? else L[i]? := by
  unfold setL
  have e : ((S.drop (k * 64)).take cut).length = cut := by rw [List.length_take, List.length_drop]; omega
  rw [splice_get3 _ _ _ (by omega), e, cut_get]
  by_cases h1 : i < k * 64
  · rw [if_pos h1, if_neg (by omega)]
  · rw [if_neg h1]
    by_cases h2 : i < k * 64 + cut
    · rw [if_pos h2, if_pos (by omega), if_pos (by omega)]
      congr 1
      omega
    · rw [if_neg h2, if_neg (by omega)]
theorem setS_get (l1 : 64 * (k + 1) ≤ L.length) (s1 : 64 * (k + 1) ≤ S.length) (hc : cut ≤ 64) (i : Nat) :
    (setS L S k cut)[i]? = if k * 64 + cut ≤ i ∧ i < k * 64 + 64 then L[i]? else S[i]? := by
  unfold setS
  have e : ((L.drop (k * 64 + cut)).take (64 - cut)).length = 64 - cut := by rw [List.length_take, List.length_drop]; omega
  rw [splice_get3 _ _ _ (by omega), e, cut_get]
  by_cases h1 : i < k * 64 + cut
  · rw [if_pos h1, if_neg (by omega)]
  · rw [if_neg h1]
    by_cases h2 : i < k * 64 + cut + (64 - cut)
    · rw [if_pos h2, if_pos (by omega), if_pos (by omega)]
      congr 1
      omega
    · rw [if_neg h2, if_neg (by omega)]
end

/-- A state whose sizes are right, and whose sectors that do not wait are seen as they last. -/
structure Sane (s : St) (n : Nat) : Prop where
  lv : s.V.length = n
  ll : s.L.length = 64 * n
  ls : s.S.length = 64 * n
  eq : ∀ j, j < n → s.V[j]? = some false → ∀ i, i < 64 → s.L[j * 64 + i]? = s.S[j * 64 + i]?

theorem Sane.settle {s : St} {n k cut : Nat} (h : Sane s n) (hk : k < n) (hc : cut ≤ 64) : Sane (s.settle k cut) n := by
  have l1 : 64 * (k + 1) ≤ s.L.length := by rw [h.ll]; omega
  have s1 : 64 * (k + 1) ≤ s.S.length := by rw [h.ls]; omega
  refine ⟨by simp [St.settle, h.lv], by simp only [St.settle]; rw [setL_len l1 hc, h.ll], by simp only [St.settle]; rw [setS_len s1 hc, h.ls], fun j hj hv i hi => ?_⟩
  simp only [St.settle] at hv ⊢
  rw [setL_get l1 s1 hc, setS_get l1 s1 hc]
  by_cases hjk : j = k
  · subst hjk
    by_cases h1 : i < cut
    · rw [if_pos (by omega), if_neg (by omega)]
    · rw [if_neg (by omega), if_pos (by omega)]
  · rw [List.getElem?_set_ne (by omega)] at hv
    have hne : j < k ∨ k < j := by omega
    rcases hne with hlt | hlt
    · have : j * 64 + i < k * 64 := by omega
      rw [if_neg (by omega), if_neg (by omega)]
      exact h.eq j hj hv i hi
    · have : k * 64 + 64 ≤ j * 64 + i := by omega
      rw [if_neg (by omega), if_neg (by omega)]
      exact h.eq j hj hv i hi

theorem Sane.write {s : St} {n k : Nat} {x : List UInt8} (h : Sane s n) (hk : k < n) (hx : x.length = 64) : Sane ⟨s.L, splice s.S (k * 64) x, s.V.set k true⟩ n := by
  have s1 : k * 64 + x.length ≤ s.S.length := by rw [h.ls]; omega
  refine ⟨by simp [h.lv], h.ll, by show (splice s.S (k * 64) x).length = _; rw [length_splice _ _ _ s1, h.ls], fun j hj hv i hi => ?_⟩
  show s.L[_]? = (splice s.S (k * 64) x)[_]?
  have hjk : k ≠ j := by
    rintro rfl
    simp only [] at hv
    rw [List.getElem?_set_self (by rw [h.lv]; exact hk)] at hv
    cases hv
  simp only [] at hv
  rw [List.getElem?_set_ne hjk] at hv
  rw [splice_get3 _ _ _ s1, hx]
  have hne : j < k ∨ k < j := by omega
  rcases hne with hlt | hlt
  · rw [if_pos (by omega)]
    exact h.eq j hj hv i hi
  · rw [if_neg (by omega), if_neg (by omega)]
    exact h.eq j hj hv i hi

/-- Where nothing waits, what is seen lasts. -/
theorem Sane.same {s : St} {n : Nat} (h : Sane s n) (hv : ∀ j, j < n → s.V[j]? = some false) : s.L = s.S := by
  apply List.ext_getElem?
  intro i
  by_cases hi : i < 64 * n
  · have := h.eq (i / 64) (by omega) (hv _ (by omega)) (i % 64) (by omega)
    rwa [show i / 64 * 64 + i % 64 = i by omega] at this
  · rw [List.getElem?_eq_none (by rw [h.ll]; omega), List.getElem?_eq_none (by rw [h.ls]; omega)]

theorem Sane.crash {s : St} {n : Nat} (h : Sane s n) (ws : List Nat) (cuts : List Int) (hws : ∀ j (hj : j < ws.length), ws[j] < n) : ∀ i, i ≤ ws.length → Sane (s.crash ws cuts i) n
  | 0, _ => h
  | i + 1, hi => by
    have ih := Sane.crash h ws cuts hws i (by omega)
    have e : ws.getD i 0 = ws[i] := by rw [List.getD_eq_getElem?_getD, List.getElem?_eq_getElem (by omega)]; rfl
    show Sane ((s.crash ws cuts i).settle (ws.getD i 0) (cutAt cuts i)) n
    rw [e]
    exact ih.settle (hws i (by omega)) (cutAt_le _ _)
theorem crash_V {s : St} (ws : List Nat) (cuts : List Int) (j : Nat) : ∀ i, i ≤ ws.length → (s.crash ws cuts i).V[j]? = if j ∈ ws.take i then (s.V[j]?).map (fun _ => false) else s.V[j]?
  | 0, _ => by simp [St.crash]
  | i + 1, hi => by
    have ih := crash_V (s := s) ws cuts j i (by omega)
    have e : ws.getD i 0 = ws[i] := by rw [List.getD_eq_getElem?_getD, List.getElem?_eq_getElem (by omega)]; rfl
    show (((s.crash ws cuts i).V).set (ws.getD i 0) false)[j]? = _
    have hm : j ∈ ws.take (i + 1) ↔ j ∈ ws.take i ∨ j = ws[i] := by
      rw [List.take_succ_eq_append_getElem (by omega), List.mem_append, List.mem_singleton]
    rw [e, List.getElem?_set, ih, crash_len]
    by_cases h1 : ws[i] = j
    · rw [if_pos h1, if_pos (hm.2 (.inr h1.symm))]
      by_cases h2 : j < s.V.length
      · rw [if_pos (by rw [h1]; exact h2), List.getElem?_eq_getElem h2]; rfl
      · rw [if_neg (by rw [h1]; exact h2), List.getElem?_eq_none (by omega)]; rfl
    · rw [if_neg h1]
      by_cases h3 : j ∈ ws.take i
      · rw [if_pos h3, if_pos (hm.2 (.inl h3))]
      · rw [if_neg h3, if_neg (fun h => (hm.1 h).elim h3 (fun e => h1 e.symm))]
theorem wl_mem (V : List Bool) (n j : Nat) : j ∈ wl V n ↔ j < n ∧ V.getD j false = true := by
  unfold wl
  simp
theorem crash_quiet {s : St} {n : Nat} (h : Sane s n) (cuts : List Int) : Sane (s.crash (wl s.V s.V.length) cuts (wl s.V s.V.length).length) n ∧
    ∀ j, j < n → (s.crash (wl s.V s.V.length) cuts (wl s.V s.V.length).length).V[j]? = some false := by
  refine ⟨h.crash _ cuts (fun j hj => Nat.lt_of_lt_of_le (wl_lt s.V s.V.length j hj) (Nat.le_of_eq h.lv)) _ (Nat.le_refl _), fun j hj => ?_⟩
  rw [crash_V _ cuts j _ (Nat.le_refl _), List.take_length]
  have hjv : j < s.V.length := by rw [h.lv]; exact hj
  by_cases hm : j ∈ wl s.V s.V.length
  · rw [if_pos hm, List.getElem?_eq_getElem hjv]; rfl
  · rw [if_neg hm, List.getElem?_eq_getElem hjv]
    rw [wl_mem] at hm
    have : s.V.getD j false = s.V[j] := by rw [List.getD_eq_getElem?_getD, List.getElem?_eq_getElem hjv]; rfl
    rw [this] at hm
    have : s.V[j] = false := by
      cases hb : s.V[j]
      · rfl
      · exact absurd ⟨hjv, hb⟩ hm
    rw [this]
/-- Behind a crash all that is seen lasts, and nothing waits. -/
theorem crash_same {s : St} {n : Nat} (h : Sane s n) (cuts : List Int) :
    (s.crash (wl s.V s.V.length) cuts (wl s.V s.V.length).length).L = (s.crash (wl s.V s.V.length) cuts (wl s.V s.V.length).length).S ∧
    (s.crash (wl s.V s.V.length) cuts (wl s.V s.V.length).length).V = falses n := by
  obtain ⟨h1, h2⟩ := crash_quiet h cuts
  refine ⟨h1.same h2, ?_⟩
  apply List.ext_getElem?
  intro j
  by_cases hj : j < n
  · rw [h2 j hj]; simp [falses, hj]
  · rw [List.getElem?_eq_none (by rw [h1.lv]; omega), List.getElem?_eq_none (by simp [falses]; omega)]

/-- Behind a Flush what was seen lasts. -/
theorem flush_to {s : St} {n : Nat} (hv : s.V.length = n) (hl : s.L.length = 64 * n) (hs : s.S.length = 64 * n) : ∀ k, k ≤ n → (s.flush k) = ⟨s.S.take (k * 64) ++ s.L.drop (k * 64), s.S, falses k ++ s.V.drop k⟩
  | 0, _ => by simp [St.flush, falses]
  | k + 1, hk => by
    have ih := flush_to hv hl hs k (by omega)
    show (s.flush k).settle k 64 = _
    rw [ih]
    simp only [St.settle, St.mk.injEq]
    have hlen : (s.S.take (k * 64) ++ s.L.drop (k * 64)).length = 64 * n := by
      rw [List.length_append, List.length_take, List.length_drop]; omega
    refine ⟨?_, ?_, ?_⟩
    · apply List.ext_getElem?
      intro i
      rw [setL_get (by omega) (by omega) (Nat.le_refl _)]
      by_cases h1 : i < k * 64
      · rw [if_neg (by omega), List.getElem?_append_left (by rw [List.length_take]; omega), List.getElem?_append_left (by rw [List.length_take]; omega), List.getElem?_take_of_lt h1, List.getElem?_take_of_lt (by omega)]
      · by_cases h2 : i < k * 64 + 64
        · rw [if_pos (by omega), List.getElem?_append_left (by rw [List.length_take]; omega), List.getElem?_take_of_lt (by omega)]
        · rw [if_neg (by omega), List.getElem?_append_right (by rw [List.length_take]; omega), List.getElem?_append_right (by rw [List.length_take]; omega), List.length_take, List.length_take, List.getElem?_drop, List.getElem?_drop]
          congr 1
          omega
    · apply List.ext_getElem?
      intro i
      rw [setS_get (by omega) (by omega) (Nat.le_refl _), if_neg (by omega)]
    · apply List.ext_getElem?
      intro i
      have hf : (falses k).length = k := falses_len k
      have hf1 : (falses (k + 1)).length = k + 1 := falses_len (k + 1)
      rw [List.getElem?_set]
      by_cases h1 : k = i
      · subst h1
        rw [if_pos rfl, if_pos (by rw [List.length_append, hf, List.length_drop]; omega), List.getElem?_append_left (by omega)]
        simp [falses]
      · rw [if_neg h1]
        by_cases h2 : i < k
        · rw [List.getElem?_append_left (by omega), List.getElem?_append_left (by omega)]
          simp [falses, h2, show i < k + 1 by omega]
        · rw [List.getElem?_append_right (by omega), List.getElem?_append_right (by omega), hf, hf1, List.getElem?_drop, List.getElem?_drop]
          congr 1
          omega
theorem flush_all {s : St} {n : Nat} (hv : s.V.length = n) (hl : s.L.length = 64 * n) (hs : s.S.length = 64 * n) : s.flush s.V.length = ⟨s.S, s.S, falses n⟩ := by
  rw [hv, flush_to hv hl hs n (Nat.le_refl _), List.take_of_length_le (by omega), List.drop_of_length_le (by omega), List.drop_of_length_le (by omega)]
  simp

end Go.Proofs.YtddjgncdjdjgeaaGreat
namespace Go.Proofs.YtddjgncdjdjgeaaGreat
open Go.RowKit
/-- A disk, how many deeds may be done (-1: all), how many were done. -/
structure Dg where
  s : St
  lf : Int
  m : Int
abbrev Deed : Type := Option (Nat × List UInt8)
/-- A deed: a Flush, a Write. -/
def dOne (s : St) : Deed → St
  | none => flA s
  | some x => s.write x.1 x.2
def lfD (lf : Int) : Int := if 0 < lf then wrap64 (lf - 1) else lf
def Dg.step (d : Dg) (x : Deed) : Dg := if d.lf = 0 then d else ⟨dOne d.s x, lfD d.lf, wrap64 (d.m + 1)⟩
def Dg.run (d : Dg) (l : List Deed) : Dg := l.foldl Dg.step d
def doD (s : St) (l : List Deed) : St := l.foldl dOne s
theorem Dg.run_app (d : Dg) (a b : List Deed) : d.run (a ++ b) = (d.run a).run b := List.foldl_append
theorem doD_app (s : St) (a b : List Deed) : doD s (a ++ b) = doD (doD s a) b := List.foldl_append
theorem dOne_len (s : St) (x : Deed) : (dOne s x).V.length = s.V.length := by
  cases x with
  | none => exact flA_len s
  | some x => exact write_len s x.1 x.2
theorem doD_len : ∀ (l : List Deed) (s : St), (doD s l).V.length = s.V.length
  | [], _ => rfl
  | x :: l, s => (doD_len l (dOne s x)).trans (dOne_len s x)
theorem Dg.step_len (d : Dg) (x : Deed) : (d.step x).s.V.length = d.s.V.length := by
  unfold Dg.step
  split
  · rfl
  · exact dOne_len _ _
theorem Dg.run_len : ∀ (l : List Deed) (d : Dg), (d.run l).s.V.length = d.s.V.length
  | [], _ => rfl
  | x :: l, d => (Dg.run_len l (d.step x)).trans (d.step_len x)
/-- All deeds are let be done. -/
theorem Dg.run_free : ∀ (l : List Deed) (d : Dg), d.lf = -1 → (d.run l).s = doD d.s l ∧ (d.run l).lf = -1
  | [], _, h => ⟨rfl, h⟩
  | x :: l, d, h => by
    have e : d.step x = ⟨dOne d.s x, -1, wrap64 (d.m + 1)⟩ := by
      unfold Dg.step lfD
      rw [h, if_neg (by decide), if_neg (by decide)]
    show ((d.step x).run l).s = _ ∧ ((d.step x).run l).lf = _
    rw [e]
    exact Dg.run_free l _ rfl
abbrev Rd (w : World) (p gL gN gW : Nat) (rL rN : List Value) (d : Dg) : Prop := Rfx w p gL gN gW rL rN d.lf d.m d.s
section
variable {w w' : World} {p gL gN gW : Nat} {rL rN : List Value} {lf m : Int} {s : St}
set_option maxHeartbeats 1000000 in
set_option maxRecDepth 100000 in
theorem rxdeed_no (h : Rfx w p gL gN gW rL rN 0 m s) : Calls Tryz.prog 79 #[.pointer (some ⟨p, 0, none⟩)] w fun e w' => e = .returned (.bool false) ∧ w = w' := by
  have c3 := h.rec_.cell 3
  go_enter Tryz.func79, Tryz.ntmps79
  go_wp2_with fail
  go_ret
  exact ⟨rfl, rfl⟩
set_option maxHeartbeats 1000000 in
set_option maxRecDepth 100000 in
theorem rxdeed_yes (h : Rfx w p gL gN gW rL rN lf m s) (h0 : lf ≠ 0) : Calls Tryz.prog 79 #[.pointer (some ⟨p, 0, none⟩)] w fun e w' => e = .returned (.bool true) ∧ Rfx w' p gL gN gW rL rN (lfD lf) (wrap64 (m + 1)) s ∧ Chg [p] w w' := by
  have c3 := h.rec_.cell 3
  have c4 := h.rec_.cell 4
  have f3 := h.rec_.frozen 3
  have f4 := h.rec_.frozen 4
  have e0 : (lf == 0) = false := by simpa using h0
  by_cases hp : 0 < lf
  · have hl : lfD lf = wrap64 (lf - 1) := by unfold lfD; rw [if_pos hp]
    have HL := Lib.hid hl
    clear hl h0
    go_enter Tryz.func79, Tryz.ntmps79
    go_wp2_with fail
    go_ret
    rw [HL.out]
    refine ⟨rfl, ⟨(h.rec_.set_ 3 _).set_ 4 _, (h.last.far (h.last.ne_ h.rec_ (by decide)) _).far (h.last.ne_ h.rec_ (by decide)) _, (h.now.far (h.now.ne_ h.rec_ (by decide)) _).far (h.now.ne_ h.rec_ (by decide)) _, (h.wait.far (h.wait.ne_ h.rec_ (by decide)) _).far (h.wait.ne_ h.rec_ (by decide)) _, h.lenL, h.lenS, h.le, h.ne⟩, ((Chg.refl [p] w).setCell (by simp) _).setCell (by simp) _⟩
  · have hl : lfD lf = lf := by unfold lfD; rw [if_neg hp]
    have HL := Lib.hid hl
    clear hl h0
    go_enter Tryz.func79, Tryz.ntmps79
    go_wp2_with fail
    go_ret
    rw [HL.out]
    refine ⟨rfl, ⟨h.rec_.set_ 4 _, h.last.far (h.last.ne_ h.rec_ (by decide)) _, h.now.far (h.now.ne_ h.rec_ (by decide)) _, h.wait.far (h.wait.ne_ h.rec_ (by decide)) _, h.lenL, h.lenS, h.le, h.ne⟩, (Chg.refl [p] w).setCell (by simp) _⟩
set_option maxHeartbeats 1000000 in
set_option maxRecDepth 100000 in
theorem rxwrite_no (h : Rfx w p gL gN gW rL rN 0 m s) (k : Nat) (hk : k < s.V.length) (A : Option Addr) (c : Nat) :
    Calls Tryz.prog 54 #[.pointer (some ⟨p, 0, none⟩), .int .i64 (k : Int), .slice A 64 c] w fun e w' => e = .returned (.bool true) ∧ w = w' := by
  have hd : decide ((k : Int) < 0) = false := by simp
  have hd1 : decide ((s.V.length : Int) ≤ (k : Int)) = false := by simp; omega
  go_enter Tryz.func54, Tryz.ntmps54
  go_wp2_with (go_at_call 53; refine (rlen_any h).mono ?_; rintro e w' ⟨rfl, rfl⟩)
  refine (rxdeed_no h).mono ?_
  rintro e w' ⟨rfl, rfl⟩
  go_wp2_with fail
  go_ret
  exact ⟨rfl, rfl⟩
set_option maxHeartbeats 1000000 in
set_option maxRecDepth 100000 in
theorem rxflush_no (h : Rfx w p gL gN gW rL rN 0 m s) :
    Calls Tryz.prog 28 #[.pointer (some ⟨p, 0, none⟩)] w fun e w' => e = .returned (.tuple #[]) ∧ w = w' := by
  go_enter Tryz.func28, Tryz.ntmps28
  go_wp2_with fail
  refine (rxdeed_no h).mono ?_
  rintro e w' ⟨rfl, rfl⟩
  go_wp2_with fail
  go_end0
  exact ⟨rfl, rfl⟩
set_option maxHeartbeats 1000000 in
set_option maxRecDepth 100000 in
theorem rxwrite_yes (h : Rfx w p gL gN gW rL rN lf m s) (h0 : lf ≠ 0) (k : Nat) (hk : k < s.V.length) {A : Option Addr} {c : Nat} {x : List UInt8} (hx : x.length = 64) (hs : Src w A (bts x)) (hA : ∀ ad, A = some ad → ad.block ≠ p) :
    Calls Tryz.prog 54 #[.pointer (some ⟨p, 0, none⟩), .int .i64 (k : Int), .slice A 64 c] w fun e w' => e = .returned (.bool true) ∧
      Rfx w' p gL gN gW rL rN (lfD lf) (wrap64 (m + 1)) (s.write k x) ∧ Chg [p, gN, gW] w w' := by
  have hd : decide ((k : Int) < 0) = false := by simp
  have HL0 := Lib.hid h0
  clear h0
  have hd1 : decide ((s.V.length : Int) ≤ (k : Int)) = false := by simp; omega
  have hS := h.lenS
  have hv := h.le
  have s1 : 64 * (k + 1) ≤ s.S.length := by omega
  have s2 : s.S.length ≤ 1000000 := by omega
  have hne : ¬ (s.S.length + rN.length = k * 64) := by omega
  have hle : k * 64 ≤ s.S.length := by omega
  clear hS
  have hfit : k * 64 + (bts x).length ≤ (bts s.S ++ rN).length := by rw [List.length_append, bts_len, bts_len]; omega
  have Hn := Lib.hid (show (bts x).length = Nat.min 64 (s.S.length - k * 64) by rw [bts_len, hx]; exact (Nat.min_eq_left (by omega)).symm)
  have Hx := Lib.hid hx
  have b1 := bts_one x
  have HA := Lib.hid hA
  have n2 := Lib.hid (show p ∉ [gN] by simpa using h.rec_.ne_ h.now (by decide))
  have n3 := Lib.hid (show gW ∉ [gN] by simpa using h.wait.ne_ h.now (by decide))
  have HX := Lib.hid (show splice (bts s.S ++ rN) (k * 64) (bts x) = bts (splice s.S (k * 64) x) ++ rN by rw [splice_app _ _ _ _ (by rw [bts_len, bts_len]; omega), bts_splice])
  obtain ⟨Y, hY⟩ : ∃ Y, Y = bts x := ⟨_, rfl⟩
  rw [← hY] at hfit Hn b1 hs HX
  clear hx hY hA
  go_enter Tryz.func54, Tryz.ntmps54
  go_wp2_with (go_at_call 53; refine (rlen_any h).mono ?_; rintro e w' ⟨rfl, rfl⟩)
  refine (rxdeed_yes h HL0.out).mono ?_
  rintro e w1 ⟨rfl, h1, hc1⟩
  have c1 := h1.rec_.cell 1
  have hs1 : Src w1 A Y := hs.chg hc1 (fun _ ad e => by simpa using HA.out ad e)
  go_wp2_with (with_reducible refine wpList_copy_chg rfl (.tmp 28) (.tmp 29) _ _ rfl 5 Tryz.underlying30 size_u8 (some ⟨gN, k * 64, none⟩) A (s.S.length - k * 64) (s.S.length + rN.length - k * 64) 64 c rfl rfl gN (k * 64) 5 (bts s.S ++ rN) Y h1.now Hn.out (fun _ => rfl) hs1 hfit b1 ?_
               intro w2 HG HC
               have R2 := h1.rec_.chg HC n2.out
               have V2 := h1.wait.chg HC n3.out
               have c2 := R2.cell 2
               have c4 := (V2.cell k).trans (bls_get s.V k hk)
               have c5 := V2.frozen k)
  go_ret
  rw [HX.out] at HG
  have eS : (splice s.S (k * 64) x).length = s.S.length := length_splice _ _ _ (by rw [Hx.out]; omega)
  have d1 := h1.rec_.ne_ h1.wait (by decide)
  have d2 := h1.last.ne_ h1.wait (by decide)
  have d3 := h1.now.ne_ h1.wait (by decide)
  have hw : Whole (w2.setCell ⟨gW, k, none⟩ (.bool true)) gW 4 (bls (s.V.set k true)) := by
    have := V2.set_ k (.bool true)
    rwa [bls_set] at this
  refine ⟨rfl, ⟨?_, (h1.last.chg HC (by simpa using h1.ne)).far d2 _, HG.far d3 _, hw, by simp only [St.write, List.length_set]; exact h.lenL, by simp only [St.write, List.length_set]; rw [eS]; exact h.lenS, by simp only [St.write, List.length_set]; exact h.le, h.ne⟩, ?_⟩
  · simp only [St.write, List.length_set]
    rw [eS]
    exact R2.far d1 _
  · exact (((hc1.sub (by simp)).trans (HC.sub (T' := [p, gN, gW]) (by simp)))).setCell (by simp) _
set_option maxHeartbeats 2000000 in
set_option maxRecDepth 100000 in
theorem rxflush_yes (h : Rfx w p gL gN gW rL rN lf m s) (h0 : lf ≠ 0) :
    Calls Tryz.prog 28 #[.pointer (some ⟨p, 0, none⟩)] w fun e w' => ∃ gW', e = .returned (.tuple #[]) ∧
      Rfx w' p gL gN gW' rL rN (lfD lf) (wrap64 (m + 1)) ⟨s.S, s.S, falses s.V.length⟩ ∧ w.heap.size ≤ gW' ∧ Chg [p, gL] w w' := by
  have hmk := make_bool s.V.length (by have := h.le; omega)
  have HL0 := Lib.hid h0
  clear h0
  have hLS : s.L.length = s.S.length := by rw [h.lenL, h.lenS]
  have Hn := Lib.hid (show (bts s.S).length = Nat.min s.S.length s.L.length by rw [bts_len, hLS]; exact (Nat.min_self _).symm)
  have hfit : 0 + (bts s.S).length ≤ (bts s.L ++ rL).length := by rw [List.length_append, bts_len, bts_len]; omega
  have HX := Lib.hid (show splice (bts s.L ++ rL) 0 (bts s.S) = bts s.S ++ rL by rw [splice_app _ _ _ _ (by rw [bts_len, bts_len]; omega), bts_splice, splice_all _ _ (by omega)])
  have HLS := Lib.hid hLS
  have b1 := bts_one s.S
  clear hLS
  go_enter Tryz.func28, Tryz.ntmps28
  go_wp2_with fail
  refine (rxdeed_yes h HL0.out).mono ?_
  rintro e w1 ⟨rfl, h1, hc1⟩
  have c0 := h1.rec_.cell 0
  have c1 := h1.rec_.cell 1
  have hs1 : Src w1 (some ⟨gN, 0, none⟩) (bts s.S) := by
    have := Src.of_whole h1.now 0 s.S.length
    rwa [List.drop_zero, List.take_append_of_le_length (by rw [bts_len]; omega), List.take_of_length_le (by rw [bts_len]; omega)] at this
  have n2 := Lib.hid (show p ∉ [gL] by simpa using h.rec_.ne_ h.last (by decide))
  have n4 := Lib.hid (show gN ∉ [gL] by simpa using fun e => h.ne e.symm)
  obtain ⟨Y, hY⟩ : ∃ Y, Y = bts s.S := ⟨_, rfl⟩
  have HY := Lib.hid hY
  rw [← hY] at Hn hfit HX b1 hs1
  clear hY
  go_wp2_with fail
  go_region_law (with_reducible refine step_copy_chg rfl (.tmp 7) (.tmp 11) _ _ rfl 5 Tryz.underlying30 size_u8 (some ⟨gL, 0, none⟩) (some ⟨gN, 0, none⟩) s.L.length (s.L.length + rL.length) s.S.length (s.S.length + rN.length) rfl rfl gL 0 5 (bts s.L ++ rL) Y h1.last.drew Hn.out (fun _ => rfl) hs1.drew hfit b1 ?_; intro w2 HG HC)
  all_goals
    have R2 := h1.rec_.drew.chg HC n2.out
    have N2 := h1.now.drew.chg HC n4.out
    clear c0 c1
    have c2 : w2.cell? ⟨p, 2, none⟩ = some (.slice (some ⟨gW, 0, none⟩) s.V.length s.V.length) := R2.cell 2
    have c2' : ∀ o, (w2.alloc o).cell? ⟨p, 2, none⟩ = some (.slice (some ⟨gW, 0, none⟩) s.V.length s.V.length) := fun o => (R2.keep ((Chg.refl [] w2).alloc o)).cell 2
    have f2' := fun o => (R2.keep ((Chg.refl [] w2).alloc o)).frozen 2
    rw [HX.out, HY.out] at HG
    go_wp2_with fail
    go_end0
    have hal : ∀ o, Chg [] w2 (w2.alloc o) := fun o => (Chg.refl [] w2).alloc o
    have z1 := hc1.size
    have z2 := HC.size
    have z3 : w1.drew.heap.size = w1.heap.size := rfl
    have lp := R2.lt
    have lL := HG.lt
    have lN := N2.lt
    refine ⟨w2.heap.size, rfl, ⟨?_, (HG.keep (hal _)).far (by simpa using HG.ne_ R2 (by decide)) _, (N2.keep (hal _)).far (by simpa using N2.ne_ R2 (by decide)) _, (Whole.new w2 _ _).far (by simp; omega) _, by simp only [falses_len]; exact h.lenS, by simp only [falses_len]; exact h.lenS, by simp only [falses_len]; exact h.le, h.ne⟩, by omega, ?_⟩
    · have := (R2.keep (hal (.cells (bls (falses s.V.length)).toArray 4))).set_ 2 (.slice (some ⟨w2.heap.size, 0, none⟩) s.V.length s.V.length)
      simp only [falses_len]
      rw [HLS.out] at this
      exact this
    · have a1 : Chg [p, gL] w w1 := hc1.sub (by simp)
      have a2 : Chg [p, gL] w w2 := a1.drew.trans (HC.sub (by simp))
      exact (a2.alloc _).setCell (by simp) _
variable {d : Dg}
theorem rdwrite_any (h : Rd w p gL gN gW rL rN d) (k : Nat) (hk : k < d.s.V.length) {A : Option Addr} {c : Nat} {x : List UInt8} (hx : x.length = 64) (hs : Src w A (bts x)) (hA : ∀ ad, A = some ad → ad.block ≠ p) :
    Calls Tryz.prog 54 #[.pointer (some ⟨p, 0, none⟩), .int .i64 (k : Int), .slice A 64 c] w fun e w' => e = .returned (.bool true) ∧ Rd w' p gL gN gW rL rN (d.step (some (k, x))) ∧ Chg [p, gN, gW] w w' := by
  obtain ⟨s, lf, m⟩ := d
  by_cases h0 : lf = 0
  · subst h0
    refine (rxwrite_no h k hk A c).mono ?_
    rintro e w' ⟨rfl, rfl⟩
    exact ⟨rfl, by unfold Dg.step; rw [if_pos rfl]; exact h, Chg.refl _ _⟩
  · refine (rxwrite_yes h h0 k hk hx hs hA).mono ?_
    rintro e w' ⟨rfl, h', hc⟩
    exact ⟨rfl, by unfold Dg.step; rw [if_neg h0]; exact h', hc⟩
theorem rdflush_any (h : Rd w p gL gN gW rL rN d) :
    Calls Tryz.prog 28 #[.pointer (some ⟨p, 0, none⟩)] w fun e w' => ∃ gW', e = .returned (.tuple #[]) ∧ Rd w' p gL gN gW' rL rN (d.step none) ∧ (gW' = gW ∨ w.heap.size ≤ gW') ∧ Chg [p, gL] w w' := by
  obtain ⟨s, lf, m⟩ := d
  by_cases h0 : lf = 0
  · subst h0
    refine (rxflush_no h).mono ?_
    rintro e w' ⟨rfl, rfl⟩
    exact ⟨gW, rfl, by unfold Dg.step; rw [if_pos rfl]; exact h, .inl rfl, Chg.refl _ _⟩
  · refine (rxflush_yes h h0).mono ?_
    rintro e w' ⟨gW', rfl, h', hg, hc⟩
    refine ⟨gW', rfl, ?_, .inr hg, hc⟩
    unfold Dg.step
    rw [if_neg h0]
    show Rfx w' p gL gN gW' rL rN (lfD lf) (wrap64 (m + 1)) (flA s)
    unfold flA
    rw [flush_all rfl h.lenL h.lenS]
    exact h'
end
end Go.Proofs.YtddjgncdjdjgeaaGreat
