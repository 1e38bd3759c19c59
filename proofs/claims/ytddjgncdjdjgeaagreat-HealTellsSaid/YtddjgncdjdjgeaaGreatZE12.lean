/-
  E: Crash, Flush, Sane, RefCrash.
-/
import Derived.Test.YtddjgncdjdjgeaaGreatZE5
import Derived.Test.YtddjgncdjdjgeaaGreatZE11
import Derived.Deep.DeepCutAuto
namespace Go.Proofs.YtddjgncdjdjgeaaGreat
open Go.RowKit

/-- The i-th cut, held between 0 and 64; 0 where there is none. -/
def cutAt (cuts : List Int) (i : Nat) : Nat := if h : i < cuts.length then (min (max cuts[i] 0) 64).toNat else 0
theorem cutAt_le (cuts : List Int) (i : Nat) : cutAt cuts i ≤ 64 := by unfold cutAt; split <;> omega

def St.settle (s : St) (k cut : Nat) : St := ⟨setL s.L s.S k cut, setS s.L s.S k cut, s.V.set k false⟩
/-- Behind the first i of the sectors ws. -/
def St.crash (s : St) (ws : List Nat) (cuts : List Int) : Nat → St
  | 0 => s
  | i + 1 => (St.crash s ws cuts i).settle (ws.getD i 0) (cutAt cuts i)
theorem crash_len (s : St) (ws : List Nat) (cuts : List Int) (i : Nat) : (s.crash ws cuts i).V.length = s.V.length := by
  induction i with
  | zero => rfl
  | succ i ih => simp [St.crash, St.settle, ih]
theorem wl_lt (V : List Bool) (k i : Nat) (h : i < (wl V k).length) : (wl V k)[i] < k := by
  have := List.getElem_mem h
  unfold wl at this
  exact List.mem_range.1 (List.mem_filter.1 this).1

section
variable {w : World} {p bL bS bW : Nat} {L S : List UInt8} {V : List Bool}
theorem settle_int (h : Dsk w p bL bS bW L S V) (k : Nat) (hk : k < V.length) (c : Int) (h0 : 0 ≤ c) (h1 : c ≤ 64) :
    Calls Tryz.prog 43 #[.pointer (some ⟨p, 0, none⟩), .int .i64 (k : Int), .int .i64 c] w fun e w' => e = .returned (.tuple #[]) ∧
      Dsk w' p bL bS bW (setL L S k c.toNat) (setS L S k c.toNat) (V.set k false) ∧ Chg [bL, bS, bW] w w' := by
  obtain ⟨n, rfl⟩ := Int.eq_ofNat_of_zero_le h0
  rw [Int.toNat_natCast]
  by_cases hn : n < 64
  · exact settle_lt h k n hk hn
  · obtain rfl : n = 64 := by omega
    rw [show ((64 : Nat) : Int) = 64 from rfl]
    exact settle_64 h k hk

set_option maxHeartbeats 1000000 in
set_option maxRecDepth 100000 in
theorem crash_any (h : Dsk w p bL bS bW L S V) {A : Option Addr} {n c : Nat} {cuts : List Int} (hl : cuts.length = n) (hs : Src w A (nms cuts)) (hp : 0 < cuts.length → ∀ ad, A = some ad → ad.spot = none) (hA : 0 < cuts.length → ∀ ad, A = some ad → ad.block ∉ [bL, bS, bW]) (hn : n ≤ 9223372036854775807) :
    Calls Tryz.prog 13 #[.pointer (some ⟨p, 0, none⟩), .slice A n c] w fun e w' => e = .returned (.int .i64 ((wl V V.length).length : Int)) ∧
      DskS w' p bL bS bW (St.crash ⟨L, S, V⟩ (wl V V.length) cuts (wl V V.length).length) ∧ Chg [bL, bS, bW] w w' := by
  obtain ⟨ws, hws⟩ : ∃ ws, ws = wl V V.length := ⟨_, rfl⟩
  have hlen : ws.length ≤ 160 := by have := wl_le V V.length; have := h.le; rw [hws]; omega
  have hlt : ∀ i (hi : i < ws.length), ws[i] < V.length := by subst hws; exact fun i hi => wl_lt V V.length i hi
  have hb : bL < w.heap.size ∧ bS < w.heap.size ∧ bW < w.heap.size := ⟨h.last.lt, h.seen.lt, h.wait.lt⟩
  have HW := Lib.hid (waits_any h)
  rw [← hws] at HW
  rw [← hws]
  have HL := Lib.hid hl
  have Hlt := Lib.hid hlt
  clear hws hl hlt
  go_enter Tryz.func13, Tryz.ntmps13
  go_wp2_with (go_at_call 42; refine (HW.out).mono ?_; rintro e w1 ⟨v, rfl, hown, hc1⟩; obtain ⟨A1, c1, rfl, hs1, hl1, hA1⟩ := own_form hown; clear hown hl1)
  have hd1 : Dsk w1 p bL bS bW L S V := h.keep hc1
  have hs2 : Src w1 A (nms cuts) := hs.keep hc1
  have hA1' : ∀ ad, A1 = some ad → ad.block ∉ [bL, bS, bW] := fun ad e => by
    have := (hA1 ad e).2
    simp
    omega
  have HA := Lib.hid (show 0 < (nms cuts).length → ∀ ad, A = some ad → ad.block ∉ [bL, bS, bW] from fun h => hA (by simpa [nms] using h))
  have HA1 := Lib.hid hA1'
  have Hp := Lib.hid hp
  have Hp1 := Lib.hid hA1
  clear hA hA1 hA1' hp
  go_loopw [13] (fun i wr => ∃ k : Nat, k ≤ ws.length ∧ i = .int .i64 (k : Int) ∧ DskS wr p bL bS bW (St.crash ⟨L, S, V⟩ ws cuts k) ∧ Chg [bL, bS, bW] w1 wr) (fun i _ => ws.length - (intOf i).toNat)
  case atStart => exact ⟨0, Nat.zero_le _, rfl, hd1, Chg.refl _ _⟩
  case round =>
    obtain ⟨k, hk, rfl, hdk, hck⟩ := hrel
    by_cases hlt : k < ws.length
    · have hs3 := hs1.chg hck (fun _ => HA1.out)
      obtain ⟨ad, rfl, _, hx⟩ := hs3 (by rw [nmsN_len]; omega)
      have hx1 := hx k _ (nmsN_get ws k hlt)
      clear hx
      obtain ⟨b1, o1, s1⟩ := ad
      obtain rfl : s1 = none := (Hp1.out _ rfl).1
      rw [add_plain] at hx1
      have hlt2 := Hlt.out k hlt
      have hlt3 : ws[k] < (St.crash ⟨L, S, V⟩ ws cuts k).V.length := by rw [crash_len]; exact hlt2
      have HE := Lib.hid (show (St.crash ⟨L, S, V⟩ ws cuts (k + 1)) = (St.crash ⟨L, S, V⟩ ws cuts k).settle ws[k] (cutAt cuts k) by
        show (St.crash ⟨L, S, V⟩ ws cuts k).settle (ws.getD k 0) (cutAt cuts k) = _
        rw [List.getD_eq_getElem?_getD, List.getElem?_eq_getElem hlt]; rfl)
      obtain ⟨s2, hE2⟩ : ∃ s2, s2 = St.crash ⟨L, S, V⟩ ws cuts (k + 1) := ⟨_, rfl⟩
      rw [← hE2] at HE
      have hE2 := Lib.hid hE2
      generalize St.crash ⟨L, S, V⟩ ws cuts k = s0 at HE hdk hlt3
      generalize hwk : ws[k] = q at hx1 hlt2 hlt3 HE
      clear hwk
      by_cases hkc : k < cuts.length
      · have hs4 := hs2.chg hck HA.out
        obtain ⟨ad2, rfl, _, hy⟩ := hs4 (by simp [nms]; omega)
        have hy1 := hy k (.int .i64 cuts[k]) (by simp [nms, hkc])
        clear hy
        obtain ⟨b2, o2, s2'⟩ := ad2
        obtain rfl : s2' = none := Hp.out (by omega) _ rfl
        rw [add_plain] at hy1
        have HC := Lib.hid (show cutAt cuts k = (min (max cuts[k] 0) 64).toNat by unfold cutAt; rw [dif_pos hkc])
        generalize cuts[k] = z at hy1 HC
        have hkn : k < n := by have := HL.out; omega
        clear hkc
        go_wp2_with fail
        refine (settle_int hdk q hlt3 (min (max z 0) 64) (by omega) (by omega)).mono ?_
        rintro e w2 ⟨rfl, hd2, hc2⟩
        rw [← HC.out] at hd2
        have hd3 : DskS w2 p bL bS bW s2 := by rw [HE.out]; exact hd2
        clear hd2
        go_wp2_with fail
        go_roundw
        case rel => exact ⟨k + 1, by omega, by go_num, (hE2.out ▸ hd3), hck.trans hc2⟩
        case measure => simp [intOf]; omega
      · have HC := Lib.hid (show cutAt cuts k = (0 : Int).toNat by unfold cutAt; rw [dif_neg hkc]; rfl)
        have hkn : n ≤ k := by have := HL.out; omega
        clear hkc
        go_wp2_with fail
        refine (settle_int hdk q hlt3 0 (by omega) (by omega)).mono ?_
        rintro e w2 ⟨rfl, hd2, hc2⟩
        rw [← HC.out] at hd2
        have hd3 : DskS w2 p bL bS bW s2 := by rw [HE.out]; exact hd2
        clear hd2
        go_wp2_with fail
        go_roundw
        case rel => exact ⟨k + 1, by omega, by go_num, (hE2.out ▸ hd3), hck.trans hc2⟩
        case measure => simp [intOf]; omega
    · have hkl : k = ws.length := by omega
      have hdl : DskS wr p bL bS bW (St.crash ⟨L, S, V⟩ ws cuts ws.length) := hkl ▸ hdk
      clear hkl
      go_wp2_with fail
      go_ret
      exact ⟨rfl, hdl, (hc1.sub (by simp)).trans hck⟩
end
end Go.Proofs.YtddjgncdjdjgeaaGreat
namespace Go.Proofs.YtddjgncdjdjgeaaGreat
open Go.RowKit

/-- Behind the first i sectors. -/
def St.flush (s : St) : Nat → St
  | 0 => s
  | i + 1 => (St.flush s i).settle i 64
theorem flush_len (s : St) (i : Nat) : (s.flush i).V.length = s.V.length := by
  induction i with
  | zero => rfl
  | succ i ih => simp [St.flush, St.settle, ih]

section
variable {w : World} {p bL bS bW : Nat} {L S : List UInt8} {V : List Bool}
set_option maxHeartbeats 1000000 in
set_option maxRecDepth 100000 in
theorem flush_any (h : Dsk w p bL bS bW L S V) :
    Calls Tryz.prog 78 #[.pointer (some ⟨p, 0, none⟩)] w fun e w' => e = .returned (.tuple #[]) ∧ DskS w' p bL bS bW (St.flush ⟨L, S, V⟩ V.length) ∧ Chg [bL, bS, bW] w w' := by
  have c2 := h.rec_.cell 2
  have hle := h.le
  go_enter Tryz.func78, Tryz.ntmps78
  go_wp2_with fail
  go_loopw [8] (fun i wr => ∃ k : Nat, k ≤ V.length ∧ i = .int .i64 (k : Int) ∧ DskS wr p bL bS bW (St.flush ⟨L, S, V⟩ k) ∧ Chg [bL, bS, bW] w wr) (fun i _ => V.length - (intOf i).toNat)
  case atStart => exact ⟨0, Nat.zero_le _, rfl, h, Chg.refl _ _⟩
  case round =>
    obtain ⟨k, hk, rfl, hdk, hck⟩ := hrel
    by_cases hlt : k < V.length
    · have hlt3 : k < (St.flush ⟨L, S, V⟩ k).V.length := by rw [flush_len]; exact hlt
      have HE := Lib.hid (show (St.flush ⟨L, S, V⟩ (k + 1)) = (St.flush ⟨L, S, V⟩ k).settle k 64 from rfl)
      obtain ⟨s2, hE2⟩ : ∃ s2, s2 = St.flush ⟨L, S, V⟩ (k + 1) := ⟨_, rfl⟩
      rw [← hE2] at HE
      have hE2 := Lib.hid hE2
      generalize St.flush ⟨L, S, V⟩ k = s0 at HE hdk hlt3
      go_wp2_with fail
      refine (settle_int hdk k hlt3 64 (by omega) (by omega)).mono ?_
      rintro e w2 ⟨rfl, hd2, hc2⟩
      have hd3 : DskS w2 p bL bS bW s2 := by rw [HE.out]; exact hd2
      clear hd2
      go_wp2_with fail
      go_roundw
      case rel => exact ⟨k + 1, by omega, by go_num, (hE2.out ▸ hd3), hck.trans hc2⟩
      case measure => simp [intOf]; omega
    · have hkl : k = V.length := by omega
      have hdl : DskS wr p bL bS bW (St.flush ⟨L, S, V⟩ V.length) := hkl ▸ hdk
      clear hkl
      go_wp2_with fail
      go_end0
      exact ⟨rfl, hdl, hck⟩
end
end Go.Proofs.YtddjgncdjdjgeaaGreat
namespace Go.Proofs.YtddjgncdjdjgeaaGreat

theorem splice_get3 {α : Type} (L : List α) (o : Nat) (m : List α) (h : o + m.length ≤ L.length) (i : Nat) :
    (splice L o m)[i]? = if i < o then L[i]? else if i < o + m.length then m[i - o]? else L[i]? := by
  unfold splice
  have ht : (L.take o).length = o := by rw [List.length_take]; omega
  by_cases h1 : i < o
  · rw [if_pos h1, List.getElem?_append_left (by omega), List.getElem?_take_of_lt h1]
  · rw [if_neg h1, List.getElem?_append_right (by omega), ht]
    by_cases h2 : i < o + m.length
    · rw [if_pos h2, List.getElem?_append_left (by omega)]
    · rw [if_neg h2, List.getElem?_append_right (by omega), List.getElem?_drop]
      congr 1
      omega
theorem cut_get {α : Type} (L : List α) (o n i : Nat) : ((L.drop o).take n)[i]? = if i < n then L[o + i]? else none := by
  rw [List.getElem?_take]
  split
  · rw [List.getElem?_drop]
  · rfl

section
variable {L S : List UInt8} {k cut n : Nat}
theorem setL_get (l1 : 64 * (k + 1) ≤ L.length) (s1 : 64 * (k + 1) ≤ S.length) (hc : cut ≤ 64) (i : Nat) :
    (setL L S k cut)[i]? = if k * 64 ≤ i ∧ i < k * 64 + cut then S[i]? else L[i]? := by
  unfold setL
  have e : ((S.drop (k * 64)).take cut).length = cut := by rw [List.length_take, List.length_drop]; omega
  rw [splice_get3 _ _ _ (by omega), e, cut_get]
  by_cases h1 : i < k * 64
  · rw [if_pos h1, if_neg (by omega)]
  · rw [if_neg h1]
    by_cases h2 : i < k * 64 + cut
    · rw [if_pos h2, if_pos (by omega), if_pos (by omega)]
      congr 1
      omega
    · rw [if_neg h2, if_neg (by omega)]
theorem setS_get (l1 : 64 * (k + 1) ≤ L.length) (s1 : 64 * (k + 1) ≤ S.length) (hc : cut ≤ 64) (i : Nat) :
    (setS L S k cut)[i]? = if k * 64 + cut ≤ i ∧ i < k * 64 + 64 then L[i]? else S[i]? := by
  unfold setS
  have e : ((L.drop (k * 64 + cut)).take (64 - cut)).length = 64 - cut := by rw [List.length_take, List.length_drop]; omega
  rw [splice_get3 _ _ _ (by omega), e, cut_get]
  by_cases h1 : i < k * 64 + cut
  · rw [if_pos h1, if_neg (by omega)]
  · rw [if_neg h1]
    by_cases h2 : i < k * 64 + cut + (64 - cut)
    · rw [if_pos h2, if_pos (by omega), if_pos (by omega)]
      congr 1
      omega
    · rw [if_neg h2, if_neg (by omega)]
end

/-- A state whose sizes are right, and whose sectors that do not wait are seen as they last. -/
structure Sane (s : St) (n : Nat) : Prop where
  lv : s.V.length = n
  ll : s.L.length = 64 * n
  ls : s.S.length = 64 * n
  eq : ∀ j, j < n → s.V[j]? = some false → ∀ i, i < 64 → s.L[j * 64 + i]? = s.S[j * 64 + i]?

theorem Sane.settle {s : St} {n k cut : Nat} (h : Sane s n) (hk : k < n) (hc : cut ≤ 64) : Sane (s.settle k cut) n := by
  have l1 : 64 * (k + 1) ≤ s.L.length := by rw [h.ll]; omega
  have s1 : 64 * (k + 1) ≤ s.S.length := by rw [h.ls]; omega
  refine ⟨by simp [St.settle, h.lv], by simp only [St.settle]; rw [setL_len l1 hc, h.ll], by simp only [St.settle]; rw [setS_len s1 hc, h.ls], fun j hj hv i hi => ?_⟩
  simp only [St.settle] at hv ⊢
  rw [setL_get l1 s1 hc, setS_get l1 s1 hc]
  by_cases hjk : j = k
  · subst hjk
    by_cases h1 : i < cut
    · rw [if_pos (by omega), if_neg (by omega)]
    · rw [if_neg (by omega), if_pos (by omega)]
  · rw [List.getElem?_set_ne (by omega)] at hv
    have hne : j < k ∨ k < j := by omega
    rcases hne with hlt | hlt
    · have : j * 64 + i < k * 64 := by omega
      rw [if_neg (by omega), if_neg (by omega)]
      exact h.eq j hj hv i hi
    · have : k * 64 + 64 ≤ j * 64 + i := by omega
      rw [if_neg (by omega), if_neg (by omega)]
      exact h.eq j hj hv i hi

theorem Sane.write {s : St} {n k : Nat} {x : List UInt8} (h : Sane s n) (hk : k < n) (hx : x.length = 64) : Sane ⟨s.L, splice s.S (k * 64) x, s.V.set k true⟩ n := by
  have s1 : k * 64 + x.length ≤ s.S.length := by rw [h.ls]; omega
  refine ⟨by simp [h.lv], h.ll, by show (splice s.S (k * 64) x).length = _; rw [length_splice _ _ _ s1, h.ls], fun j hj hv i hi => ?_⟩
  show s.L[_]? = (splice s.S (k * 64) x)[_]?
  have hjk : k ≠ j := by
    rintro rfl
    simp only [] at hv
    rw [List.getElem?_set_self (by rw [h.lv]; exact hk)] at hv
    cases hv
  simp only [] at hv
  rw [List.getElem?_set_ne hjk] at hv
  rw [splice_get3 _ _ _ s1, hx]
  have hne : j < k ∨ k < j := by omega
  rcases hne with hlt | hlt
  · rw [if_pos (by omega)]
    exact h.eq j hj hv i hi
  · rw [if_neg (by omega), if_neg (by omega)]
    exact h.eq j hj hv i hi

/-- Where nothing waits, what is seen lasts. -/
theorem Sane.same {s : St} {n : Nat} (h : Sane s n) (hv : ∀ j, j < n → s.V[j]? = some false) : s.L = s.S := by
  apply List.ext_getElem?
  intro i
  by_cases hi : i < 64 * n
  · have := h.eq (i / 64) (by omega) (hv _ (by omega)) (i % 64) (by omega)
    rwa [show i / 64 * 64 + i % 64 = i by omega] at this
  · rw [List.getElem?_eq_none (by rw [h.ll]; omega), List.getElem?_eq_none (by rw [h.ls]; omega)]

theorem Sane.crash {s : St} {n : Nat} (h : Sane s n) (ws : List Nat) (cuts : List Int) (hws : ∀ j (hj : j < ws.length), ws[j] < n) : ∀ i, i ≤ ws.length → Sane (s.crash ws cuts i) n
  | 0, _ => h
  | i + 1, hi => by
    have ih := Sane.crash h ws cuts hws i (by omega)
    have e : ws.getD i 0 = ws[i] := by rw [List.getD_eq_getElem?_getD, List.getElem?_eq_getElem (by omega)]; rfl
    show Sane ((s.crash ws cuts i).settle (ws.getD i 0) (cutAt cuts i)) n
    rw [e]
    exact ih.settle (hws i (by omega)) (cutAt_le _ _)
theorem crash_V {s : St} (ws : List Nat) (cuts : List Int) (j : Nat) : ∀ i, i ≤ ws.length → (s.crash ws cuts i).V[j]? = if j ∈ ws.take i then (s.V[j]?).map (fun _ => false) else s.V[j]?
  | 0, _ => by simp [St.crash]
  | i + 1, hi => by
    have ih := crash_V (s := s) ws cuts j i (by omega)
    have e : ws.getD i 0 = ws[i] := by rw [List.getD_eq_getElem?_getD, List.getElem?_eq_getElem (by omega)]; rfl
    show (((s.crash ws cuts i).V).set (ws.getD i 0) false)[j]? = _
    have hm : j ∈ ws.take (i + 1) ↔ j ∈ ws.take i ∨ j = ws[i] := by
      rw [List.take_succ_eq_append_getElem (by omega), List.mem_append, List.mem_singleton]
    rw [e, List.getElem?_set, ih, crash_len]
    by_cases h1 : ws[i] = j
    · rw [if_pos h1, if_pos (hm.2 (.inr h1.symm))]
      by_cases h2 : j < s.V.length
      · rw [if_pos (by rw [h1]; exact h2), List.getElem?_eq_getElem h2]; rfl
      · rw [if_neg (by rw [h1]; exact h2), List.getElem?_eq_none (by omega)]; rfl
    · rw [if_neg h1]
      by_cases h3 : j ∈ ws.take i
      · rw [if_pos h3, if_pos (hm.2 (.inl h3))]
      · rw [if_neg h3, if_neg (fun h => (hm.1 h).elim h3 (fun e => h1 e.symm))]
theorem wl_mem (V : List Bool) (n j : Nat) : j ∈ wl V n ↔ j < n ∧ V.getD j false = true := by
  unfold wl
  simp
theorem crash_quiet {s : St} {n : Nat} (h : Sane s n) (cuts : List Int) : Sane (s.crash (wl s.V s.V.length) cuts (wl s.V s.V.length).length) n ∧
    ∀ j, j < n → (s.crash (wl s.V s.V.length) cuts (wl s.V s.V.length).length).V[j]? = some false := by
  refine ⟨h.crash _ cuts (fun j hj => Nat.lt_of_lt_of_le (wl_lt s.V s.V.length j hj) (Nat.le_of_eq h.lv)) _ (Nat.le_refl _), fun j hj => ?_⟩
  rw [crash_V _ cuts j _ (Nat.le_refl _), List.take_length]
  have hjv : j < s.V.length := by rw [h.lv]; exact hj
  by_cases hm : j ∈ wl s.V s.V.length
  · rw [if_pos hm, List.getElem?_eq_getElem hjv]; rfl
  · rw [if_neg hm, List.getElem?_eq_getElem hjv]
    rw [wl_mem] at hm
    have : s.V.getD j false = s.V[j] := by rw [List.getD_eq_getElem?_getD, List.getElem?_eq_getElem hjv]; rfl
    rw [this] at hm
    have : s.V[j] = false := by
      cases hb : s.V[j]
      · rfl
      · exact absurd ⟨hjv, hb⟩ hm
    rw [this]
/-- Behind a crash all that is seen lasts, and nothing waits. -/
theorem crash_same {s : St} {n : Nat} (h : Sane s n) (cuts : List Int) :
    (s.crash (wl s.V s.V.length) cuts (wl s.V s.V.length).length).L = (s.crash (wl s.V s.V.length) cuts (wl s.V s.V.length).length).S ∧
    (s.crash (wl s.V s.V.length) cuts (wl s.V s.V.length).length).V = falses n := by
  obtain ⟨h1, h2⟩ := crash_quiet h cuts
  refine ⟨h1.same h2, ?_⟩
  apply List.ext_getElem?
  intro j
  by_cases hj : j < n
  · rw [h2 j hj]; simp [falses, hj]
  · rw [List.getElem?_eq_none (by rw [h1.lv]; omega), List.getElem?_eq_none (by simp [falses]; omega)]

/-- Behind a Flush what was seen lasts. -/
theorem flush_to {s : St} {n : Nat} (hv : s.V.length = n) (hl : s.L.length = 64 * n) (hs : s.S.length = 64 * n) : ∀ k, k ≤ n → (s.flush k) = ⟨s.S.take (k * 64) ++ s.L.drop (k * 64), s.S, falses k ++ s.V.drop k⟩
  | 0, _ => by simp [St.flush, falses]
  | k + 1, hk => by
    have ih := flush_to hv hl hs k (by omega)
    show (s.flush k).settle k 64 = _
    rw [ih]
    simp only [St.settle, St.mk.injEq]
    have hlen : (s.S.take (k * 64) ++ s.L.drop (k * 64)).length = 64 * n := by
      rw [List.length_append, List.length_take, List.length_drop]; omega
    refine ⟨?_, ?_, ?_⟩
    · apply List.ext_getElem?
      intro i
      rw [setL_get (by omega) (by omega) (Nat.le_refl _)]
      by_cases h1 : i < k * 64
      · rw [if_neg (by omega), List.getElem?_append_left (by rw [List.length_take]; omega), List.getElem?_append_left (by rw [List.length_take]; omega), List.getElem?_take_of_lt h1, List.getElem?_take_of_lt (by omega)]
      · by_cases h2 : i < k * 64 + 64
        · rw [if_pos (by omega), List.getElem?_append_left (by rw [List.length_take]; omega), List.getElem?_take_of_lt (by omega)]
        · rw [if_neg (by omega), List.getElem?_append_right (by rw [List.length_take]; omega), List.getElem?_append_right (by rw [List.length_take]; omega), List.length_take, List.length_take, List.getElem?_drop, List.getElem?_drop]
          congr 1
          omega
    · apply List.ext_getElem?
      intro i
      rw [setS_get (by omega) (by omega) (Nat.le_refl _), if_neg (by omega)]
    · apply List.ext_getElem?
      intro i
      have hf : (falses k).length = k := falses_len k
      have hf1 : (falses (k + 1)).length = k + 1 := falses_len (k + 1)
      rw [List.getElem?_set]
      by_cases h1 : k = i
      · subst h1
        rw [if_pos rfl, if_pos (by rw [List.length_append, hf, List.length_drop]; omega), List.getElem?_append_left (by omega)]
        simp [falses]
      · rw [if_neg h1]
        by_cases h2 : i < k
        · rw [List.getElem?_append_left (by omega), List.getElem?_append_left (by omega)]
          simp [falses, h2, show i < k + 1 by omega]
        · rw [List.getElem?_append_right (by omega), List.getElem?_append_right (by omega), hf, hf1, List.getElem?_drop, List.getElem?_drop]
          congr 1
          omega
theorem flush_all {s : St} {n : Nat} (hv : s.V.length = n) (hl : s.L.length = 64 * n) (hs : s.S.length = 64 * n) : s.flush s.V.length = ⟨s.S, s.S, falses n⟩ := by
  rw [hv, flush_to hv hl hs n (Nat.le_refl _), List.take_of_length_le (by omega), List.drop_of_length_le (by omega), List.drop_of_length_le (by omega)]
  simp

end Go.Proofs.YtddjgncdjdjgeaaGreat
namespace Go.Proofs.YtddjgncdjdjgeaaGreat
open Go.RowKit

/-- The lasting bytes behind the first i of the sectors ws. -/
def rcL (s : St) (ws : List Nat) (cuts : List Int) : Nat → List UInt8
  | 0 => s.L
  | i + 1 => splice (rcL s ws cuts i) (ws.getD i 0 * 64) ((s.S.drop (ws.getD i 0 * 64)).take (cutAt cuts i))
theorem rcL_len {s : St} {n : Nat} (hl : s.L.length = 64 * n) (hs : s.S.length = 64 * n) (ws : List Nat) (cuts : List Int) (hws : ∀ j (hj : j < ws.length), ws[j] < n) : ∀ i, i ≤ ws.length → (rcL s ws cuts i).length = 64 * n
  | 0, _ => hl
  | i + 1, hi => by
    have ih := rcL_len hl hs ws cuts hws i (by omega)
    have e : ws.getD i 0 = ws[i] := by rw [List.getD_eq_getElem?_getD, List.getElem?_eq_getElem (by omega)]; rfl
    have hlt := hws i (by omega)
    have hc := cutAt_le cuts i
    show (splice (rcL s ws cuts i) (ws.getD i 0 * 64) _).length = _
    rw [e, length_splice, ih]
    rw [List.length_take, List.length_drop]; omega

/-- A sector that has not been met is seen as it was. -/
theorem crash_far {s : St} {n : Nat} (h : Sane s n) (ws : List Nat) (cuts : List Int) (hws : ∀ j (hj : j < ws.length), ws[j] < n) (k : Nat) (hk : k < n) : ∀ i, i ≤ ws.length → k ∉ ws.take i → ∀ t, t < 64 → (s.crash ws cuts i).S[k * 64 + t]? = s.S[k * 64 + t]?
  | 0, _, _, _, _ => rfl
  | i + 1, hi, hn, t, ht => by
    have e : ws.getD i 0 = ws[i] := by rw [List.getD_eq_getElem?_getD, List.getElem?_eq_getElem (by omega)]; rfl
    have hm : k ∉ ws.take i ∧ k ≠ ws[i] := by
      rw [List.take_succ_eq_append_getElem (by omega), List.mem_append, List.mem_singleton] at hn
      exact ⟨fun h => hn (.inl h), fun h => hn (.inr h)⟩
    have ih := crash_far h ws cuts hws k hk i (by omega) hm.1 t ht
    have hsane := h.crash ws cuts hws i (by omega)
    have hlt := hws i (by omega)
    show (setS (s.crash ws cuts i).L (s.crash ws cuts i).S (ws.getD i 0) (cutAt cuts i))[k * 64 + t]? = _
    rw [e, setS_get (by rw [hsane.ll]; omega) (by rw [hsane.ls]; omega) (cutAt_le _ _), if_neg (by have := hm.2; omega), ih]

theorem rcL_eq {s : St} {n : Nat} (h : Sane s n) (ws : List Nat) (cuts : List Int) (hws : ∀ j (hj : j < ws.length), ws[j] < n) (hnd : ws.Pairwise (· < ·)) : ∀ i, i ≤ ws.length → rcL s ws cuts i = (s.crash ws cuts i).L
  | 0, _ => rfl
  | i + 1, hi => by
    have ih := rcL_eq h ws cuts hws hnd i (by omega)
    have e : ws.getD i 0 = ws[i] := by rw [List.getD_eq_getElem?_getD, List.getElem?_eq_getElem (by omega)]; rfl
    have hlt := hws i (by omega)
    have hc := cutAt_le cuts i
    have hnot : ws[i] ∉ ws.take i := by
      intro hm
      obtain ⟨j, hj, he⟩ := List.getElem_of_mem hm
      rw [List.getElem_take] at he
      have hji : j < i := by rw [List.length_take] at hj; omega
      have := List.pairwise_iff_getElem.1 hnd j i (by omega) (by omega) hji
      omega
    show splice (rcL s ws cuts i) (ws.getD i 0 * 64) ((s.S.drop (ws.getD i 0 * 64)).take (cutAt cuts i)) = setL (s.crash ws cuts i).L (s.crash ws cuts i).S (ws.getD i 0) (cutAt cuts i)
    rw [e, ih]
    unfold setL
    congr 1
    apply List.ext_getElem?
    intro t
    rw [cut_get, cut_get]
    by_cases ht : t < cutAt cuts i
    · rw [if_pos ht, if_pos ht]
      exact (crash_far h ws cuts hws ws[i] hlt i (by omega) hnot t (by omega)).symm
    · rw [if_neg ht, if_neg ht]
theorem wl_rises (V : List Bool) (n : Nat) : (wl V n).Pairwise (· < ·) := List.Pairwise.filter _ List.pairwise_lt_range

section
variable {w w' : World} {p gL gN gW : Nat} {rL rN : List Value} {m : Int} {s : St}
set_option maxHeartbeats 3000000 in
set_option maxRecDepth 100000 in
theorem rcrash_any (h : Rfd w p gL gN gW rL rN m s) {A : Option Addr} {n c : Nat} {cuts : List Int} (hl : cuts.length = n) (hs : Src w A (nms cuts)) (hp : 0 < cuts.length → ∀ ad, A = some ad → ad.spot = none) (hA : 0 < cuts.length → ∀ ad, A = some ad → ad.block ∉ [p, gL, gN]) :
    Calls Tryz.prog 14 #[.pointer (some ⟨p, 0, none⟩), .slice A n c] w fun e w' => ∃ gW', e = .returned (.int .i64 ((wl s.V s.V.length).length : Int)) ∧
      Rfd w' p gL gN gW' rL rN m ⟨rcL s (wl s.V s.V.length) cuts (wl s.V s.V.length).length, rcL s (wl s.V s.V.length) cuts (wl s.V s.V.length).length, falses s.V.length⟩ ∧ w.heap.size ≤ gW' ∧ Chg [p, gL, gN] w w' := by
  have hmk := make_bool s.V.length (by have := h.le; omega)
  obtain ⟨ws, hws⟩ : ∃ ws, ws = wl s.V s.V.length := ⟨_, rfl⟩
  have hlen : ws.length ≤ 160 := by have := wl_le s.V s.V.length; have := h.le; rw [hws]; omega
  have hlt : ∀ i (hi : i < ws.length), ws[i] < s.V.length := by subst hws; exact fun i hi => wl_lt s.V s.V.length i hi
  have hb : gL < w.heap.size ∧ gN < w.heap.size ∧ gW < w.heap.size ∧ p < w.heap.size := ⟨h.last.lt, h.now.lt, h.wait.lt, h.rec_.lt⟩
  have HW := Lib.hid (rwaits_any h)
  rw [← hws] at HW
  rw [← hws]
  have HL := Lib.hid hl
  have Hlt := Lib.hid hlt
  have HcL := Lib.hid (rcL_len h.lenL h.lenS ws cuts hlt)
  have hLS : s.L.length = s.S.length := by rw [h.lenL, h.lenS]
  have HLS := Lib.hid hLS
  have HlL := Lib.hid h.lenL
  clear hws hl hlt hLS
  go_enter Tryz.func14, Tryz.ntmps14
  go_wp2_with (go_at_call 44; refine (HW.out).mono ?_; rintro e w1 ⟨A1, c1, rfl, hs1, hA1, hc1⟩)
  have h1 := h.keep hc1
  have hs2 : Src w1 A (nms cuts) := hs.keep hc1
  have hA1' : ∀ ad, A1 = some ad → ad.block ∉ [gL] := fun ad e => by
    have := (hA1 ad e).2
    simp
    omega
  have HA := Lib.hid (show 0 < (nms cuts).length → ∀ ad, A = some ad → ad.block ∉ [gL] from fun h0 ad e => by
    have := hA (by simpa [nms] using h0) ad e
    simp at this ⊢
    exact this.2.1)
  have HA1 := Lib.hid hA1'
  have Hp := Lib.hid hp
  have Hp1 := Lib.hid hA1
  have m1 := Lib.hid (show p ∉ [gL] by simpa using h.rec_.ne_ h.last (by decide))
  have m2 := Lib.hid (show gN ∉ [gL] by simpa using fun e => h.ne e.symm)
  have z1 := hc1.size
  clear hA hA1 hA1' hp
  go_loopw [13] (fun i wr => ∃ k : Nat, k ≤ ws.length ∧ i = .int .i64 (k : Int) ∧ Whole wr gL 5 (bts (rcL s ws cuts k) ++ rL) ∧ Chg [gL] w1 wr) (fun i _ => ws.length - (intOf i).toNat)
  case atStart => exact ⟨0, Nat.zero_le _, rfl, h1.last, Chg.refl _ _⟩
  case round =>
    obtain ⟨k, hk, rfl, hLk, hck⟩ := hrel
    have Rk := h1.rec_.chg hck m1.out
    have Nk := h1.now.chg hck m2.out
    have c0 : wr.cell? ⟨p, 0, none⟩ = some (.slice (some ⟨gL, 0, none⟩) s.L.length (s.L.length + rL.length)) := Rk.cell 0
    have c1' : wr.cell? ⟨p, 1, none⟩ = some (.slice (some ⟨gN, 0, none⟩) s.S.length (s.S.length + rN.length)) := Rk.cell 1
    by_cases hkl : k < ws.length
    · have hs3 := hs1.chg hck (fun _ => HA1.out)
      obtain ⟨ad, rfl, _, hx⟩ := hs3 (by rw [nmsN_len]; omega)
      have hx1 := hx k _ (nmsN_get ws k hkl)
      clear hx
      obtain ⟨b1, o1, s1⟩ := ad
      obtain rfl : s1 = none := (Hp1.out _ rfl).1
      rw [add_plain] at hx1
      have hlt2 := Hlt.out k hkl
      have HE := Lib.hid (show rcL s ws cuts (k + 1) = splice (rcL s ws cuts k) (ws[k] * 64) ((s.S.drop (ws[k] * 64)).take (cutAt cuts k)) by
        show splice (rcL s ws cuts k) (ws.getD k 0 * 64) ((s.S.drop (ws.getD k 0 * 64)).take (cutAt cuts k)) = _
        rw [List.getD_eq_getElem?_getD, List.getElem?_eq_getElem hkl]; rfl)
      have HlK := Lib.hid (HcL.out k hk)
      obtain ⟨X2, hX2⟩ : ∃ X2, X2 = rcL s ws cuts (k + 1) := ⟨_, rfl⟩
      rw [← hX2] at HE
      have hX2 := Lib.hid hX2
      generalize rcL s ws cuts k = X0 at HE HlK hLk
      generalize ws[k] = q at hx1 hlt2 HE
      have hcc := cutAt_le cuts k
      have q1 : q * 64 + 64 ≤ s.L.length := by have := HlL.out; omega
      have q2 : q * 64 + 64 ≤ s.S.length := by have := HlL.out; have := HLS.out; omega
      have q3 : q ≤ 160 := by have := h.le; omega
      obtain ⟨cN, hcN⟩ : ∃ cN, cN = cutAt cuts k := ⟨_, rfl⟩
      rw [← hcN] at HE hcc
      have HCN := Lib.hid hcN
      clear hcN
      go_upto_if 21 with fail
      go_cut [8] (fun s8 wx => s8 = .int .i64 (cN : Int) ∧ wr = wx)
      case first =>
        by_cases hkc : k < cuts.length
        · have hs4 := hs2.chg hck HA.out
          obtain ⟨ad2, rfl, _, hy⟩ := hs4 (by simp [nms]; omega)
          have hy1 := hy k (.int .i64 cuts[k]) (by simp [nms, hkc])
          clear hy
          obtain ⟨b2, o2, s2'⟩ := ad2
          obtain rfl : s2' = none := Hp.out (by omega) _ rfl
          rw [add_plain] at hy1
          have hz : max (min cuts[k] 64) 0 = (cN : Int) := by rw [HCN.out]; unfold cutAt; rw [dif_pos hkc]; omega
          generalize cuts[k] = z at hy1 hz
          have hkn : k < n := by have := HL.out; omega
          clear hkc
          go_wp2_with fail
          go_meet
          exact ⟨rfl, rfl⟩
        · have hz := Lib.hid (show (cN : Int) = 0 by rw [HCN.out]; unfold cutAt; rw [dif_neg hkc]; rfl)
          have hkn : n ≤ k := by have := HL.out; omega
          clear hkc
          go_wp2_with fail
          go_meet
          exact ⟨by rw [hz.out], rfl⟩
      case rest =>
        obtain ⟨rfl, rfl⟩ := hcut
        have g1 : q * 64 + cN ≤ s.L.length + rL.length := by omega
        have g2 : q * 64 ≤ s.S.length := by omega
        have g3 : ¬ (s.L.length + rL.length = q * 64) := by omega
        have g4 : ¬ (s.S.length + rN.length = q * 64) := by omega
        have Hn := Lib.hid (show (bts ((s.S.drop (q * 64)).take cN)).length = Nat.min (s.S.length - q * 64) cN by
          rw [bts_len, List.length_take, List.length_drop, show Nat.min (s.S.length - q * 64) cN = min (s.S.length - q * 64) cN from rfl]; omega)
        have hfit : q * 64 + (bts ((s.S.drop (q * 64)).take cN)).length ≤ (bts X0 ++ rL).length := by
          have := HlK.out; have := HlL.out
          rw [List.length_append, bts_len, bts_len, List.length_take, List.length_drop]; omega
        have hsr : Src wr (some ⟨gN, q * 64, none⟩) (bts ((s.S.drop (q * 64)).take cN)) := by
          have := Src.of_whole Nk (q * 64) cN
          rwa [List.drop_append_of_le_length (by rw [bts_len]; omega), List.take_append_of_le_length (by rw [List.length_drop, bts_len]; omega), bts_cut] at this
        have bb := bts_one ((s.S.drop (q * 64)).take cN)
        have HX := Lib.hid (show splice (bts X0 ++ rL) (q * 64) (bts ((s.S.drop (q * 64)).take cN)) = bts X2 ++ rL by
          rw [HE.out, ← bts_splice, splice_app]
          have := HlK.out; have := HlL.out
          rw [bts_len, bts_len, List.length_take, List.length_drop]; omega)
        generalize bts ((s.S.drop (q * 64)).take cN) = Y at Hn hfit hsr bb HX
        have w0 : (0 : Int) ≤ (q : Int) * 64 := by omega
        have w5 : (0 : Int) ≤ (q : Int) * 64 + (cN : Int) := by omega
        have w6 : (q : Int) * 64 + (cN : Int) ≤ (s.L.length : Int) + (rL.length : Int) := by omega
        have w7 : (q : Int) * 64 ≤ (q : Int) * 64 + (cN : Int) := by omega
        have w8 : (q : Int) * 64 ≤ (s.S.length : Int) := by omega
        have wq1 : IntKind.i64.wrap ((q : Int) * 64) = (q : Int) * 64 := IntWalk.i64_in _ (by omega)
        have wq2 : IntKind.i64.wrap ((q : Int) * 64 + (cN : Int)) = (q : Int) * 64 + (cN : Int) := IntWalk.i64_in _ (by omega)
        have wq3 : ((q : Int) * 64).toNat = q * 64 := by omega
        have wq4 : ((q : Int) * 64 + (cN : Int)).toNat = q * 64 + cN := by omega
        have wq5 : max ((q : Int) * 64 + (cN : Int)) 0 = (q : Int) * 64 + (cN : Int) := by omega
        go_wp2_with fail
        go_region_law (with_reducible refine step_copy_chg rfl (.tmp 38) (.tmp 45) _ _ rfl 5 Tryz.underlying30 size_u8 (some ⟨gL, q * 64, none⟩) (some ⟨gN, q * 64, none⟩) cN (s.L.length + rL.length - q * 64) (s.S.length - q * 64) (s.S.length + rN.length - q * 64) rfl rfl gL (q * 64) 5 (bts X0 ++ rL) Y hLk.drew Hn.out (fun _ => rfl) hsr.drew hfit bb ?_; intro w2 HG HC)
        all_goals
          clear wq1 wq2 wq3 wq4 wq5
          rw [HX.out] at HG
          go_wp2_with fail
          go_roundw
          case rel => exact ⟨k + 1, by omega, by go_num, (hX2.out ▸ HG), hck.drew.trans HC⟩
          case measure => simp [intOf]; omega
    · have hkl2 : k = ws.length := by omega
      have hLe : Whole wr gL 5 (bts (rcL s ws cuts ws.length) ++ rL) := hkl2 ▸ hLk
      have HlX := Lib.hid (HcL.out ws.length (Nat.le_refl _))
      clear hkl2 hLk
      obtain ⟨X, hXe⟩ : ∃ X, X = rcL s ws cuts ws.length := ⟨_, rfl⟩
      rw [← hXe] at hLe HlX
      have HXe := Lib.hid hXe
      clear hXe
      have Hn := Lib.hid (show (bts X).length = Nat.min s.L.length s.S.length by
        rw [bts_len, HlX.out, HlL.out, ← HLS.out, HlL.out]; exact (Nat.min_self _).symm)
      have hfit : 0 + (bts X).length ≤ (bts s.S ++ rN).length := by
        have a1 := HlX.out; have a2 := HlL.out; have a3 := HLS.out
        rw [List.length_append, bts_len, bts_len]; omega
      have HX := Lib.hid (show splice (bts s.S ++ rN) 0 (bts X) = bts X ++ rN by
        have a1 := HlX.out; have a2 := HlL.out; have a3 := HLS.out
        rw [splice_app _ _ _ _ (by rw [bts_len, bts_len]; omega), bts_splice, splice_all _ _ (by omega)])
      have hsr : Src wr (some ⟨gL, 0, none⟩) (bts X) := by
        have := Src.of_whole hLe 0 X.length
        rwa [List.drop_zero, List.take_append_of_le_length (by rw [bts_len]; omega), List.take_of_length_le (by rw [bts_len]; omega)] at this
      have bb := bts_one X
      have n1 := Lib.hid (show p ∉ [gN] by simpa using h.rec_.ne_ h.now (by decide))
      have n2 := Lib.hid (show gL ∉ [gN] by simpa using h.ne)
      obtain ⟨Y, hY⟩ : ∃ Y, Y = bts X := ⟨_, rfl⟩
      have HY := Lib.hid hY
      rw [← hY] at Hn hfit HX hsr bb
      clear hY
      go_wp2_with fail
      go_region_law (with_reducible refine step_copy_chg rfl (.tmp 51) (.tmp 55) _ _ rfl 5 Tryz.underlying30 size_u8 (some ⟨gN, 0, none⟩) (some ⟨gL, 0, none⟩) s.S.length (s.S.length + rN.length) s.L.length (s.L.length + rL.length) rfl rfl gN 0 5 (bts s.S ++ rN) Y Nk.drew Hn.out (fun _ => rfl) hsr.drew hfit bb ?_; intro w2 HG HC)
      all_goals
        have R2 := Rk.drew.chg HC n1.out
        have L2 := hLe.drew.chg HC n2.out
        clear c0 c1'
        have c2 : w2.cell? ⟨p, 2, none⟩ = some (.slice (some ⟨gW, 0, none⟩) s.V.length s.V.length) := R2.cell 2
        have c2' : ∀ o, (w2.alloc o).cell? ⟨p, 2, none⟩ = some (.slice (some ⟨gW, 0, none⟩) s.V.length s.V.length) := fun o => (R2.keep ((Chg.refl [] w2).alloc o)).cell 2
        have f2' := fun o => (R2.keep ((Chg.refl [] w2).alloc o)).frozen 2
        rw [HX.out, HY.out] at HG
        go_wp2_with fail
        go_ret
        have hal : ∀ o, Chg [] w2 (w2.alloc o) := fun o => (Chg.refl [] w2).alloc o
        have z2 := HC.size
        have z3 : wr.drew.heap.size = wr.heap.size := rfl
        have z4 := hck.size
        have lp := R2.lt
        have lX : X.length = s.L.length := by rw [HlX.out, HlL.out]
        have lX2 : X.length = s.S.length := by rw [lX, HLS.out]
        rw [← HXe.out]
        refine ⟨w2.heap.size, rfl, ⟨?_, (L2.keep (hal _)).far (p := ⟨p, 2, none⟩) (L2.ne_ R2 (by decide)) _, (HG.keep (hal _)).far (p := ⟨p, 2, none⟩) (HG.ne_ R2 (by decide)) _, (Whole.new w2 _ _).far (p := ⟨p, 2, none⟩) (show w2.heap.size ≠ p by omega) _, by simp only [falses_len]; exact HlX.out, by simp only [falses_len]; exact HlX.out, by simp only [falses_len]; exact h.le, h.ne⟩, by omega, ?_⟩
        · have := (R2.keep (hal (.cells (bls (falses s.V.length)).toArray 4))).set_ 2 (.slice (some ⟨w2.heap.size, 0, none⟩) s.V.length s.V.length)
          simp only [falses_len]
          rw [← lX2] at this
          rw [← show X.length = s.L.length from lX] at this
          exact this
        · have a1 : Chg [p, gL, gN] w wr := (hc1.sub (by simp)).trans (hck.sub (by simp))
          have a2 : Chg [p, gL, gN] w w2 := a1.drew.trans (HC.sub (by simp))
          exact (a2.alloc _).setCell (by simp) _
end
end Go.Proofs.YtddjgncdjdjgeaaGreat
