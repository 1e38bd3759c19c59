/-
  K: SettleAll, Crash, Flush, Write, New, Known.
-/
import Derived.Test.YtddjgncdjdjgeaaZK3
import Derived.Test.YtddjgncdjdjgeaaZK4
import Derived.Test.YtddjgncdjdjgeaaZK11
namespace Go.Proofs.Ytddjgncdjdjgeaa
open Go.RowKit
section
variable {w : World} {p bL bS bW : Nat} {L S : List UInt8} {V : List Bool}
set_option maxHeartbeats 3000000 in
set_option maxRecDepth 100000 in
theorem settle_64 (h : Dsk w p bL bS bW L S V) (k : Nat) (hk : k < V.length) :
    Calls Try.prog 48 #[.pointer (some ⟨p, 0, none⟩), .int .i64 (k : Int), .int .i64 64] w fun e w' => e = .returned (.tuple #[]) ∧
      Dsk w' p bL bS bW (setL L S k 64) (setS L S k 64) (V.set k false) ∧ Chg [bL, bS, bW] w w' := by
  have c0 := h.rec_.cell 0
  have c1 := h.rec_.cell 1
  have c2 := h.rec_.cell 2
  have hL := h.lenL
  have hS := h.lenS
  have hv := h.le
  have hc : (64 : Nat) ≤ 64 := Nat.le_refl _
  have l1 : 64 * (k + 1) ≤ L.length := by omega
  have l2 : L.length ≤ 1000000 := by omega
  have s1 : 64 * (k + 1) ≤ S.length := by omega
  have s2 : S.length ≤ 1000000 := by omega
  have hLS := Lib.hid (show L.length = S.length by omega)
  clear hL hS
  have n1 := Lib.hid (show bS ∉ [bL] by simpa using fun e => h.ne e.symm)
  have n2 := Lib.hid (show p ∉ [bL] by simpa using h.rec_.ne_ h.last (by decide))
  have n3 := Lib.hid (show bW ∉ [bL] by simpa using h.wait.ne_ h.last (by decide))
  have m1 := Lib.hid (show bL ∉ [bS] by simpa using h.ne)
  have m2 := Lib.hid (show p ∉ [bS] by simpa using h.rec_.ne_ h.seen (by decide))
  have m3 := Lib.hid (show bW ∉ [bS] by simpa using h.wait.ne_ h.seen (by decide))
  have e1 : (64 : Int) ≤ ((L.length - k * 64 : Nat) : Int) := by omega
  have e2 : (64 : Int) ≤ ((S.length - k * 64 : Nat) : Int) := by omega
  have hn0 := part_n s1 hc
  have hf0 := part_fit (S := S) l1 hc
  have hs0 := part_src (o := k * 64) (cut := 64) h.seen
  have hsp := Lib.hid (bts_splice L ((S.drop (k * 64)).take 64) (k * 64))
  have hb1 := bts_one ((S.drop (k * 64)).take 64)
  obtain ⟨Y, hY⟩ : ∃ Y, Y = bts ((S.drop (k * 64)).take 64) := ⟨_, rfl⟩
  rw [← hY] at hn0 hf0 hs0 hsp hb1
  have Hn := Lib.hid hn0
  clear hn0 hY
  go_enter Try.func48, Try.ntmps48
  go_wp2_with fail
  go_quiet ((go_at_call 80; exact Calls.quiet_of_same ((dsector_any k (by assumption) (Nat.le_refl _) (by assumption)).mono fun _ _ hh => ⟨hh.1, hh.2.symm⟩)))
  go_wp2_with fail
  go_region_law (with_reducible refine step_copy_chg rfl (.tmp 22) (.tmp 25) _ _ rfl 5 Try.underlying44 size_u8 (some ⟨bL, k * 64, none⟩) (some ⟨bS, k * 64, none⟩) 64 (L.length - k * 64) 64 (S.length - k * 64) rfl rfl bL (k * 64) 5 (bts L) Y ((h.last.drewN _).drew) Hn.out (fun _ => rfl) (Src.drew (Src.drewN hs0 _)) hf0 hb1 ?_; intro w2 HG HC)
  have S2 : Whole w2 bS 5 (bts S) := (h.seen.drewN _).drew.chg HC n1.out
  have R2 := (h.rec_.drewN _).drew.chg HC n2.out
  have V2 := (h.wait.drewN _).drew.chg HC n3.out
  clear c0 c1 c2
  have c2 := R2.cell 2
  rw [hsp.out] at HG
  have HL2 : Whole w2 bL 5 (bts (setL L S k 64)) := HG
  clear HG
  have c4 := (V2.cell k).trans (bls_get V k hk)
  have c5 := V2.frozen k
  by_cases hlast : S.length - k * 64 = 64
  · have hlast2 : L.length - k * 64 = 64 := by have := hLS.out; omega
    go_wp2_with fail
    go_region_law (with_reducible refine step_copy_none rfl (.tmp 29) (.tmp 32) _ _ rfl 5 Try.underlying44 size_u8 _ _ 0 _ 0 _ rfl rfl rfl ?_)
    go_wp2_with fail
    go_end0
    exact settle_end h hk hc HC (Chg.refl _ _) R2.drew HL2.drew V2.drew (by simpa [splice, bts] using S2.drew)
  · have hlast2 : ¬ (L.length - k * 64 = 64) := by have := hLS.out; omega
    go_wp2_with fail
    go_region_law (with_reducible refine step_copy_none rfl (.tmp 29) (.tmp 32) _ _ rfl 5 Try.underlying44 size_u8 _ _ 0 _ 0 _ rfl rfl rfl ?_)
    go_wp2_with fail
    go_end0
    exact settle_end h hk hc HC (Chg.refl _ _) R2.drew HL2.drew V2.drew (by simpa [splice, bts] using S2.drew)
end
end Go.Proofs.Ytddjgncdjdjgeaa
namespace Go.Proofs.Ytddjgncdjdjgeaa
open Go.RowKit

/-- The i-th cut, held between 0 and 64; 0 where there is none. -/
def cutAt (cuts : List Int) (i : Nat) : Nat := if h : i < cuts.length then (min (max cuts[i] 0) 64).toNat else 0
theorem cutAt_le (cuts : List Int) (i : Nat) : cutAt cuts i ≤ 64 := by unfold cutAt; split <;> omega

def St.settle (s : St) (k cut : Nat) : St := ⟨setL s.L s.S k cut, setS s.L s.S k cut, s.V.set k false⟩
/-- Behind the first i of the sectors ws. -/
def St.crash (s : St) (ws : List Nat) (cuts : List Int) : Nat → St
  | 0 => s
  | i + 1 => (St.crash s ws cuts i).settle (ws.getD i 0) (cutAt cuts i)
theorem crash_len (s : St) (ws : List Nat) (cuts : List Int) (i : Nat) : (s.crash ws cuts i).V.length = s.V.length := by
  induction i with
  | zero => rfl
  | succ i ih => simp [St.crash, St.settle, ih]
theorem wl_lt (V : List Bool) (k i : Nat) (h : i < (wl V k).length) : (wl V k)[i] < k := by
  have := List.getElem_mem h
  unfold wl at this
  exact List.mem_range.1 (List.mem_filter.1 this).1

section
variable {w : World} {p bL bS bW : Nat} {L S : List UInt8} {V : List Bool}
theorem settle_int (h : Dsk w p bL bS bW L S V) (k : Nat) (hk : k < V.length) (c : Int) (h0 : 0 ≤ c) (h1 : c ≤ 64) :
    Calls Try.prog 48 #[.pointer (some ⟨p, 0, none⟩), .int .i64 (k : Int), .int .i64 c] w fun e w' => e = .returned (.tuple #[]) ∧
      Dsk w' p bL bS bW (setL L S k c.toNat) (setS L S k c.toNat) (V.set k false) ∧ Chg [bL, bS, bW] w w' := by
  obtain ⟨n, rfl⟩ := Int.eq_ofNat_of_zero_le h0
  rw [Int.toNat_natCast]
  by_cases hn : n < 64
  · exact settle_lt h k n hk hn
  · obtain rfl : n = 64 := by omega
    rw [show ((64 : Nat) : Int) = 64 from rfl]
    exact settle_64 h k hk

set_option maxHeartbeats 1000000 in
set_option maxRecDepth 100000 in
theorem crash_any (h : Dsk w p bL bS bW L S V) {A : Option Addr} {n c : Nat} {cuts : List Int} (hl : cuts.length = n) (hs : Src w A (nms cuts)) (hp : 0 < cuts.length → ∀ ad, A = some ad → ad.spot = none) (hA : 0 < cuts.length → ∀ ad, A = some ad → ad.block ∉ [bL, bS, bW]) (hn : n ≤ 9223372036854775807) :
    Calls Try.prog 19 #[.pointer (some ⟨p, 0, none⟩), .slice A n c] w fun e w' => e = .returned (.int .i64 ((wl V V.length).length : Int)) ∧
      DskS w' p bL bS bW (St.crash ⟨L, S, V⟩ (wl V V.length) cuts (wl V V.length).length) ∧ Chg [bL, bS, bW] w w' := by
  obtain ⟨ws, hws⟩ : ∃ ws, ws = wl V V.length := ⟨_, rfl⟩
  have hlen : ws.length ≤ 160 := by have := wl_le V V.length; have := h.le; rw [hws]; omega
  have hlt : ∀ i (hi : i < ws.length), ws[i] < V.length := by subst hws; exact fun i hi => wl_lt V V.length i hi
  have hb : bL < w.heap.size ∧ bS < w.heap.size ∧ bW < w.heap.size := ⟨h.last.lt, h.seen.lt, h.wait.lt⟩
  have HW := Lib.hid (waits_any h)
  rw [← hws] at HW
  rw [← hws]
  have HL := Lib.hid hl
  have Hlt := Lib.hid hlt
  clear hws hl hlt
  go_enter Try.func19, Try.ntmps19
  go_wp2_with (go_at_call 47; refine (HW.out).mono ?_; rintro e w1 ⟨v, rfl, hown, hc1⟩; obtain ⟨A1, c1, rfl, hs1, hl1, hA1⟩ := own_form hown; clear hown hl1)
  have hd1 : Dsk w1 p bL bS bW L S V := h.keep hc1
  have hs2 : Src w1 A (nms cuts) := hs.keep hc1
  have hA1' : ∀ ad, A1 = some ad → ad.block ∉ [bL, bS, bW] := fun ad e => by
    have := (hA1 ad e).2
    simp
    omega
  have HA := Lib.hid (show 0 < (nms cuts).length → ∀ ad, A = some ad → ad.block ∉ [bL, bS, bW] from fun h => hA (by simpa [nms] using h))
  have HA1 := Lib.hid hA1'
  have Hp := Lib.hid hp
  have Hp1 := Lib.hid hA1
  clear hA hA1 hA1' hp
  go_loopw [13] (fun i wr => ∃ k : Nat, k ≤ ws.length ∧ i = .int .i64 (k : Int) ∧ DskS wr p bL bS bW (St.crash ⟨L, S, V⟩ ws cuts k) ∧ Chg [bL, bS, bW] w1 wr) (fun i _ => ws.length - (intOf i).toNat)
  case atStart => exact ⟨0, Nat.zero_le _, rfl, hd1, Chg.refl _ _⟩
  case round =>
    obtain ⟨k, hk, rfl, hdk, hck⟩ := hrel
    by_cases hlt : k < ws.length
    · have hs3 := hs1.chg hck (fun _ => HA1.out)
      obtain ⟨ad, rfl, _, hx⟩ := hs3 (by rw [nmsN_len]; omega)
      have hx1 := hx k _ (nmsN_get ws k hlt)
      clear hx
      obtain ⟨b1, o1, s1⟩ := ad
      obtain rfl : s1 = none := (Hp1.out _ rfl).1
      rw [add_plain] at hx1
      have hlt2 := Hlt.out k hlt
      have hlt3 : ws[k] < (St.crash ⟨L, S, V⟩ ws cuts k).V.length := by rw [crash_len]; exact hlt2
      have HE := Lib.hid (show (St.crash ⟨L, S, V⟩ ws cuts (k + 1)) = (St.crash ⟨L, S, V⟩ ws cuts k).settle ws[k] (cutAt cuts k) by
        show (St.crash ⟨L, S, V⟩ ws cuts k).settle (ws.getD k 0) (cutAt cuts k) = _
        rw [List.getD_eq_getElem?_getD, List.getElem?_eq_getElem hlt]; rfl)
      obtain ⟨s2, hE2⟩ : ∃ s2, s2 = St.crash ⟨L, S, V⟩ ws cuts (k + 1) := ⟨_, rfl⟩
      rw [← hE2] at HE
      have hE2 := Lib.hid hE2
      generalize St.crash ⟨L, S, V⟩ ws cuts k = s0 at HE hdk hlt3
      generalize hwk : ws[k] = q at hx1 hlt2 hlt3 HE
      clear hwk
      by_cases hkc : k < cuts.length
      · have hs4 := hs2.chg hck HA.out
        obtain ⟨ad2, rfl, _, hy⟩ := hs4 (by simp [nms]; omega)
        have hy1 := hy k (.int .i64 cuts[k]) (by simp [nms, hkc])
        clear hy
        obtain ⟨b2, o2, s2'⟩ := ad2
        obtain rfl : s2' = none := Hp.out (by omega) _ rfl
        rw [add_plain] at hy1
        have HC := Lib.hid (show cutAt cuts k = (min (max cuts[k] 0) 64).toNat by unfold cutAt; rw [dif_pos hkc])
        generalize cuts[k] = z at hy1 HC
        have hkn : k < n := by have := HL.out; omega
        clear hkc
        go_wp2_with fail
        refine (settle_int hdk q hlt3 (min (max z 0) 64) (by omega) (by omega)).mono ?_
        rintro e w2 ⟨rfl, hd2, hc2⟩
        rw [← HC.out] at hd2
        have hd3 : DskS w2 p bL bS bW s2 := by rw [HE.out]; exact hd2
        clear hd2
        go_wp2_with fail
        go_roundw
        case rel => exact ⟨k + 1, by omega, by go_num, (hE2.out ▸ hd3), hck.trans hc2⟩
        case measure => simp [intOf]; omega
      · have HC := Lib.hid (show cutAt cuts k = (0 : Int).toNat by unfold cutAt; rw [dif_neg hkc]; rfl)
        have hkn : n ≤ k := by have := HL.out; omega
        clear hkc
        go_wp2_with fail
        refine (settle_int hdk q hlt3 0 (by omega) (by omega)).mono ?_
        rintro e w2 ⟨rfl, hd2, hc2⟩
        rw [← HC.out] at hd2
        have hd3 : DskS w2 p bL bS bW s2 := by rw [HE.out]; exact hd2
        clear hd2
        go_wp2_with fail
        go_roundw
        case rel => exact ⟨k + 1, by omega, by go_num, (hE2.out ▸ hd3), hck.trans hc2⟩
        case measure => simp [intOf]; omega
    · have hkl : k = ws.length := by omega
      have hdl : DskS wr p bL bS bW (St.crash ⟨L, S, V⟩ ws cuts ws.length) := hkl ▸ hdk
      clear hkl
      go_wp2_with fail
      go_ret
      exact ⟨rfl, hdl, (hc1.sub (by simp)).trans hck⟩
end
end Go.Proofs.Ytddjgncdjdjgeaa
namespace Go.Proofs.Ytddjgncdjdjgeaa
open Go.RowKit

/-- Behind the first i sectors. -/
def St.flush (s : St) : Nat → St
  | 0 => s
  | i + 1 => (St.flush s i).settle i 64
theorem flush_len (s : St) (i : Nat) : (s.flush i).V.length = s.V.length := by
  induction i with
  | zero => rfl
  | succ i ih => simp [St.flush, St.settle, ih]

section
variable {w : World} {p bL bS bW : Nat} {L S : List UInt8} {V : List Bool}
set_option maxHeartbeats 1000000 in
set_option maxRecDepth 100000 in
theorem flush_any (h : Dsk w p bL bS bW L S V) :
    Calls Try.prog 37 #[.pointer (some ⟨p, 0, none⟩)] w fun e w' => e = .returned (.tuple #[]) ∧ DskS w' p bL bS bW (St.flush ⟨L, S, V⟩ V.length) ∧ Chg [bL, bS, bW] w w' := by
  have c2 := h.rec_.cell 2
  have hle := h.le
  go_enter Try.func37, Try.ntmps37
  go_wp2_with fail
  go_loopw [8] (fun i wr => ∃ k : Nat, k ≤ V.length ∧ i = .int .i64 (k : Int) ∧ DskS wr p bL bS bW (St.flush ⟨L, S, V⟩ k) ∧ Chg [bL, bS, bW] w wr) (fun i _ => V.length - (intOf i).toNat)
  case atStart => exact ⟨0, Nat.zero_le _, rfl, h, Chg.refl _ _⟩
  case round =>
    obtain ⟨k, hk, rfl, hdk, hck⟩ := hrel
    by_cases hlt : k < V.length
    · have hlt3 : k < (St.flush ⟨L, S, V⟩ k).V.length := by rw [flush_len]; exact hlt
      have HE := Lib.hid (show (St.flush ⟨L, S, V⟩ (k + 1)) = (St.flush ⟨L, S, V⟩ k).settle k 64 from rfl)
      obtain ⟨s2, hE2⟩ : ∃ s2, s2 = St.flush ⟨L, S, V⟩ (k + 1) := ⟨_, rfl⟩
      rw [← hE2] at HE
      have hE2 := Lib.hid hE2
      generalize St.flush ⟨L, S, V⟩ k = s0 at HE hdk hlt3
      go_wp2_with fail
      refine (settle_int hdk k hlt3 64 (by omega) (by omega)).mono ?_
      rintro e w2 ⟨rfl, hd2, hc2⟩
      have hd3 : DskS w2 p bL bS bW s2 := by rw [HE.out]; exact hd2
      clear hd2
      go_wp2_with fail
      go_roundw
      case rel => exact ⟨k + 1, by omega, by go_num, (hE2.out ▸ hd3), hck.trans hc2⟩
      case measure => simp [intOf]; omega
    · have hkl : k = V.length := by omega
      have hdl : DskS wr p bL bS bW (St.flush ⟨L, S, V⟩ V.length) := hkl ▸ hdk
      clear hkl
      go_wp2_with fail
      go_end0
      exact ⟨rfl, hdl, hck⟩
end
end Go.Proofs.Ytddjgncdjdjgeaa
namespace Go.Proofs.Ytddjgncdjdjgeaa
open Go.RowKit
section
variable {w : World} {p bL bS bW : Nat} {L S : List UInt8} {V : List Bool}

set_option maxHeartbeats 400000 in
set_option maxRecDepth 100000 in
theorem write_no (h : Dsk w p bL bS bW L S V) (i : Int) (A : Option Addr) (n c : Nat) (hi : i < 0 ∨ (V.length : Int) ≤ i ∨ n ≠ 64) :
    Calls Try.prog 63 #[.pointer (some ⟨p, 0, none⟩), .int .i64 i, .slice A n c] w fun e w' => e = .returned (.bool false) ∧ w = w' := by
  by_cases hok : 0 ≤ i ∧ i < V.length
  · obtain ⟨h0, h1⟩ := hok
    have hd : ((n : Int) != 64) = true := by simp; omega
    clear hi
    go_enter Try.func63, Try.ntmps63
    go_wp2_with (go_at_call 101; refine (has_yes h i h0 h1).mono ?_; rintro e w' ⟨rfl, rfl⟩)
    go_ret
    exact ⟨rfl, rfl⟩
  · have h2 : i < 0 ∨ (V.length : Int) ≤ i := by omega
    clear hi hok
    go_enter Try.func63, Try.ntmps63
    go_wp2_with (go_at_call 101; refine (has_no h i h2).mono ?_; rintro e w' ⟨rfl, rfl⟩)
    go_ret
    exact ⟨rfl, rfl⟩

theorem write_end {w2 : World} {k : Nat} {x : List UInt8} (h : Dsk w p bL bS bW L S V) (hk : k < V.length) (hx : x.length = 64) (HC : Chg [bS] w w2) (HG : Whole w2 bS 5 (splice (bts S) (k * 64) (bts x))) :
    Dsk (w2.setCell ⟨bW, k, none⟩ (.bool true)) p bL bS bW L (splice S (k * 64) x) (V.set k true) ∧ Chg [bS, bW] w (w2.setCell ⟨bW, k, none⟩ (.bool true)) := by
  have s1 : 64 * (k + 1) ≤ S.length := by have := h.lenS; omega
  have eS : (splice S (k * 64) x).length = S.length := length_splice _ _ _ (by omega)
  rw [bts_splice] at HG
  have d0 := h.rec_.ne_ h.seen (by decide)
  have d1 := h.rec_.ne_ h.wait (by decide)
  have d2 := h.last.ne_ h.wait (by decide)
  have d3 := h.seen.ne_ h.wait (by decide)
  have V2 := h.wait.chg HC (by simpa using fun e => d3 e.symm)
  have hw : Whole (w2.setCell ⟨bW, k, none⟩ (.bool true)) bW 4 (bls (V.set k true)) := by
    have := V2.set_ k (.bool true)
    rwa [bls_set] at this
  refine ⟨⟨?_, (h.last.chg HC (by simpa using h.ne)).far d2 _, HG.far d3 _, hw, by rw [List.length_set]; exact h.lenL, by rw [eS, List.length_set]; exact h.lenS, by rw [List.length_set]; exact h.pos, by rw [List.length_set]; exact h.le, h.ne⟩, ?_⟩
  · rw [eS, List.length_set]
    exact (h.rec_.chg HC (by simpa using d0)).far d1 _
  · exact (HC.sub (T' := [bS, bW]) (by simp)).setCell (by simp) _

set_option maxHeartbeats 1000000 in
set_option maxRecDepth 100000 in
theorem write_yes (h : Dsk w p bL bS bW L S V) (k : Nat) (hk : k < V.length) {A : Option Addr} {c : Nat} {x : List UInt8} (hx : x.length = 64) (hs : Src w A (bts x)) :
    Calls Try.prog 63 #[.pointer (some ⟨p, 0, none⟩), .int .i64 (k : Int), .slice A 64 c] w fun e w' => e = .returned (.bool true) ∧
      Dsk w' p bL bS bW L (splice S (k * 64) x) (V.set k true) ∧ Chg [bS, bW] w w' := by
  have c1 := h.rec_.cell 1
  have hS := h.lenS
  have hv := h.le
  have s1 : 64 * (k + 1) ≤ S.length := by omega
  have s2 : S.length ≤ 1000000 := by omega
  clear hS
  have hfit : k * 64 + (bts x).length ≤ (bts S).length := by rw [bts_len, bts_len]; omega
  have Hn := Lib.hid (show (bts x).length = Nat.min 64 64 by rw [bts_len, hx]; rfl)
  have Hx := Lib.hid hx
  have b1 := bts_one x
  have n2 := Lib.hid (show p ∉ [bS] by simpa using h.rec_.ne_ h.seen (by decide))
  have n3 := Lib.hid (show bW ∉ [bS] by simpa using h.wait.ne_ h.seen (by decide))
  obtain ⟨Y, hY⟩ : ∃ Y, Y = bts x := ⟨_, rfl⟩
  have HY := Lib.hid hY
  rw [← hY] at hfit Hn b1 hs
  clear hx hY
  go_enter Try.func63, Try.ntmps63
  go_wp2_with (first
    | (go_at_call 101; refine (has_yes h _ (by omega) (by omega)).mono ?_; rintro e w' ⟨rfl, rfl⟩)
    | (go_at_call 80; refine (dsector_any k s1 (Nat.le_refl _) s2).mono ?_; rintro e w' ⟨rfl, rfl⟩)
    | (with_reducible refine wpList_copy_chg rfl (.tmp 21) (.tmp 22) _ _ rfl 5 Try.underlying44 size_u8 (some ⟨bS, k * 64, none⟩) A 64 (S.length - k * 64) 64 c rfl rfl bS (k * 64) 5 (bts S) Y h.seen Hn.out (fun _ => rfl) hs hfit b1 ?_
       intro w2 HG HC
       have R2 := h.rec_.chg HC n2.out
       have V2 := h.wait.chg HC n3.out
       have c2 := R2.cell 2
       have c4 := (V2.cell k).trans (bls_get V k hk)
       have c5 := V2.frozen k))
  go_ret
  rw [HY.out] at HG
  exact ⟨rfl, write_end h hk Hx.out HC HG⟩

set_option maxHeartbeats 400000 in
set_option maxRecDepth 100000 in
theorem read_no (h : Dsk w p bL bS bW L S V) (i : Int) (hi : i < 0 ∨ (V.length : Int) ≤ i) :
    Calls Try.prog 65 #[.pointer (some ⟨p, 0, none⟩), .int .i64 i] w fun e w' => e = .returned (.tuple #[.slice none 0 0, .bool false]) ∧ w = w' := by
  go_enter Try.func65, Try.ntmps65
  go_wp2_with (go_at_call 101; refine (has_no h i hi).mono ?_; rintro e w' ⟨rfl, rfl⟩)
  go_ret2
  exact ⟨rfl, rfl⟩

set_option maxHeartbeats 1000000 in
set_option maxRecDepth 100000 in
theorem read_yes (h : Dsk w p bL bS bW L S V) (k : Nat) (hk : k < V.length) :
    Calls Try.prog 65 #[.pointer (some ⟨p, 0, none⟩), .int .i64 (k : Int)] w fun e w' => e = .returned (.tuple #[.slice (some ⟨w.heap.size, 0, none⟩) 64 64, .bool true]) ∧
      Whole w' w.heap.size 5 (bts ((S.drop (k * 64)).take 64)) ∧ Chg [] w w' := by
  have c1 := h.rec_.cell 1
  have hS := h.lenS
  have hv := h.le
  have s1 : 64 * (k + 1) ≤ S.length := by omega
  have s2 : S.length ≤ 1000000 := by omega
  clear hS
  have hl : (bts ((S.drop (k * 64)).take 64)).length = 64 := by rw [bts_len, List.length_take, List.length_drop]; omega
  have Hl := Lib.hid hl
  have hsr : Src w (some ⟨bS, k * 64, none⟩) (bts ((S.drop (k * 64)).take 64)) := by rw [← bts_cut]; exact Src.of_whole h.seen _ _
  have b1 := bts_one ((S.drop (k * 64)).take 64)
  obtain ⟨Y, hY⟩ : ∃ Y, Y = bts ((S.drop (k * 64)).take 64) := ⟨_, rfl⟩
  rw [← hY] at Hl hsr b1
  rw [← hY]
  clear hl hY
  go_enter Try.func65, Try.ntmps65
  go_wp2_with (first
    | (go_at_call 101; refine (has_yes h _ (by omega) (by omega)).mono ?_; rintro e w' ⟨rfl, rfl⟩)
    | (go_at_call 80; refine (dsector_any k s1 (Nat.le_refl _) s2).mono ?_; rintro e w' ⟨rfl, rfl⟩)
    | (go_at_call 53; refine (fresh_any Hl.out hsr b1 (by omega)).mono ?_; rintro e w2 ⟨rfl, HB, HC⟩))
  go_ret2
  exact ⟨rfl, HB, HC⟩
end
end Go.Proofs.Ytddjgncdjdjgeaa
namespace Go.Proofs.Ytddjgncdjdjgeaa
open Go.RowKit

section
variable {w : World}
set_option maxHeartbeats 400000 in
set_option maxRecDepth 100000 in
theorem new_yes (k : Nat) (h1 : 1 ≤ k) (h2 : k ≤ 160) :
    Calls Try.prog 6 #[.int .i64 (k : Int)] w fun e w' => ∃ p bL bS bW, e = .returned (.pointer (some ⟨p, 0, none⟩)) ∧ Dsk w' p bL bS bW (zeros (k * 64)) (zeros (k * 64)) (falses k) ∧
      w.heap.size ≤ p ∧ w.heap.size ≤ bL ∧ w.heap.size ≤ bS ∧ w.heap.size ≤ bW ∧ Chg [] w w' := by
  have hd1 : decide ((k : Int) < 1) = false := by simp; omega
  have hd2 : decide (160 < (k : Int)) = false := by simp; omega
  have hmk : ∀ W : World, (Instr.makeSlice 44 (.int .i64 ((k : Int) * 64)) (.int .i64 ((k : Int) * 64))).run Try.prog W = .ok (.slice (some ⟨W.heap.size, 0, none⟩) (k * 64) (k * 64)) (W.alloc (.cells (bts (zeros (k * 64))).toArray 5)) :=
    fun W => by
      have := make_u8 (k * 64) (by omega) W
      simpa using this
  go_enter Try.func6, Try.ntmps6
  go_wp2_with (go_at_call 23; refine (of_yes (l := zeros (k * 64)) (by simp [zeros]) (Src.of_all (Whole.new w _ _)) (by omega) (by omega) (by omega)).mono ?_; rintro e w1 ⟨p, bL, bS, bW, rfl, HD, b0, b1, b2, b3, HC⟩)
  go_ret
  rw [show k * 64 / 64 = k by omega] at HD
  have hs : (w.alloc (.cells (bts (zeros (k * 64))).toArray 5)).heap.size = w.heap.size + 1 := by simp
  exact ⟨p, bL, bS, bW, rfl, HD, by omega, by omega, by omega, by omega, ((Chg.refl [] w).alloc _).new HC⟩
end
end Go.Proofs.Ytddjgncdjdjgeaa
namespace Go.Proofs.Ytddjgncdjdjgeaa
open Go.RowKit

def St.new (n : Nat) : St := ⟨zeros (n * 64), zeros (n * 64), falses n⟩
def St.of (l : List UInt8) : St := ⟨l, l, falses (l.length / 64)⟩

section
variable {w : World} {p bL bS bW : Nat} {s : St}
theorem new_int (n : Int) (h1 : 1 ≤ n) (h2 : n ≤ 160) :
    Calls Try.prog 6 #[.int .i64 n] w fun e w' => ∃ p bL bS bW, e = .returned (.pointer (some ⟨p, 0, none⟩)) ∧ DskS w' p bL bS bW (St.new n.toNat) ∧
      w.heap.size ≤ p ∧ w.heap.size ≤ bL ∧ w.heap.size ≤ bS ∧ w.heap.size ≤ bW ∧ Chg [] w w' := by
  obtain ⟨k, rfl⟩ := Int.eq_ofNat_of_zero_le (show 0 ≤ n by omega)
  rw [Int.toNat_natCast]
  exact new_yes k (by omega) (by omega)
end


end Go.Proofs.Ytddjgncdjdjgeaa
