/-
  K: Into, Tape, DeltaGet, DeltaBytes.
-/
import Derived.Test.YtddjgncdjdjgeaaZK1
import Derived.Test.YtddjgncdjdjgeaaZK2
import Derived.Test.YtddjgncdjdjgeaaZK7
import Derived.Test.YtddjgncdjdjgeaaZK9
import Derived.Test.YtddjgncdjdjgeaaChecked
import Derived.Laws.BitsAllLaws
import Derived.Deep.RegionLaw
namespace Go.Proofs.Ytddjgncdjdjgeaa
open Go.RowKit
/-- r is a number of lo .. hi, and n itself where n is one. -/
def Into (n lo hi r : Int) : Prop := lo ≤ r ∧ r ≤ hi ∧ (lo ≤ n → n ≤ hi → r = n)
/-- The number itself, or brought into lo .. hi. -/
def withinI (n lo hi : Int) : Int := if lo ≤ n ∧ n ≤ hi then n else if n.tmod (hi - lo + 1) < 0 then lo + (n.tmod (hi - lo + 1) + hi - lo + 1) else lo + n.tmod (hi - lo + 1)
theorem into_within (n lo hi : Int) (h1 : lo ≤ hi) : Into n lo hi (withinI n lo hi) := by
  have b1 := Int.tmod_lt_of_pos n (show 0 < hi - lo + 1 by omega)
  have b2 := Int.lt_tmod_of_pos n (show 0 < hi - lo + 1 by omega)
  unfold withinI
  split
  · rename_i h; exact ⟨h.1, h.2, fun _ _ => rfl⟩
  · rename_i h
    split
    · exact ⟨by omega, by omega, fun ha hb => absurd ⟨ha, hb⟩ h⟩
    · exact ⟨by omega, by omega, fun ha hb => absurd ⟨ha, hb⟩ h⟩
theorem ret_within {a b : Int} (h : a = b) : Ending.returned (.int .i64 a) = .returned (.int .i64 b) := by rw [h]
section
variable {w : World}
set_option maxHeartbeats 1000000 in
set_option maxRecDepth 100000 in
theorem within_is (n lo hi : Int) (h0 : -1000000 ≤ lo) (h1 : lo ≤ hi) (h2 : hi ≤ 1000000) (hn0 : -9223372036854775808 ≤ n) (hn1 : n ≤ 9223372036854775807) :
    Calls Try.prog 10 #[.int .i64 n, .int .i64 lo, .int .i64 hi] w fun e w' => e = .returned (.int .i64 (withinI n lo hi)) ∧ w = w' := by
  have b1 := Int.tmod_lt_of_pos n (show 0 < hi - lo + 1 by omega)
  have b2 := Int.lt_tmod_of_pos n (show 0 < hi - lo + 1 by omega)
  have hne : ((hi - lo + 1) == 0) = false := by simp; omega
  by_cases ha : lo ≤ n
  · by_cases hb : n ≤ hi
    · have HI := Lib.hid (show withinI n lo hi = n by unfold withinI; rw [if_pos ⟨ha, hb⟩])
      go_enter Try.func10, Try.ntmps10
      go_wp2_with fail
      go_ret
      exact ⟨ret_within HI.out.symm, rfl⟩
    · by_cases hm : n.tmod (hi - lo + 1) < 0
      · have HI := Lib.hid (show withinI n lo hi = lo + (n.tmod (hi - lo + 1) + hi - lo + 1) by unfold withinI; rw [if_neg (fun h => hb h.2), if_pos hm])
        go_enter Try.func10, Try.ntmps10
        go_wp2_with fail
        go_ret
        exact ⟨ret_within HI.out.symm, rfl⟩
      · have HI := Lib.hid (show withinI n lo hi = lo + n.tmod (hi - lo + 1) by unfold withinI; rw [if_neg (fun h => hb h.2), if_neg hm])
        go_enter Try.func10, Try.ntmps10
        go_wp2_with fail
        go_ret
        exact ⟨ret_within HI.out.symm, rfl⟩
  · have hd : decide (lo ≤ n) = false := by simp; omega
    by_cases hm : n.tmod (hi - lo + 1) < 0
    · have HI := Lib.hid (show withinI n lo hi = lo + (n.tmod (hi - lo + 1) + hi - lo + 1) by unfold withinI; rw [if_neg (fun h => ha h.1), if_pos hm])
      go_enter Try.func10, Try.ntmps10
      go_wp2_with fail
      go_ret
      exact ⟨ret_within HI.out.symm, rfl⟩
    · have HI := Lib.hid (show withinI n lo hi = lo + n.tmod (hi - lo + 1) by unfold withinI; rw [if_neg (fun h => ha h.1), if_neg hm])
      go_enter Try.func10, Try.ntmps10
      go_wp2_with fail
      go_ret
      exact ⟨ret_within HI.out.symm, rfl⟩
end
end Go.Proofs.Ytddjgncdjdjgeaa
namespace Go.Proofs.Ytddjgncdjdjgeaa
open Go.RowKit
/-- A tape as it lies in memory: its numbers, where it stands. -/
structure Tp (w : World) (p : Nat) (A : Option Addr) (n c : Nat) (l : List Int) (at_ : Nat) : Prop where
  rec_ : Whole w p 32 [.slice A n c, .int .i64 (at_ : Int)]
  len : l.length = n
  src : Src w A (nms l)
  spot : 0 < n → ∀ ad, A = some ad → ad.spot = none ∧ ad.block < p
  rng : ∀ x ∈ l, -9223372036854775808 ≤ x ∧ x ≤ 9223372036854775807
  le : at_ ≤ n
  max : n ≤ 9223372036854775807
theorem nms_at (l : List Int) (i : Nat) (h : i < l.length) : (nms l)[i]? = some (.int .i64 l[i]) := by simp [nms, h]
section
variable {w : World}
set_option maxHeartbeats 1000000 in
set_option maxRecDepth 100000 in
theorem within_big (n lo hi : Int) (h0 : -1000000 ≤ lo) (h1 : lo ≤ hi) (h2 : hi ≤ 2000000000) (hn0 : -9223372036854775808 ≤ n) (hn1 : n ≤ 9223372036854775807) :
    Calls Try.prog 10 #[.int .i64 n, .int .i64 lo, .int .i64 hi] w fun e w' => e = .returned (.int .i64 (withinI n lo hi)) ∧ w = w' := by
  have b1 := Int.tmod_lt_of_pos n (show 0 < hi - lo + 1 by omega)
  have b2 := Int.lt_tmod_of_pos n (show 0 < hi - lo + 1 by omega)
  have hne : ((hi - lo + 1) == 0) = false := by simp; omega
  by_cases ha : lo ≤ n
  · by_cases hb : n ≤ hi
    · have HI := Lib.hid (show withinI n lo hi = n by unfold withinI; rw [if_pos ⟨ha, hb⟩])
      go_enter Try.func10, Try.ntmps10
      go_wp2_with fail
      go_ret
      exact ⟨ret_within HI.out.symm, rfl⟩
    · by_cases hm : n.tmod (hi - lo + 1) < 0
      · have HI := Lib.hid (show withinI n lo hi = lo + (n.tmod (hi - lo + 1) + hi - lo + 1) by unfold withinI; rw [if_neg (fun h => hb h.2), if_pos hm])
        go_enter Try.func10, Try.ntmps10
        go_wp2_with fail
        go_ret
        exact ⟨ret_within HI.out.symm, rfl⟩
      · have HI := Lib.hid (show withinI n lo hi = lo + n.tmod (hi - lo + 1) by unfold withinI; rw [if_neg (fun h => hb h.2), if_neg hm])
        go_enter Try.func10, Try.ntmps10
        go_wp2_with fail
        go_ret
        exact ⟨ret_within HI.out.symm, rfl⟩
  · have hd : decide (lo ≤ n) = false := by simp; omega
    by_cases hm : n.tmod (hi - lo + 1) < 0
    · have HI := Lib.hid (show withinI n lo hi = lo + (n.tmod (hi - lo + 1) + hi - lo + 1) by unfold withinI; rw [if_neg (fun h => ha h.1), if_pos hm])
      go_enter Try.func10, Try.ntmps10
      go_wp2_with fail
      go_ret
      exact ⟨ret_within HI.out.symm, rfl⟩
    · have HI := Lib.hid (show withinI n lo hi = lo + n.tmod (hi - lo + 1) by unfold withinI; rw [if_neg (fun h => ha h.1), if_neg hm])
      go_enter Try.func10, Try.ntmps10
      go_wp2_with fail
      go_ret
      exact ⟨ret_within HI.out.symm, rfl⟩
end
section
variable {w w' : World} {p n c at_ : Nat} {A : Option Addr} {l : List Int}
theorem Tp.keep (h : Tp w p A n c l at_) (hc : Chg [] w w') : Tp w' p A n c l at_ := ⟨h.rec_.keep hc, h.len, h.src.keep hc, h.spot, h.rng, h.le, h.max⟩
theorem Tp.other (h : Tp w p A n c l at_) {g j : Nat} (hg : g ≠ p) (hA : ∀ ad, A = some ad → 0 < n → ad.block ≠ g) (u : Value) : Tp (w.setCell ⟨g, j, none⟩ u) p A n c l at_ := by
  refine ⟨h.rec_.far (by simpa using Ne.symm hg) u, h.len, fun hp => ?_, h.spot, h.rng, h.le, h.max⟩
  obtain ⟨ad, e, hb, hy⟩ := h.src hp
  have hn : 0 < n := by have := h.len; simp [nms] at hp; omega
  refine ⟨ad, e, by simpa [World.setCell] using hb, fun i v hi => ?_⟩
  have h1 := hy i v hi
  have e2 : (ad.add i).block = ad.block := by unfold Addr.add; split <;> rfl
  rw [← h1]
  exact World.cell?_of_block (w := w) (Below.heap_setCell w _ u _ (by rw [e2]; exact hA ad e hn))
theorem Tp.grown {B2 m k2 : Nat} {e2 : TypeId} {v2 : Value} {ys : List Value} (h : Tp w p A n c l at_) (h2 : w.ownsRow B2 e2 k2 v2 m ys) (hg : w.grownBy w' v2.ownBlock) (hne : 32 ≠ e2) (hB : p < B2) : Tp w' p A n c l at_ := by
  refine ⟨whole_grown h.rec_ h2 hne hg, h.len, fun hp => ?_, h.spot, h.rng, h.le, h.max⟩
  obtain ⟨ad, e, hb, hy⟩ := h.src hp
  have hn : 0 < n := by have := h.len; simp [nms] at hp; omega
  refine ⟨ad, e, Nat.lt_of_lt_of_le hb hg.size, fun i v hi => ?_⟩
  have h1 := hy i v hi
  have e3 : (ad.add i).block = ad.block := by unfold Addr.add; split <;> rfl
  rw [← h1]
  refine World.cell?_of_block (w := w) (hg.block _ (by rw [e3]; exact hb) (fun hc => ?_))
  rw [e3] at hc
  have := (h2.lt _ hc.symm).1
  have := (h.spot hn ad e).2
  omega
theorem chg_grown2 {T : List Nat} {a w w' : World} {row : Option Nat} (h : Chg T a w) (hg : w.grownBy w' row) (hr : ∀ g, row = some g → a.heap.size ≤ g) : Chg T a w' :=
  h.then_ (T' := row.toList) (Chg.of_grown hg fun g e _ => by simp [e]) fun i hi hlt => by
    have := hr i (by simpa using hi)
    omega
theorem Tp.lt (h : Tp w p A n c l at_) : p < w.heap.size := h.rec_.lt
/-- A number of 0 .. m - 1, and the tape one further. -/
def NextPost (w : World) (p : Nat) (A : Option Addr) (n c : Nat) (l : List Int) (m : Nat) (e : Ending) (w' : World) : Prop :=
  ∃ (r a' : Nat), r < m ∧ e = .returned (.int .i64 (r : Int)) ∧ Tp w' p A n c l a' ∧ Chg [p] w w'
set_option maxHeartbeats 4000000 in
set_option maxRecDepth 100000 in
theorem next_any (h : Tp w p A n c l at_) (m : Nat) (hm : 0 < m) (hm2 : m ≤ 1000000) :
    Calls Try.prog 9 #[.pointer (some ⟨p, 0, none⟩), .int .i64 (m : Int)] w (NextPost w p A n c l m) := by
  have c0 := h.rec_.cell 0
  have c1 := h.rec_.cell 1
  have f1 := h.rec_.frozen 1
  have hle := h.le
  have hmax := h.max
  have H := Lib.hid h
  clear h
  have hmd : ¬ (m : Int) < 1 := by omega
  have hmd1 : decide ((m : Int) < 1) = false := by simp; omega
  by_cases hlt : at_ < n
  · have hd1 : decide (n ≤ at_) = false := by simp; omega
    have hd2 : decide ((n : Int) ≤ (at_ : Int)) = false := by simp; omega
    obtain ⟨ad, rfl, _, hx⟩ := H.out.src (by simp [nms]; have := H.out.len; omega)
    have hx1 := hx at_ _ (nms_at l at_ (by have := H.out.len; omega))
    obtain ⟨b, o, s⟩ := ad
    obtain ⟨hs, hbp⟩ := H.out.spot (by omega) _ rfl
    simp only at hs hbp
    subst hs
    rw [add_plain] at hx1
    have hal : at_ < l.length := by have := H.out.len; omega
    have hrz := H.out.rng l[at_] (List.getElem_mem hal)
    generalize l[at_] = z at hx1 hrz
    obtain ⟨hz0, hz1⟩ := hrz
    clear hx
    go_enter Try.func9, Try.ntmps9
    go_wp2_with fail
    go_quiet (fail)
    go_wp2_with fail
    have hR3 := ((H.out.rec_.keep ((Chg.refl [] w).drewN nq)).set_ 1 (.int .i64 ((at_ : Int) + 1)))
    have hc3 : Chg [p] w ((w.drewN nq).setCell ⟨p, 1, none⟩ (.int .i64 ((at_ : Int) + 1))) := ((Chg.refl [p] w).drewN nq).setCell (by simp) _
    generalize (w.drewN nq).setCell ⟨p, 1, none⟩ (.int .i64 ((at_ : Int) + 1)) = w3 at hR3 hc3 ⊢
    have hs3 : Src w3 (some ⟨b, o, none⟩) (nms l) := fun hp => by
      obtain ⟨ad, e, hb, hy⟩ := H.out.src hp
      injection e with e
      subst e
      refine ⟨_, rfl, Nat.lt_of_lt_of_le hb hc3.size, fun j v hj => ?_⟩
      have := hy j v hj
      rw [add_plain] at this ⊢
      rw [← this]
      exact World.cell?_of_block (w := w) (hc3.block b hb (by simp; omega))
    have hT3 : Tp w3 p (some ⟨b, o, none⟩) n c l (at_ + 1) := ⟨by simpa using hR3, H.out.len, hs3, H.out.spot, H.out.rng, by omega, H.out.max⟩
    have k0 := hT3.rec_.cell 0
    have k1 := hT3.rec_.cell 1
    have k2 : w3.cell? ⟨b, o + at_, none⟩ = some (.int .i64 z) := by
      rw [← hx1]
      exact World.cell?_of_block (w := w) (hc3.block b (block_lt_of_cell hx1) (by simp; omega))
    clear hx1 c0 c1 f1 hR3 hs3
    obtain ⟨q, hq, hq2⟩ : ∃ q : Nat, withinI z 0 1073741824 = (q : Int) ∧ q ≤ 1073741824 := by
      have hin := into_within z 0 1073741824 (by omega)
      exact ⟨(withinI z 0 1073741824).toNat, by have := hin.1; omega, by have h1 := hin.1; have h2 := hin.2.1; omega⟩
    have hw : ∀ W : World, Calls Try.prog 10 #[.int .i64 z, .int .i64 0, .int .i64 1073741824] W fun e w' => e = .returned (.int .i64 (q : Int)) ∧ w' = W := fun W =>
      (within_big z 0 1073741824 (by omega) (by omega) (by omega) hz0 hz1).mono fun _ _ ⟨h1, h2⟩ => ⟨by rw [h1, hq], h2.symm⟩
    have HT := Lib.hid hT3
    have HW := Lib.hid hw
    have HC := Lib.hid hc3
    have hsub : IntKind.i64.wrap (at_ : Int) = (at_ : Int) := IntWalk.i64_in _ (by omega)
    have hatn : (at_ : Int).toNat = at_ := Int.toNat_natCast _
    have hat0 : (0 : Int) ≤ (at_ : Int) := by omega
    have htm : (q : Int).tmod (m : Int) = ((q % m : Nat) : Int) := rfl
    have hlast : q % m < m := Nat.mod_lt _ hm
    have hatI : (at_ : Int) < (n : Int) := by omega
    have hm0 : ((m : Int) == 0) = false := by simp; omega
    clear hT3 hw hc3 hq H
    go_quiet ((go_at_call 10; exact Calls.quiet_of_same (HW.out _)))
    go_wp2_with fail
    go_ret
    exact ⟨q % m, at_ + 1, hlast, rfl, HT.out.keep ((Chg.refl _ _).drewN _), HC.out.drewN _⟩
  · have hd1 : decide (n ≤ at_) = true := by simp; omega
    have hd2 : decide ((n : Int) ≤ (at_ : Int)) = true := by simp; omega
    go_enter Try.func9, Try.ntmps9
    go_wp2_with fail
    go_quiet (fail)
    go_wp2_with fail
    go_ret
    exact ⟨0, at_, hm, rfl, H.out.keep ((Chg.refl _ _).drewN _), (Chg.refl _ _).drewN _⟩
end
end Go.Proofs.Ytddjgncdjdjgeaa
namespace Go.Proofs.Ytddjgncdjdjgeaa
open Go.RowKit
/-- The number of two bytes. -/
def num2 (l : List UInt8) : Nat := (l.getD 0 0).toNat * 256 + (l.getD 1 0).toNat
theorem ofInt_small (a : Nat) (h : a < 65536) : (BitVec.ofInt 64 (a : Int)).toNat = a := by
  rw [BitVec.toNat_ofInt]
  omega
theorem or_two (x y : UInt8) : bits .or .i64 ((x.toNat : Int) * 256) (y.toNat : Int) = ((x.toNat * 256 + y.toNat : Nat) : Int) := by
  have hx := x.toNat_lt
  have hy := y.toNat_lt
  have e1 : (x.toNat : Int) * 256 = ((x.toNat * 256 : Nat) : Int) := by omega
  rw [e1]
  show IntKind.i64.wrap ((BitVec.ofInt 64 ((x.toNat * 256 : Nat) : Int) ||| BitVec.ofInt 64 (y.toNat : Int)).toNat : Int) = _
  rw [BitVec.toNat_or, ofInt_small _ (by omega), ofInt_small _ (by omega), nat_join 8 (x.toNat * 256) y.toNat (by omega) (by omega)]
  exact IntWalk.i64_in _ (by omega)
theorem ret_word {a b : Int} (h : a = b) : Ending.returned (.int .i64 a) = .returned (.int .i64 b) := by rw [h]
section
variable {w : World} {A : Option Addr} {n c : Nat} {l : List UInt8}
set_option maxHeartbeats 2000000 in
set_option maxRecDepth 100000 in
theorem dget_any (h : Bs w A n c l) (hn : 2 ≤ n) :
    Calls Try.prog 106 #[.slice A n c] w fun e w' => e = .returned (.int .i64 (num2 l : Nat)) ∧ Chg [] w w' := by
  obtain ⟨x, y, t, rfl⟩ : ∃ x y t, l = x :: y :: t := by
    match l, h.len with
    | [], h0 => simp at h0; omega
    | [_], h0 => simp at h0; omega
    | x :: y :: t, _ => exact ⟨x, y, t, rfl⟩
  obtain ⟨ad, rfl, _, hx⟩ := h.src (by simp [bts])
  obtain ⟨b, o, s⟩ := ad
  obtain rfl : s = none := h.spot (by omega) _ rfl
  have h0 := hx 0 (B8 x) rfl
  have h1 := hx 1 (B8 y) rfl
  rw [add_plain, Nat.add_zero] at h0
  rw [add_plain] at h1
  unfold B8 at h0 h1
  have hx256 := x.toNat_lt
  have hy256 := y.toNat_lt
  have hnI : (1 : Int) < (n : Int) := by omega
  have hnJ : (0 : Int) < (n : Int) := by omega
  clear hx
  go_enter Try.func106, Try.ntmps106
  go_wp2_with fail
  go_quiet (fail)
  go_wp2_with fail
  go_ret
  exact ⟨ret_word (by rw [or_two]; simp [num2]), (Chg.refl _ _).drewN _⟩
end
end Go.Proofs.Ytddjgncdjdjgeaa
namespace Go.Proofs.Ytddjgncdjdjgeaa
open Go.RowKit
def chB (a : ChV) : List UInt8 := be2 a.page.toNat ++ a.B
/-- Changes as bytes. -/
def chsB : List ChV → List UInt8
  | [] => []
  | a :: l => chB a ++ chsB l
theorem chsB_app : ∀ l m, chsB (l ++ m) = chsB l ++ chsB m
  | [], _ => rfl
  | a :: l, m => by rw [List.cons_append, chsB, chsB, chsB_app l m, List.append_assoc]
theorem chsB_next (l : List ChV) (k : Nat) (a : ChV) (h : l[k]? = some a) : chsB (l.take (k + 1)) = chsB (l.take k) ++ chB a := by
  obtain ⟨hk, rfl⟩ := List.getElem?_eq_some_iff.1 h
  rw [List.take_succ_eq_append_getElem hk, chsB_app]
  simp [chsB]
def bytesD (l : List ChV) : List UInt8 := be2 l.length ++ chsB l
section
variable {w : World} {A : Option Addr} {n c : Nat}
set_option maxHeartbeats 4000000 in
set_option maxRecDepth 100000 in
theorem dbytes_any {l : List ChV} (h : Chs w A l) (hs : ∀ a ∈ l, Small a) (hl : l.length = n) (hn : n ≤ 1000) :
    Calls Try.prog 41 #[.slice A n c] w (BytesPost w (bytesD l)) := by
  obtain ⟨i0, hi, hz, hs1, hb⟩ := info_parts info_byte
  have H := Lib.hid h
  have HL := Lib.hid hl
  have HS := Lib.hid hs
  clear h hl hs
  have hmk : ∀ W : World, (Instr.makeSlice 44 (.int .i64 0) (.int .i64 (2 + (n : Int) * 66))).run Try.prog W = .ok (.slice (some ⟨W.heap.size, 0, none⟩) 0 (2 + n * 66)) (W.alloc (.cells (bts (zeros (2 + n * 66))).toArray 5)) := by
    intro W
    rw [bts_zeros]
    have := run_make0 (P := Try.prog) 44 5 i0 _ rfl Try.underlying44 hi hz hs1 (2 + n * 66) (by rw [hb]; omega) (by omega) W
    simpa using this
  have ho0 : (w.alloc (.cells (bts (zeros (2 + n * 66))).toArray 5)).ownsRow w.heap.size 5 1 (.slice (some ⟨w.heap.size, 0, none⟩) 0 (2 + n * 66)) 0 (bts []) := by
    have := own_of_whole (B := w.heap.size) (n := 0) (c := 2 + n * 66) (Whole.new w 5 (bts (zeros (2 + n * 66)))) (Nat.le_refl _) (by simp [bts_len, zeros_len]) (by omega) (by unfold maxLen; omega)
    simpa [bts] using this
  go_enter Try.func41, Try.ntmps41
  go_wp2_with fail
  refine (dput_any ho0 (by simp) n (by omega) (by omega)).mono ?_
  rintro e w1 ⟨v1, rfl, ho1, _, hL1⟩
  have hc1 : Chg [] w w1 := ((Low.of_chg (B := w.heap.size) ((Chg.refl [] w).alloc _)).trans hL1).chg (Nat.le_refl _)
  simp only [Nat.zero_add, List.nil_append] at ho1
  clear ho0 hL1
  go_wp2_with fail
  go_loopw [3, 16] (fun t i wr => ∃ k : Nat, k ≤ n ∧ i = .int .i64 (k : Int) ∧ wr.ownsRow w.heap.size 5 1 t (2 + k * 66) (bts (be2 n ++ chsB (l.take k))) ∧ Chg [] w wr) (fun _ i _ => n - (intOf i).toNat)
  case atStart => exact ⟨0, Nat.zero_le _, rfl, by simpa [chsB] using ho1, hc1⟩
  case round =>
    obtain ⟨k, hk, rfl, hown, hcr⟩ := hrel
    have hwr := hcr.size
    clear ho1 hc1
    by_cases hlt : k < n
    · obtain ⟨a, ha⟩ : ∃ a, l[k]? = some a := ⟨_, List.getElem?_eq_getElem (by have := HL.out; omega)⟩
      have ham := List.mem_of_getElem? ha
      obtain ⟨g, o, rfl, hg, hce⟩ := (H.out.keep hcr).cells (by have := HL.out; omega)
      obtain ⟨c0, c1⟩ := hce k a ha
      have hbs := (H.out.ok a ham).bs
      obtain ⟨hp0, hp1, hbn⟩ := HS.out a ham
      have HT := Lib.hid (chsB_next l k a ha)
      have HC := Lib.hid hcr
      clear hce ha ham hcr
      obtain ⟨page, bA, bn, bc, Bb⟩ := a
      simp only at c0 c1 hbs hp0 hp1 hbn
      subst hbn
      obtain ⟨q, rfl⟩ := Int.eq_ofNat_of_zero_le hp0
      have HBS := Lib.hid hbs
      clear hbs
      obtain ⟨A3, c3, rfl, _, _, _, _⟩ := own_slice hown
      obtain ⟨X, hX⟩ : ∃ X, X = be2 n ++ chsB (l.take k) := ⟨_, rfl⟩
      rw [← hX] at hown
      have HX := Lib.hid hX
      clear hX
      have hkI : (k : Int) < (n : Int) := by omega
      go_wp2_with fail
      have hz0 := Whole.new wr 78 [.int .i64 (q : Int), .slice bA 64 bc]
      have hal : Chg [] wr (wr.alloc (.cells #[.int .i64 (q : Int), .slice bA 64 bc] 78)) := (Chg.refl [] wr).alloc _
      have HW0 := Lib.hid hal
      have HZ0 := Lib.hid hz0
      clear hal hz0 c0 c1
      go_region_law (first
        | (refine step_append_src rfl (.tmp 23) (.tmp 25) 44 rfl w.heap.size 5 i0 _ 1 Try.underlying44 hi hz hs1 hb cells_u8 v2 (2 + k * 66 + 2) (bts (X ++ be2 q)) rfl ho2 bA 64 bc (bts Bb) rfl hbl hsB (bts_one _) hx1 hx2 hx3 ?_
           intro v5 w5 ho5 hg5)
        | (go_simp
           go_at_call 77
           refine (dput_any (own_keep hown HW0.out.drew) (by simp; omega) q (by omega) (by omega)).mono ?_
           rintro e w2 ⟨v2, rfl, ho2, hk2, hL2⟩
           have hz2 := hk2 _ _ _ (by decide) HZ0.out.drew
           have hc2 : Chg [] w w2 := ((Low.of_chg (B := w.heap.size) (HC.out.new HW0.out).drew).trans hL2).chg (Nat.le_refl _)
           have hB2 := HBS.out.keep hc2
           have hbl : (bts Bb).length = 64 := by rw [bts_len]; exact hB2.len
           have hsB := hB2.src
           have hx1 : 2 + k * 66 + 2 + 64 ≤ maxLen := by unfold maxLen; omega
           have hx2 : (2 + k * 66 + 2 + 64) * 1 ≤ 140737488355328 := by omega
           have hx3 : w.heap.size ≤ w2.heap.size := hc2.size
           have z0 := hz2.cell 0
           have z1 := hz2.cell 1))
      all_goals
        have hL5 : Low w.heap.size w2 w5 := Low.of_own ho2 hg5
        have hc5 : Chg [] w w5 := ((Low.of_chg hc2).trans hL5).chg (Nat.le_refl _)
        clear hg5
        go_wp2_with fail
        go_roundw
        case rel =>
          refine ⟨k + 1, by omega, by go_num, ?_, hc5⟩
          have e1 : bts (be2 n ++ chsB (l.take (k + 1))) = bts (X ++ be2 q) ++ bts Bb := by
            rw [HT.out, ← List.append_assoc, ← HX.out]
            simp [chB, bts]
          rw [e1, show 2 + (k + 1) * 66 = 2 + k * 66 + 2 + 64 by omega]
          exact ho5
        case measure => simp [intOf]; omega
    · obtain rfl : n = k := by omega
      have HK := Lib.hid (show l.take n = l by rw [List.take_of_length_le (by rw [HL.out]; exact Nat.le_refl _)])
      rw [HK.out] at hown
      have e1 : be2 n ++ chsB l = bytesD l := by unfold bytesD; rw [HL.out]
      rw [e1] at hown
      have e2 : 2 + n * 66 = (bytesD l).length := by have := hown.1; rw [bts_len] at this; omega
      rw [e2] at hown
      have HO := Lib.hid hown
      clear e1 e2 hown
      go_wp2_with fail
      go_ret
      exact ⟨_, rfl, HO.out, hcr⟩
end
end Go.Proofs.Ytddjgncdjdjgeaa
