/-
  PB: ShelfJ, Into, Tape.
-/
import Derived.Test.YtbkfhndmeljlcaaGreatDoorZPB1
import Derived.Test.YtbkfhndmeljlcaaGreatDoorZPB3
import Derived.Shelf.Bytes.SlJoin
import Derived.Test.YtbkfhndmeljlcaaGreatDoorChecked
namespace Go.Proofs
open Go.Shelf
def Tryz.laysSlJ14_ren : Go.Shelf.Ren := ⟨fun | 14 => 49 | 15 => 75 | n => n, fun | 26 => 30 | 22 => 33 | 3 => 3 | 4 => 4 | 0 => 0 | 9 => 9 | 20 => 20 | 5 => 5 | n => n, fun | n => n⟩
theorem Tryz.laysSlJ14 : Go.Proofs.SlLaysJ.n14 Tryz.prog Tryz.laysSlJ14_ren := {
  mixed := by kernel_rfl
  f14 := Tryz.func49.trans (congrArg some (by kernel_rfl))
  f15 := Tryz.func75.trans (congrArg some (by kernel_rfl))
  t0 := Tryz.underlying0
  a0 := Tryz.isAgg0
  z0 := Tryz.sizeOf0
  v0 := Tryz.zeroValue0
  t3 := Tryz.underlying3
  a3 := Tryz.isAgg3
  z3 := Tryz.sizeOf3
  v3 := Tryz.zeroValue3
  t4 := Tryz.underlying4
  a4 := Tryz.isAgg4
  z4 := Tryz.sizeOf4
  v4 := Tryz.zeroValue4
  t9 := Tryz.underlying9
  a9 := Tryz.isAgg9
  z9 := Tryz.sizeOf9
  v9 := Tryz.zeroValue9
  t20 := Tryz.underlying20
  a20 := Tryz.isAgg20
  z20 := Tryz.sizeOf20
  v20 := Tryz.zeroValue20
  t22 := Tryz.underlying33
  a22 := Tryz.isAgg33
  z22 := Tryz.sizeOf33
  v22 := Tryz.zeroValue33
  t26 := Tryz.underlying30
  a26 := Tryz.isAgg30
  z26 := Tryz.sizeOf30
  v26 := Tryz.zeroValue30
  t5 := Tryz.underlying5
  z5 := Tryz.sizeOf5
  i5 := by kernel_rfl }
open Go.RowKit Go.Lib in
theorem Tryz.bytes_Join_many (b o n c : Nat) (vs : List Value) (ls : List (List UInt8)) (sv : Value) (sep : List UInt8) (w : World) (hn : ls.length = n) (h2 : 2 ≤ n) (hP : Lib.PartsAt w ⟨b, o, none⟩ vs ls) (hcap : n ≤ c) (hS : Lib.HoldsBytes w sv sep) (hn47 : n ≤ 140737488355328) (hlen : Lib.lens ls + sep.length * (n - 1) ≤ 140737488355328) :
    Calls Tryz.prog 49 #[.slice (some ⟨b, o, none⟩) n c, sv] w fun e w' => ∃ v', e = .returned v' ∧ Lib.FreshBytes w.heap.size w' v' (Lib.join ls sep) ∧ Below w.heap.size w w' := Any.bytes_Join_many Tryz.laysSlJ14 b o n c vs ls sv sep w hn h2 hP hcap hS hn47 hlen
open Go.RowKit Go.Lib in
theorem Tryz.bytes_Join_none (p : Option Addr) (c : Nat) (sv : Value) (w : World) :
    Calls Tryz.prog 49 #[.slice p 0 c, sv] w fun e w' => e = .returned (.slice (some ⟨w.heap.size, 0, none⟩) 0 0) ∧ w' = w.alloc (.cells #[] 5) := Any.bytes_Join_none Tryz.laysSlJ14 p c sv w
open Go.RowKit Go.Lib in
theorem Tryz.bytes_Join_one (b o c : Nat) (ad0 : Addr) (c0 : Nat) (l0 : List UInt8) (sv : Value) (w : World) (hcell : w.cell? ⟨b, o, none⟩ = some (.slice (some ad0) l0.length c0)) (hc : ∀ (i : Nat) x, l0[i]? = some x → w.cell? (ad0.add i) = some (.int .u8 (x.toNat : Int))) (h0 : 0 < l0.length) (hs : l0.length ≤ 140737488355328) :
    Calls Tryz.prog 49 #[.slice (some ⟨b, o, none⟩) 1 c, sv] w fun e w' => ∃ v', e = .returned v' ∧ Lib.FreshBytes w.heap.size w' v' l0 ∧ Below w.heap.size w w' := Any.bytes_Join_one Tryz.laysSlJ14 b o c ad0 c0 l0 sv w hcell hc h0 hs
end Go.Proofs
namespace Go.Proofs.YtbkfhndmeljlcaaGreatDoor
open Go.RowKit
/-- r is a number of lo .. hi, and n itself where n is one. -/
def Into (n lo hi r : Int) : Prop := lo ≤ r ∧ r ≤ hi ∧ (lo ≤ n → n ≤ hi → r = n)
/-- What Within has done. -/
def WithinPost (n lo hi : Int) (w : World) (e : Ending) (w' : World) : Prop := ∃ r : Int, Into n lo hi r ∧ e = .returned (.int .i64 r) ∧ w = w'
/-- The number itself, or brought into lo .. hi. -/
def withinI (n lo hi : Int) : Int := if lo ≤ n ∧ n ≤ hi then n else if n.tmod (hi - lo + 1) < 0 then lo + (n.tmod (hi - lo + 1) + hi - lo + 1) else lo + n.tmod (hi - lo + 1)
theorem into_within (n lo hi : Int) (h1 : lo ≤ hi) : Into n lo hi (withinI n lo hi) := by
  have b1 := Int.tmod_lt_of_pos n (show 0 < hi - lo + 1 by omega)
  have b2 := Int.lt_tmod_of_pos n (show 0 < hi - lo + 1 by omega)
  unfold withinI
  split
  · rename_i h; exact ⟨h.1, h.2, fun _ _ => rfl⟩
  · rename_i h
    split
    · exact ⟨by omega, by omega, fun ha hb => absurd ⟨ha, hb⟩ h⟩
    · exact ⟨by omega, by omega, fun ha hb => absurd ⟨ha, hb⟩ h⟩
theorem ret_within {a b : Int} (h : a = b) : Ending.returned (.int .i64 a) = .returned (.int .i64 b) := by rw [h]
section
variable {w : World}
set_option maxHeartbeats 1000000 in
set_option maxRecDepth 100000 in
theorem within_is (n lo hi : Int) (h0 : -1000000 ≤ lo) (h1 : lo ≤ hi) (h2 : hi ≤ 1000000) (hn0 : -9223372036854775808 ≤ n) (hn1 : n ≤ 9223372036854775807) :
    Calls Tryz.prog 18 #[.int .i64 n, .int .i64 lo, .int .i64 hi] w fun e w' => e = .returned (.int .i64 (withinI n lo hi)) ∧ w = w' := by
  have b1 := Int.tmod_lt_of_pos n (show 0 < hi - lo + 1 by omega)
  have b2 := Int.lt_tmod_of_pos n (show 0 < hi - lo + 1 by omega)
  have hne : ((hi - lo + 1) == 0) = false := by simp; omega
  by_cases ha : lo ≤ n
  · by_cases hb : n ≤ hi
    · have HI := Lib.hid (show withinI n lo hi = n by unfold withinI; rw [if_pos ⟨ha, hb⟩])
      go_enter Tryz.func18, Tryz.ntmps18
      go_wp2_with fail
      go_ret
      exact ⟨ret_within HI.out.symm, rfl⟩
    · by_cases hm : n.tmod (hi - lo + 1) < 0
      · have HI := Lib.hid (show withinI n lo hi = lo + (n.tmod (hi - lo + 1) + hi - lo + 1) by unfold withinI; rw [if_neg (fun h => hb h.2), if_pos hm])
        go_enter Tryz.func18, Tryz.ntmps18
        go_wp2_with fail
        go_ret
        exact ⟨ret_within HI.out.symm, rfl⟩
      · have HI := Lib.hid (show withinI n lo hi = lo + n.tmod (hi - lo + 1) by unfold withinI; rw [if_neg (fun h => hb h.2), if_neg hm])
        go_enter Tryz.func18, Tryz.ntmps18
        go_wp2_with fail
        go_ret
        exact ⟨ret_within HI.out.symm, rfl⟩
  · have hd : decide (lo ≤ n) = false := by simp; omega
    by_cases hm : n.tmod (hi - lo + 1) < 0
    · have HI := Lib.hid (show withinI n lo hi = lo + (n.tmod (hi - lo + 1) + hi - lo + 1) by unfold withinI; rw [if_neg (fun h => ha h.1), if_pos hm])
      go_enter Tryz.func18, Tryz.ntmps18
      go_wp2_with fail
      go_ret
      exact ⟨ret_within HI.out.symm, rfl⟩
    · have HI := Lib.hid (show withinI n lo hi = lo + n.tmod (hi - lo + 1) by unfold withinI; rw [if_neg (fun h => ha h.1), if_neg hm])
      go_enter Tryz.func18, Tryz.ntmps18
      go_wp2_with fail
      go_ret
      exact ⟨ret_within HI.out.symm, rfl⟩
/-- A number of lo .. hi. -/
theorem within_any (n lo hi : Int) (h0 : -1000000 ≤ lo) (h1 : lo ≤ hi) (h2 : hi ≤ 1000000) (hn0 : -9223372036854775808 ≤ n) (hn1 : n ≤ 9223372036854775807) :
    Calls Tryz.prog 18 #[.int .i64 n, .int .i64 lo, .int .i64 hi] w (WithinPost n lo hi w) :=
  (within_is n lo hi h0 h1 h2 hn0 hn1).mono fun _ _ ⟨h1', h2'⟩ => ⟨_, into_within n lo hi h1, h1', h2'⟩
end
end Go.Proofs.YtbkfhndmeljlcaaGreatDoor
namespace Go.Proofs.YtbkfhndmeljlcaaGreatDoor
open Go.RowKit
/-- A tape as it lies in memory: its numbers, where it stands. -/
structure Tp (w : World) (p : Nat) (A : Option Addr) (n c : Nat) (l : List Int) (at_ : Nat) : Prop where
  rec_ : Whole w p 66 [.slice A n c, .int .i64 (at_ : Int)]
  len : l.length = n
  src : Src w A (nms l)
  spot : 0 < n → ∀ ad, A = some ad → ad.spot = none ∧ ad.block < p
  rng : ∀ x ∈ l, -9223372036854775808 ≤ x ∧ x ≤ 9223372036854775807
  le : at_ ≤ n
  max : n ≤ 9223372036854775807
theorem nms_at (l : List Int) (i : Nat) (h : i < l.length) : (nms l)[i]? = some (.int .i64 l[i]) := by simp [nms, h]
section
variable {w : World}
set_option maxHeartbeats 1000000 in
set_option maxRecDepth 100000 in
theorem within_big (n lo hi : Int) (h0 : -1000000 ≤ lo) (h1 : lo ≤ hi) (h2 : hi ≤ 2000000000) (hn0 : -9223372036854775808 ≤ n) (hn1 : n ≤ 9223372036854775807) :
    Calls Tryz.prog 18 #[.int .i64 n, .int .i64 lo, .int .i64 hi] w fun e w' => e = .returned (.int .i64 (withinI n lo hi)) ∧ w = w' := by
  have b1 := Int.tmod_lt_of_pos n (show 0 < hi - lo + 1 by omega)
  have b2 := Int.lt_tmod_of_pos n (show 0 < hi - lo + 1 by omega)
  have hne : ((hi - lo + 1) == 0) = false := by simp; omega
  by_cases ha : lo ≤ n
  · by_cases hb : n ≤ hi
    · have HI := Lib.hid (show withinI n lo hi = n by unfold withinI; rw [if_pos ⟨ha, hb⟩])
      go_enter Tryz.func18, Tryz.ntmps18
      go_wp2_with fail
      go_ret
      exact ⟨ret_within HI.out.symm, rfl⟩
    · by_cases hm : n.tmod (hi - lo + 1) < 0
      · have HI := Lib.hid (show withinI n lo hi = lo + (n.tmod (hi - lo + 1) + hi - lo + 1) by unfold withinI; rw [if_neg (fun h => hb h.2), if_pos hm])
        go_enter Tryz.func18, Tryz.ntmps18
        go_wp2_with fail
        go_ret
        exact ⟨ret_within HI.out.symm, rfl⟩
      · have HI := Lib.hid (show withinI n lo hi = lo + n.tmod (hi - lo + 1) by unfold withinI; rw [if_neg (fun h => hb h.2), if_neg hm])
        go_enter Tryz.func18, Tryz.ntmps18
        go_wp2_with fail
        go_ret
        exact ⟨ret_within HI.out.symm, rfl⟩
  · have hd : decide (lo ≤ n) = false := by simp; omega
    by_cases hm : n.tmod (hi - lo + 1) < 0
    · have HI := Lib.hid (show withinI n lo hi = lo + (n.tmod (hi - lo + 1) + hi - lo + 1) by unfold withinI; rw [if_neg (fun h => ha h.1), if_pos hm])
      go_enter Tryz.func18, Tryz.ntmps18
      go_wp2_with fail
      go_ret
      exact ⟨ret_within HI.out.symm, rfl⟩
    · have HI := Lib.hid (show withinI n lo hi = lo + n.tmod (hi - lo + 1) by unfold withinI; rw [if_neg (fun h => ha h.1), if_neg hm])
      go_enter Tryz.func18, Tryz.ntmps18
      go_wp2_with fail
      go_ret
      exact ⟨ret_within HI.out.symm, rfl⟩
end
section
variable {w w' : World} {p n c at_ : Nat} {A : Option Addr} {l : List Int}
theorem Tp.keep (h : Tp w p A n c l at_) (hc : Chg [] w w') : Tp w' p A n c l at_ := ⟨h.rec_.keep hc, h.len, h.src.keep hc, h.spot, h.rng, h.le, h.max⟩
theorem Tp.other (h : Tp w p A n c l at_) {g j : Nat} (hg : g ≠ p) (hA : ∀ ad, A = some ad → 0 < n → ad.block ≠ g) (u : Value) : Tp (w.setCell ⟨g, j, none⟩ u) p A n c l at_ := by
  refine ⟨h.rec_.far (by simpa using Ne.symm hg) u, h.len, fun hp => ?_, h.spot, h.rng, h.le, h.max⟩
  obtain ⟨ad, e, hb, hy⟩ := h.src hp
  have hn : 0 < n := by have := h.len; simp [nms] at hp; omega
  refine ⟨ad, e, by simpa [World.setCell] using hb, fun i v hi => ?_⟩
  have h1 := hy i v hi
  have e2 : (ad.add i).block = ad.block := by unfold Addr.add; split <;> rfl
  rw [← h1]
  exact World.cell?_of_block (w := w) (Below.heap_setCell w _ u _ (by rw [e2]; exact hA ad e hn))
theorem Tp.grown {B2 m k2 : Nat} {e2 : TypeId} {v2 : Value} {ys : List Value} (h : Tp w p A n c l at_) (h2 : w.ownsRow B2 e2 k2 v2 m ys) (hg : w.grownBy w' v2.ownBlock) (hne : 66 ≠ e2) (hB : p < B2) : Tp w' p A n c l at_ := by
  refine ⟨whole_grown h.rec_ h2 hne hg, h.len, fun hp => ?_, h.spot, h.rng, h.le, h.max⟩
  obtain ⟨ad, e, hb, hy⟩ := h.src hp
  have hn : 0 < n := by have := h.len; simp [nms] at hp; omega
  refine ⟨ad, e, Nat.lt_of_lt_of_le hb hg.size, fun i v hi => ?_⟩
  have h1 := hy i v hi
  have e3 : (ad.add i).block = ad.block := by unfold Addr.add; split <;> rfl
  rw [← h1]
  refine World.cell?_of_block (w := w) (hg.block _ (by rw [e3]; exact hb) (fun hc => ?_))
  rw [e3] at hc
  have := (h2.lt _ hc.symm).1
  have := (h.spot hn ad e).2
  omega
theorem chg_grown2 {T : List Nat} {a w w' : World} {row : Option Nat} (h : Chg T a w) (hg : w.grownBy w' row) (hr : ∀ g, row = some g → a.heap.size ≤ g) : Chg T a w' :=
  h.then_ (T' := row.toList) (Chg.of_grown hg fun g e _ => by simp [e]) fun i hi hlt => by
    have := hr i (by simpa using hi)
    omega
theorem Tp.lt (h : Tp w p A n c l at_) : p < w.heap.size := h.rec_.lt
/-- A number of 0 .. m - 1, and the tape one further. -/
def NextPost (w : World) (p : Nat) (A : Option Addr) (n c : Nat) (l : List Int) (m : Nat) (e : Ending) (w' : World) : Prop :=
  ∃ (r a' : Nat), r < m ∧ e = .returned (.int .i64 (r : Int)) ∧ Tp w' p A n c l a' ∧ Chg [p] w w'
set_option maxHeartbeats 4000000 in
set_option maxRecDepth 100000 in
theorem next_any (h : Tp w p A n c l at_) (m : Nat) (hm : 0 < m) (hm2 : m ≤ 1000000) :
    Calls Tryz.prog 33 #[.pointer (some ⟨p, 0, none⟩), .int .i64 (m : Int)] w (NextPost w p A n c l m) := by
  have c0 := h.rec_.cell 0
  have c1 := h.rec_.cell 1
  have f1 := h.rec_.frozen 1
  have hle := h.le
  have hmax := h.max
  have H := Lib.hid h
  clear h
  have hmd : ¬ (m : Int) < 1 := by omega
  have hmd1 : decide ((m : Int) < 1) = false := by simp; omega
  by_cases hlt : at_ < n
  · have hd1 : decide (n ≤ at_) = false := by simp; omega
    have hd2 : decide ((n : Int) ≤ (at_ : Int)) = false := by simp; omega
    obtain ⟨ad, rfl, _, hx⟩ := H.out.src (by simp [nms]; have := H.out.len; omega)
    have hx1 := hx at_ _ (nms_at l at_ (by have := H.out.len; omega))
    obtain ⟨b, o, s⟩ := ad
    obtain ⟨hs, hbp⟩ := H.out.spot (by omega) _ rfl
    simp only at hs hbp
    subst hs
    rw [add_plain] at hx1
    have hal : at_ < l.length := by have := H.out.len; omega
    have hrz := H.out.rng l[at_] (List.getElem_mem hal)
    generalize l[at_] = z at hx1 hrz
    obtain ⟨hz0, hz1⟩ := hrz
    clear hx
    go_enter Tryz.func33, Tryz.ntmps33
    go_wp2_with fail
    go_quiet (fail)
    go_wp2_with fail
    have hR3 := ((H.out.rec_.keep ((Chg.refl [] w).drewN nq)).set_ 1 (.int .i64 ((at_ : Int) + 1)))
    have hc3 : Chg [p] w ((w.drewN nq).setCell ⟨p, 1, none⟩ (.int .i64 ((at_ : Int) + 1))) := ((Chg.refl [p] w).drewN nq).setCell (by simp) _
    generalize (w.drewN nq).setCell ⟨p, 1, none⟩ (.int .i64 ((at_ : Int) + 1)) = w3 at hR3 hc3 ⊢
    have hs3 : Src w3 (some ⟨b, o, none⟩) (nms l) := fun hp => by
      obtain ⟨ad, e, hb, hy⟩ := H.out.src hp
      injection e with e
      subst e
      refine ⟨_, rfl, Nat.lt_of_lt_of_le hb hc3.size, fun j v hj => ?_⟩
      have := hy j v hj
      rw [add_plain] at this ⊢
      rw [← this]
      exact World.cell?_of_block (w := w) (hc3.block b hb (by simp; omega))
    have hT3 : Tp w3 p (some ⟨b, o, none⟩) n c l (at_ + 1) := ⟨by simpa using hR3, H.out.len, hs3, H.out.spot, H.out.rng, by omega, H.out.max⟩
    have k0 := hT3.rec_.cell 0
    have k1 := hT3.rec_.cell 1
    have k2 : w3.cell? ⟨b, o + at_, none⟩ = some (.int .i64 z) := by
      rw [← hx1]
      exact World.cell?_of_block (w := w) (hc3.block b (block_lt_of_cell hx1) (by simp; omega))
    clear hx1 c0 c1 f1 hR3 hs3
    obtain ⟨q, hq, hq2⟩ : ∃ q : Nat, withinI z 0 1073741824 = (q : Int) ∧ q ≤ 1073741824 := by
      have hin := into_within z 0 1073741824 (by omega)
      exact ⟨(withinI z 0 1073741824).toNat, by have := hin.1; omega, by have h1 := hin.1; have h2 := hin.2.1; omega⟩
    have hw : ∀ W : World, Calls Tryz.prog 18 #[.int .i64 z, .int .i64 0, .int .i64 1073741824] W fun e w' => e = .returned (.int .i64 (q : Int)) ∧ w' = W := fun W =>
      (within_big z 0 1073741824 (by omega) (by omega) (by omega) hz0 hz1).mono fun _ _ ⟨h1, h2⟩ => ⟨by rw [h1, hq], h2.symm⟩
    have HT := Lib.hid hT3
    have HW := Lib.hid hw
    have HC := Lib.hid hc3
    have hsub : IntKind.i64.wrap (at_ : Int) = (at_ : Int) := IntWalk.i64_in _ (by omega)
    have hatn : (at_ : Int).toNat = at_ := Int.toNat_natCast _
    have hat0 : (0 : Int) ≤ (at_ : Int) := by omega
    have htm : (q : Int).tmod (m : Int) = ((q % m : Nat) : Int) := rfl
    have hlast : q % m < m := Nat.mod_lt _ hm
    have hatI : (at_ : Int) < (n : Int) := by omega
    have hm0 : ((m : Int) == 0) = false := by simp; omega
    clear hT3 hw hc3 hq H
    go_quiet ((go_at_call 18; exact Calls.quiet_of_same (HW.out _)))
    go_wp2_with fail
    go_ret
    exact ⟨q % m, at_ + 1, hlast, rfl, HT.out.keep ((Chg.refl _ _).drewN _), HC.out.drewN _⟩
  · have hd1 : decide (n ≤ at_) = true := by simp; omega
    have hd2 : decide ((n : Int) ≤ (at_ : Int)) = true := by simp; omega
    go_enter Tryz.func33, Tryz.ntmps33
    go_wp2_with fail
    go_quiet (fail)
    go_wp2_with fail
    go_ret
    exact ⟨0, at_, hm, rfl, H.out.keep ((Chg.refl _ _).drewN _), (Chg.refl _ _).drewN _⟩
end
end Go.Proofs.YtbkfhndmeljlcaaGreatDoor
