/-
  PN: Put, BsMore, Delta, Tape, SumB.
-/
import Derived.Test.YtbkfhndmeljlcaaGreatDoorZPN1
import Derived.Test.YtbkfhndmeljlcaaGreatDoorZPN3
import Derived.Test.YtbkfhndmeljlcaaGreatDoorZPN4
import Derived.Test.YtbkfhndmeljlcaaGreatDoorChecked
import Derived.Deep.QuietTactic
import Derived.BigQuiet
import Derived.IntWalk
namespace Go.Proofs.YtbkfhndmeljlcaaGreatDoor
open Go.RowKit
theorem info_byte : (Tryz.prog.info? 5).map (fun i => (i.zero, i.size, i.bytes)) = some (some (.int .u8 0), 1, 1) := by kernel_rfl
/-- A number's four bytes. -/
def be4 (k : Nat) : List UInt8 := [UInt8.ofNat (k / 16777216), UInt8.ofNat (k / 65536), UInt8.ofNat (k / 256), UInt8.ofNat k]
theorem be4_len (k : Nat) : (be4 k).length = 4 := rfl
theorem bts_be4 (k : Nat) (hk : k < 4294967296) : bts (be4 k) = [.int .u8 ((k : Int) / 16777216), .int .u8 ((k : Int) / 65536 % 256), .int .u8 ((k : Int) / 256 % 256), .int .u8 ((k : Int) % 256)] := by
  have h : ∀ x : Nat, (((UInt8.ofNat x).toNat : Nat) : Int) = ((x % 256 : Nat) : Int) := fun x => by rw [UInt8.toNat_ofNat']
  have h2 : ((k / 16777216 % 256 : Nat) : Int) = (k : Int) / 16777216 := by omega
  simp only [bts, be4, List.map_cons, List.map_nil, B8, h, h2, Int.natCast_emod, Int.natCast_ediv, Int.cast_ofNat_Int]

/-- What a call that makes bytes answers. -/
def BytesPost (w : World) (l : List UInt8) (e : Ending) (w' : World) : Prop := ∃ v, e = .returned v ∧ w'.ownsRow w.heap.size 5 1 v l.length (bts l) ∧ Chg [] w w'

section
variable {w : World} {A : Option Addr} {n c : Nat} {l : List UInt8}
set_option maxHeartbeats 400000 in
set_option maxRecDepth 100000 in
theorem put_any (k : Nat) (hk : k < 4294967296) (hl : l.length = n) (hs : Src w A (bts l)) (hn : n + 4 ≤ 140737488355328) :
    Calls Tryz.prog 72 #[.slice A n c, .int .u32 (k : Int)] w (BytesPost w (l ++ be4 k)) := by
  obtain ⟨i, hi, hz, hs1, hb⟩ := info_parts info_byte
  have hmk : ∀ W : World, (Instr.makeSlice 33 (.int .i64 0) (.int .i64 ((n : Int) + 4))).run Tryz.prog W = .ok (.slice (some ⟨W.heap.size, 0, none⟩) 0 (n + 4)) (W.alloc (.cells (bts (zeros (n + 4))).toArray 5)) := by
    intro W
    rw [bts_zeros]
    have := run_make0 (P := Tryz.prog) 33 5 i _ rfl Tryz.underlying33 hi hz hs1 (n + 4) (by rw [hb]; omega) (by omega) W
    simpa using this
  have ho0 : (w.alloc (.cells (bts (zeros (n + 4))).toArray 5)).ownsRow w.heap.size 5 1 (.slice (some ⟨w.heap.size, 0, none⟩) 0 (n + 4)) 0 [] := by
    have := own_of_whole (B := w.heap.size) (n := 0) (c := n + 4) (Whole.new w 5 (bts (zeros (n + 4)))) (Nat.le_refl _) (by simp [bts_len, zeros_len]) (by omega) (by unfold maxLen; omega)
    simpa using this
  have hlb := Lib.hid (show (bts l).length = n by rw [bts_len, hl])
  have hm1 := Lib.hid (show 0 + n ≤ maxLen by unfold maxLen; omega)
  have hm2 := Lib.hid (show n + 4 ≤ maxLen by unfold maxLen; omega)
  have hm3 := Lib.hid (show (0 + n) * 1 ≤ 140737488355328 by omega)
  have hm4 := Lib.hid (show (n + 4) * 1 ≤ 140737488355328 by omega)
  have hbe := Lib.hid (bts_be4 k hk)
  go_enter Tryz.func72, Tryz.ntmps72
  go_wp2_with (first
    | (at_builtin
       refine wpList_append_src rfl (.tmp 10) (.tmp 11) 33 rfl w.heap.size 5 i _ 1 Tryz.underlying33 hi hz hs1 hb cells_u8 (.slice (some ⟨w.heap.size, 0, none⟩) 0 (n + 4)) 0 [] rfl ho0 A n c (bts l) rfl hlb.out (hs.keep ((Chg.refl _ _).alloc _)) (bts_one l) hm1.out hm3.out (by simp) ?_
       intro v1 w1 ho1 hg1 _
       have hc1 : Chg [] w w1 := ((Chg.refl [] w).alloc _).own ho0 (Nat.le_refl _) hg1
       clear hg1
       simp only [Nat.zero_add, List.nil_append] at ho1
       obtain ⟨A1, c1, rfl, _⟩ := own_slice ho1)
    | (at_builtin
       refine wpList_append_src rfl (.tmp 13) (.tmp 25) 33 rfl w.heap.size 5 i _ 1 Tryz.underlying33 hi hz hs1 hb cells_u8 (.slice A1 n c1) n (bts l) rfl (own_keep ho1 ((Chg.refl _ _).alloc _)) (some ⟨w1.heap.size, 0, none⟩) 4 4 _ rfl rfl (Src.of_all (Whole.new w1 5 (_ :: _ :: _ :: _ :: [])))
         (by rw [← hbe.out]; exact bts_one _) hm2.out hm4.out (by have := hc1.size; simp; omega) ?_
       intro v2 w2 ho2 hg2 _
       have hc2 : Chg [] w w2 := (hc1.alloc _).own (own_keep ho1 ((Chg.refl _ _).alloc _)) (Nat.le_refl _) hg2
       clear hg2))
  go_ret
  refine ⟨v2, rfl, ?_, hc2⟩
  rw [← hbe.out] at ho2
  have e1 : (l ++ be4 k).length = n + 4 := by rw [List.length_append, be4_len, hl]
  have e2 : bts (l ++ be4 k) = bts l ++ bts (be4 k) := by simp [bts]
  rw [e1, e2]
  exact ho2

end
end Go.Proofs.YtbkfhndmeljlcaaGreatDoor
namespace Go.Proofs.YtbkfhndmeljlcaaGreatDoor
open Go.RowKit
section
variable {w : World} {A : Option Addr} {n c : Nat} {l : List UInt8}
theorem Bs.take (h : Bs w A n c l) {m : Nat} (hm : m ≤ n) : Bs w A m c (l.take m) :=
  ⟨by rw [List.length_take, h.len]; omega, src_pre m h.src, Nat.le_trans hm h.cap, h.max, fun h0 => h.spot (by omega)⟩
where
  src_pre (m : Nat) {w : World} {A : Option Addr} {l : List UInt8} (hs : Src w A (bts l)) : Src w A (bts (l.take m)) := fun hp => by
    obtain ⟨ad, e, hb, hx⟩ := hs (by simp [bts] at hp ⊢; omega)
    refine ⟨ad, e, hb, fun j v hj => hx j v ?_⟩
    unfold bts at hj ⊢
    rw [List.map_take, List.getElem?_take] at hj
    split at hj
    · exact hj
    · cases hj

end
theorem bts_app (l m : List UInt8) : bts (l ++ m) = bts l ++ bts m := by simp [bts]
/-- An own row that is not empty: its block, whole. -/
theorem own_whole {w : World} {B n : Nat} {e : TypeId} {v : Value} {xs : List Value} (h : w.ownsRow B e 1 v n xs) (hn : 0 < n) :
    ∃ g r, v = .slice (some ⟨g, 0, none⟩) n (n + r.length) ∧ B ≤ g ∧ Whole w g e (xs ++ r) ∧ n + r.length ≤ maxLen := by
  rcases h.2 with ⟨_, h0⟩ | ⟨g, cap, cur, rfl, hb, hg, hc, hm, hs, ht⟩
  · omega
  · have hl : cur.toList.length = cap := by rw [Array.length_toList]; omega
    have h1 : n * 1 = n := Nat.mul_one n
    rw [h1] at ht
    have e1 : cap = n + (cur.toList.drop n).length := by rw [List.length_drop, hl]; omega
    refine ⟨g, cur.toList.drop n, by rw [← e1], hb, ?_, by omega⟩
    unfold Whole
    rw [← ht, List.take_append_drop]
    exact hg

end Go.Proofs.YtbkfhndmeljlcaaGreatDoor
namespace Go.Proofs.YtbkfhndmeljlcaaGreatDoor
open Go.RowKit
/-- A change as it lies in memory: two cells, one of them a slice. -/
structure ChV where
  page : Int
  bA : Option Addr
  bn : Nat
  bc : Nat
  B : List UInt8
def chC (a : ChV) : List Value := [.int .i64 a.page, .slice a.bA a.bn a.bc]
structure ChOk (w : World) (a : ChV) : Prop where
  p0 : -9223372036854775808 ≤ a.page
  p1 : a.page ≤ 9223372036854775807
  bs : Bs w a.bA a.bn a.bc a.B
/-- The slice at A reads as the changes l. -/
structure Chs (w : World) (A : Option Addr) (l : List ChV) : Prop where
  cells : 0 < l.length → ∃ g o, A = some ⟨g, o, none⟩ ∧ g < w.heap.size ∧ ∀ k a, l[k]? = some a → w.cell? ⟨g, o + k * 2, none⟩ = some (.int .i64 a.page) ∧ w.cell? ⟨g, o + k * 2 + 1, none⟩ = some (.slice a.bA a.bn a.bc)
  ok : ∀ a ∈ l, ChOk w a
theorem ChOk.keep {w w' : World} {a : ChV} (h : ChOk w a) (hc : Chg [] w w') : ChOk w' a := { h with bs := h.bs.keep hc }
theorem Chs.nil (w : World) (A : Option Addr) : Chs w A [] := ⟨fun h => absurd h (by simp), fun a ha => by simp at ha⟩
theorem Chs.keep {w w' : World} {A : Option Addr} {l : List ChV} (h : Chs w A l) (hc : Chg [] w w') : Chs w' A l := by
  refine ⟨fun h0 => ?_, fun a ha => (h.ok a ha).keep hc⟩
  obtain ⟨g, o, e, hg, hx⟩ := h.cells h0
  refine ⟨g, o, e, Nat.lt_of_lt_of_le hg hc.size, fun k a ha => ?_⟩
  obtain ⟨h1, h2⟩ := hx k a ha
  have hk : ∀ j, w'.cell? ⟨g, j, none⟩ = w.cell? ⟨g, j, none⟩ := fun j => World.cell?_of_block (w := w) (hc.block g hg (by simp))
  exact ⟨(hk _).trans h1, (hk _).trans h2⟩
end Go.Proofs.YtbkfhndmeljlcaaGreatDoor
namespace Go.Proofs.YtbkfhndmeljlcaaGreatDoor
open Go.RowKit
/-- A tape as it lies in memory: its numbers, where it stands. -/
structure Tp (w : World) (p : Nat) (A : Option Addr) (n c : Nat) (l : List Int) (at_ : Nat) : Prop where
  rec_ : Whole w p 66 [.slice A n c, .int .i64 (at_ : Int)]
  len : l.length = n
  src : Src w A (nms l)
  spot : 0 < n → ∀ ad, A = some ad → ad.spot = none ∧ ad.block < p
  rng : ∀ x ∈ l, -9223372036854775808 ≤ x ∧ x ≤ 9223372036854775807
  le : at_ ≤ n
  max : n ≤ 9223372036854775807
theorem nms_at (l : List Int) (i : Nat) (h : i < l.length) : (nms l)[i]? = some (.int .i64 l[i]) := by simp [nms, h]
section
variable {w : World}
set_option maxHeartbeats 1000000 in
set_option maxRecDepth 100000 in
theorem within_big (n lo hi : Int) (h0 : -1000000 ≤ lo) (h1 : lo ≤ hi) (h2 : hi ≤ 2000000000) (hn0 : -9223372036854775808 ≤ n) (hn1 : n ≤ 9223372036854775807) :
    Calls Tryz.prog 18 #[.int .i64 n, .int .i64 lo, .int .i64 hi] w fun e w' => e = .returned (.int .i64 (withinI n lo hi)) ∧ w = w' := by
  have b1 := Int.tmod_lt_of_pos n (show 0 < hi - lo + 1 by omega)
  have b2 := Int.lt_tmod_of_pos n (show 0 < hi - lo + 1 by omega)
  have hne : ((hi - lo + 1) == 0) = false := by simp; omega
  by_cases ha : lo ≤ n
  · by_cases hb : n ≤ hi
    · have HI := Lib.hid (show withinI n lo hi = n by unfold withinI; rw [if_pos ⟨ha, hb⟩])
      go_enter Tryz.func18, Tryz.ntmps18
      go_wp2_with fail
      go_ret
      exact ⟨ret_within HI.out.symm, rfl⟩
    · by_cases hm : n.tmod (hi - lo + 1) < 0
      · have HI := Lib.hid (show withinI n lo hi = lo + (n.tmod (hi - lo + 1) + hi - lo + 1) by unfold withinI; rw [if_neg (fun h => hb h.2), if_pos hm])
        go_enter Tryz.func18, Tryz.ntmps18
        go_wp2_with fail
        go_ret
        exact ⟨ret_within HI.out.symm, rfl⟩
      · have HI := Lib.hid (show withinI n lo hi = lo + n.tmod (hi - lo + 1) by unfold withinI; rw [if_neg (fun h => hb h.2), if_neg hm])
        go_enter Tryz.func18, Tryz.ntmps18
        go_wp2_with fail
        go_ret
        exact ⟨ret_within HI.out.symm, rfl⟩
  · have hd : decide (lo ≤ n) = false := by simp; omega
    by_cases hm : n.tmod (hi - lo + 1) < 0
    · have HI := Lib.hid (show withinI n lo hi = lo + (n.tmod (hi - lo + 1) + hi - lo + 1) by unfold withinI; rw [if_neg (fun h => ha h.1), if_pos hm])
      go_enter Tryz.func18, Tryz.ntmps18
      go_wp2_with fail
      go_ret
      exact ⟨ret_within HI.out.symm, rfl⟩
    · have HI := Lib.hid (show withinI n lo hi = lo + n.tmod (hi - lo + 1) by unfold withinI; rw [if_neg (fun h => ha h.1), if_neg hm])
      go_enter Tryz.func18, Tryz.ntmps18
      go_wp2_with fail
      go_ret
      exact ⟨ret_within HI.out.symm, rfl⟩
end
section
variable {w w' : World} {p n c at_ : Nat} {A : Option Addr} {l : List Int}
theorem Tp.keep (h : Tp w p A n c l at_) (hc : Chg [] w w') : Tp w' p A n c l at_ := ⟨h.rec_.keep hc, h.len, h.src.keep hc, h.spot, h.rng, h.le, h.max⟩
theorem Tp.other (h : Tp w p A n c l at_) {g j : Nat} (hg : g ≠ p) (hA : ∀ ad, A = some ad → 0 < n → ad.block ≠ g) (u : Value) : Tp (w.setCell ⟨g, j, none⟩ u) p A n c l at_ := by
  refine ⟨h.rec_.far (by simpa using Ne.symm hg) u, h.len, fun hp => ?_, h.spot, h.rng, h.le, h.max⟩
  obtain ⟨ad, e, hb, hy⟩ := h.src hp
  have hn : 0 < n := by have := h.len; simp [nms] at hp; omega
  refine ⟨ad, e, by simpa [World.setCell] using hb, fun i v hi => ?_⟩
  have h1 := hy i v hi
  have e2 : (ad.add i).block = ad.block := by unfold Addr.add; split <;> rfl
  rw [← h1]
  exact World.cell?_of_block (w := w) (Below.heap_setCell w _ u _ (by rw [e2]; exact hA ad e hn))
theorem Tp.grown {B2 m k2 : Nat} {e2 : TypeId} {v2 : Value} {ys : List Value} (h : Tp w p A n c l at_) (h2 : w.ownsRow B2 e2 k2 v2 m ys) (hg : w.grownBy w' v2.ownBlock) (hne : 66 ≠ e2) (hB : p < B2) : Tp w' p A n c l at_ := by
  refine ⟨whole_grown h.rec_ h2 hne hg, h.len, fun hp => ?_, h.spot, h.rng, h.le, h.max⟩
  obtain ⟨ad, e, hb, hy⟩ := h.src hp
  have hn : 0 < n := by have := h.len; simp [nms] at hp; omega
  refine ⟨ad, e, Nat.lt_of_lt_of_le hb hg.size, fun i v hi => ?_⟩
  have h1 := hy i v hi
  have e3 : (ad.add i).block = ad.block := by unfold Addr.add; split <;> rfl
  rw [← h1]
  refine World.cell?_of_block (w := w) (hg.block _ (by rw [e3]; exact hb) (fun hc => ?_))
  rw [e3] at hc
  have := (h2.lt _ hc.symm).1
  have := (h.spot hn ad e).2
  omega
theorem chg_grown2 {T : List Nat} {a w w' : World} {row : Option Nat} (h : Chg T a w) (hg : w.grownBy w' row) (hr : ∀ g, row = some g → a.heap.size ≤ g) : Chg T a w' :=
  h.then_ (T' := row.toList) (Chg.of_grown hg fun g e _ => by simp [e]) fun i hi hlt => by
    have := hr i (by simpa using hi)
    omega
theorem Tp.lt (h : Tp w p A n c l at_) : p < w.heap.size := h.rec_.lt
/-- A number of 0 .. m - 1, and the tape one further. -/
def NextPost (w : World) (p : Nat) (A : Option Addr) (n c : Nat) (l : List Int) (m : Nat) (e : Ending) (w' : World) : Prop :=
  ∃ (r a' : Nat), r < m ∧ e = .returned (.int .i64 (r : Int)) ∧ Tp w' p A n c l a' ∧ Chg [p] w w'
set_option maxHeartbeats 4000000 in
set_option maxRecDepth 100000 in
theorem next_any (h : Tp w p A n c l at_) (m : Nat) (hm : 0 < m) (hm2 : m ≤ 1000000) :
    Calls Tryz.prog 33 #[.pointer (some ⟨p, 0, none⟩), .int .i64 (m : Int)] w (NextPost w p A n c l m) := by
  have c0 := h.rec_.cell 0
  have c1 := h.rec_.cell 1
  have f1 := h.rec_.frozen 1
  have hle := h.le
  have hmax := h.max
  have H := Lib.hid h
  clear h
  have hmd : ¬ (m : Int) < 1 := by omega
  have hmd1 : decide ((m : Int) < 1) = false := by simp; omega
  by_cases hlt : at_ < n
  · have hd1 : decide (n ≤ at_) = false := by simp; omega
    have hd2 : decide ((n : Int) ≤ (at_ : Int)) = false := by simp; omega
    obtain ⟨ad, rfl, _, hx⟩ := H.out.src (by simp [nms]; have := H.out.len; omega)
    have hx1 := hx at_ _ (nms_at l at_ (by have := H.out.len; omega))
    obtain ⟨b, o, s⟩ := ad
    obtain ⟨hs, hbp⟩ := H.out.spot (by omega) _ rfl
    simp only at hs hbp
    subst hs
    rw [add_plain] at hx1
    have hal : at_ < l.length := by have := H.out.len; omega
    have hrz := H.out.rng l[at_] (List.getElem_mem hal)
    generalize l[at_] = z at hx1 hrz
    obtain ⟨hz0, hz1⟩ := hrz
    clear hx
    go_enter Tryz.func33, Tryz.ntmps33
    go_wp2_with fail
    go_quiet (fail)
    go_wp2_with fail
    have hR3 := ((H.out.rec_.keep ((Chg.refl [] w).drewN nq)).set_ 1 (.int .i64 ((at_ : Int) + 1)))
    have hc3 : Chg [p] w ((w.drewN nq).setCell ⟨p, 1, none⟩ (.int .i64 ((at_ : Int) + 1))) := ((Chg.refl [p] w).drewN nq).setCell (by simp) _
    generalize (w.drewN nq).setCell ⟨p, 1, none⟩ (.int .i64 ((at_ : Int) + 1)) = w3 at hR3 hc3 ⊢
    have hs3 : Src w3 (some ⟨b, o, none⟩) (nms l) := fun hp => by
      obtain ⟨ad, e, hb, hy⟩ := H.out.src hp
      injection e with e
      subst e
      refine ⟨_, rfl, Nat.lt_of_lt_of_le hb hc3.size, fun j v hj => ?_⟩
      have := hy j v hj
      rw [add_plain] at this ⊢
      rw [← this]
      exact World.cell?_of_block (w := w) (hc3.block b hb (by simp; omega))
    have hT3 : Tp w3 p (some ⟨b, o, none⟩) n c l (at_ + 1) := ⟨by simpa using hR3, H.out.len, hs3, H.out.spot, H.out.rng, by omega, H.out.max⟩
    have k0 := hT3.rec_.cell 0
    have k1 := hT3.rec_.cell 1
    have k2 : w3.cell? ⟨b, o + at_, none⟩ = some (.int .i64 z) := by
      rw [← hx1]
      exact World.cell?_of_block (w := w) (hc3.block b (block_lt_of_cell hx1) (by simp; omega))
    clear hx1 c0 c1 f1 hR3 hs3
    obtain ⟨q, hq, hq2⟩ : ∃ q : Nat, withinI z 0 1073741824 = (q : Int) ∧ q ≤ 1073741824 := by
      have hin := into_within z 0 1073741824 (by omega)
      exact ⟨(withinI z 0 1073741824).toNat, by have := hin.1; omega, by have h1 := hin.1; have h2 := hin.2.1; omega⟩
    have hw : ∀ W : World, Calls Tryz.prog 18 #[.int .i64 z, .int .i64 0, .int .i64 1073741824] W fun e w' => e = .returned (.int .i64 (q : Int)) ∧ w' = W := fun W =>
      (within_big z 0 1073741824 (by omega) (by omega) (by omega) hz0 hz1).mono fun _ _ ⟨h1, h2⟩ => ⟨by rw [h1, hq], h2.symm⟩
    have HT := Lib.hid hT3
    have HW := Lib.hid hw
    have HC := Lib.hid hc3
    have hsub : IntKind.i64.wrap (at_ : Int) = (at_ : Int) := IntWalk.i64_in _ (by omega)
    have hatn : (at_ : Int).toNat = at_ := Int.toNat_natCast _
    have hat0 : (0 : Int) ≤ (at_ : Int) := by omega
    have htm : (q : Int).tmod (m : Int) = ((q % m : Nat) : Int) := rfl
    have hlast : q % m < m := Nat.mod_lt _ hm
    have hatI : (at_ : Int) < (n : Int) := by omega
    have hm0 : ((m : Int) == 0) = false := by simp; omega
    clear hT3 hw hc3 hq H
    go_quiet ((go_at_call 18; exact Calls.quiet_of_same (HW.out _)))
    go_wp2_with fail
    go_ret
    exact ⟨q % m, at_ + 1, hlast, rfl, HT.out.keep ((Chg.refl _ _).drewN _), HC.out.drewN _⟩
  · have hd1 : decide (n ≤ at_) = true := by simp; omega
    have hd2 : decide ((n : Int) ≤ (at_ : Int)) = true := by simp; omega
    go_enter Tryz.func33, Tryz.ntmps33
    go_wp2_with fail
    go_quiet (fail)
    go_wp2_with fail
    go_ret
    exact ⟨0, at_, hm, rfl, H.out.keep ((Chg.refl _ _).drewN _), (Chg.refl _ _).drewN _⟩
end
end Go.Proofs.YtbkfhndmeljlcaaGreatDoor
namespace Go.Proofs.YtbkfhndmeljlcaaGreatDoor
open Go.RowKit
section
variable {w : World} {A : Option Addr} {n c : Nat} {l : List UInt8}
theorem put_b (h : Bs w A n c l) (k : Nat) (hk : k < 4294967296) (hn : n + 4 ≤ 140737488355328) : Calls Tryz.prog 72 #[.slice A n c, .int .u32 (k : Int)] w (BytesPost w (l ++ be4 k)) := put_any k hk h.len h.src hn
theorem get_b (h : Bs w A n c l) (i : Int) (hi : i ≤ 9223372036854775807) : Calls Tryz.prog 103 #[.slice A n c, .int .i64 i] w fun e w' => e = .returned (.int .u32 (getI l i : Nat)) ∧ w = w' := by
  unfold getI
  split
  · rename_i hc
    obtain ⟨k, rfl⟩ := Int.eq_ofNat_of_zero_le hc.1
    rw [Int.toNat_natCast]
    exact get_yes h.len h.src h.le h.spot k (by have := h.len; omega) h.cap h.max
  · rename_i hc
    exact get_no h.le i (by have := h.len; omega) hi
end
end Go.Proofs.YtbkfhndmeljlcaaGreatDoor
