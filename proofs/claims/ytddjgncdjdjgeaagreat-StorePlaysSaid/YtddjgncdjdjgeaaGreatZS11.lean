/-
  S: MadeCh, Tape, DeltaGet, DeltaBytes, KeepCh.
-/
import Derived.Test.YtddjgncdjdjgeaaGreatZS2
import Derived.Test.YtddjgncdjdjgeaaGreatZS3
import Derived.Test.YtddjgncdjdjgeaaGreatZS6
import Derived.Test.YtddjgncdjdjgeaaGreatZS9
import Derived.Test.YtddjgncdjdjgeaaGreatZS10
import Derived.Laws.BitsAllLaws
import Derived.Deep.RegionLaw
namespace Go.Proofs.YtddjgncdjdjgeaaGreat
open Go.RowKit
/-- The cells of changes. -/
def chCs : List ChV → List Value
  | [] => []
  | a :: l => chC a ++ chCs l
theorem chCs_len : ∀ l, (chCs l).length = l.length * 2
  | [] => rfl
  | a :: l => by rw [chCs, List.length_append, chCs_len l]; simp [chC]; omega
theorem chCs_app : ∀ l m, chCs (l ++ m) = chCs l ++ chCs m
  | [], _ => rfl
  | a :: l, m => by rw [List.cons_append, chCs, chCs, chCs_app l m, List.append_assoc]
theorem chCs_one (a : ChV) : chCs [a] = chC a := by simp [chCs]
theorem chCs_get : ∀ (l : List ChV) (k : Nat) (a : ChV) (j : Nat), l[k]? = some a → j < 2 → (chCs l)[k * 2 + j]? = (chC a)[j]?
  | [], k, a, j, h, hj => by simp at h
  | b :: l, 0, a, j, h, hj => by
    simp at h; subst h
    rw [chCs, List.getElem?_append_left (by simp [chC]; omega)]
    congr 1; omega
  | b :: l, k + 1, a, j, h, hj => by
    simp at h
    rw [chCs, List.getElem?_append_right (by simp [chC]; omega)]
    rw [← chCs_get l k a j h hj]
    congr 1; simp [chC]; omega
/-- A change whose bytes lie in a block of their own, from B0 on. -/
structure MadeCh (w : World) (B0 : Nat) (a : ChV) : Prop where
  b : ∃ g, a.bA = some ⟨g, 0, none⟩ ∧ B0 ≤ g ∧ Whole w g 5 (bts a.B)
  bl : a.B.length = 64
  bn : a.bn = 64
  bc : a.bc = 64
  p : 0 ≤ a.page ∧ a.page < 65536
theorem MadeCh.ok {w : World} {B0 : Nat} {a : ChV} (h : MadeCh w B0 a) : ChOk w a := by
  obtain ⟨g, hg, _, hW⟩ := h.b
  refine ⟨by have := h.p; omega, by have := h.p; omega, ?_⟩
  rw [hg, h.bn, h.bc]
  have := Bs.of_all hW (by rw [h.bl]; omega)
  rwa [h.bl] at this
theorem MadeCh.small {w : World} {B0 : Nat} {a : ChV} (h : MadeCh w B0 a) : Small a := ⟨h.p.1, h.p.2, h.bn⟩
theorem MadeCh.chg {w w' : World} {B0 : Nat} {a : ChV} {T : List Nat} (h : MadeCh w B0 a) (hc : Chg T w w') (hT : ∀ i ∈ T, i < B0 ∨ w.heap.size ≤ i) : MadeCh w' B0 a := by
  obtain ⟨g, hg, hB, hW⟩ := h.b
  exact { h with b := ⟨g, hg, hB, hW.chg hc fun hm => by have := hT g hm; have := hW.lt; omega⟩ }
theorem MadeCh.grown {w w' : World} {B0 B2 m : Nat} {v2 : Value} {ys : List Value} {a : ChV} (h : MadeCh w B0 a) (h2 : w.ownsRow B2 51 2 v2 m ys) (hg : w.grownBy w' v2.ownBlock) : MadeCh w' B0 a := by
  obtain ⟨g, hg1, hB, hW⟩ := h.b
  exact { h with b := ⟨g, hg1, hB, whole_grown hW h2 (by decide) hg⟩ }
theorem rown_chg {w w' : World} {B n k : Nat} {e : TypeId} {v : Value} {xs : List Value} {T : List Nat} (h : w.ownsRow B e k v n xs) (hc : Chg T w w') (hT : ∀ i ∈ T, i < B ∨ w.heap.size ≤ i) : w'.ownsRow B e k v n xs := by
  refine ⟨h.1, h.2.imp id ?_⟩
  rintro ⟨g, cap, cur, rfl, hb, hg, r⟩
  refine ⟨g, cap, cur, rfl, hb, ?_, r⟩
  have hgl : g < w.heap.size := by
    rcases Nat.lt_or_ge g w.heap.size with hlt | hge
    · exact hlt
    · rw [Array.getElem?_eq_none hge] at hg; cases hg
  rw [hc.block g hgl (fun hm => by have := hT g hm; omega)]
  exact hg
/-- An own row of changes, as a list of changes is taken. -/
theorem chs_own {w : World} {B B0 n : Nat} {e : TypeId} {v : Value} {l : List ChV} (h : w.ownsRow B e 2 v n (chCs l)) (hok : ∀ a ∈ l, MadeCh w B0 a) :
    ∃ A c, v = .slice A n c ∧ l.length = n ∧ Chs w A l ∧ n ≤ 9223372036854775807 ∧ n ≤ c ∧ (∀ ad, A = some ad → ad.spot = none) := by
  have hl : l.length = n := by have := h.1; rw [chCs_len] at this; omega
  rcases h.2 with ⟨rfl, rfl⟩ | ⟨g, cap, cur, rfl, hb, hg, hn, hc, hs, ht⟩
  · exact ⟨none, 0, rfl, hl, ⟨fun h => absurd h (by omega), fun a ha => (hok a ha).ok⟩, by omega, Nat.le_refl _, fun ad e => by cases e⟩
  · have hgl : g < w.heap.size := by
      rcases Nat.lt_or_ge g w.heap.size with hlt | hge
      · exact hlt
      · rw [Array.getElem?_eq_none hge] at hg; cases hg
    refine ⟨_, cap, rfl, hl, ⟨fun _ => ⟨g, 0, rfl, hgl, fun k a ha => ?_⟩, fun a ha => (hok a ha).ok⟩, by unfold maxLen at hc; omega, hn, fun ad e => by injection e with e; subst e; rfl⟩
    have hx : ∀ j u, (chCs l)[j]? = some u → w.cell? ((⟨g, 0, none⟩ : Addr).add j) = some u := h.cells rfl
    have q : ∀ j, j < 2 → ∀ u, (chC a)[j]? = some u → w.cell? ⟨g, k * 2 + j, none⟩ = some u := fun j hj u hu => by
      have := hx (k * 2 + j) u ((chCs_get l k a j ha hj).trans hu)
      rwa [add_plain, Nat.zero_add] at this
    simp only [Nat.zero_add]
    exact ⟨q 0 (by omega) _ rfl, q 1 (by omega) _ rfl⟩
theorem info_change : (Tryz.prog.info? 51).map (fun i => (i.zero, i.size, i.bytes)) = some (some (.agg #[.int .i64 0, .slice none 0 0]), 2, 32) := by kernel_rfl
theorem cells_page (w : World) (xs : List Value) (t : Nat) : ∀ (j : Nat) (u : Value), xs[j]? = some u → (w.alloc (.cells xs.toArray t)).cell? ((⟨w.heap.size, 0, none⟩ : Addr).add j) = some u := fun j u hj => by
  rw [add_plain, Nat.zero_add, (Whole.new w t xs).cell]; exact hj
/-- A change whose bytes begin a block of their own, from B0 on. -/
structure RMade (w : World) (B0 : Nat) (a : ChV) : Prop where
  b : ∃ g r, a.bA = some ⟨g, 0, none⟩ ∧ B0 ≤ g ∧ Whole w g 5 (bts a.B ++ r) ∧ a.bc = 64 + r.length ∧ 64 + r.length ≤ 9223372036854775807
  bl : a.B.length = 64
  bn : a.bn = 64
  p : 0 ≤ a.page ∧ a.page < 65536
theorem RMade.ok {w : World} {B0 : Nat} {a : ChV} (h : RMade w B0 a) : ChOk w a := by
  obtain ⟨g, r, hg, _, hW, hc, hm⟩ := h.b
  refine ⟨by have := h.p; omega, by have := h.p; omega, ?_⟩
  rw [hg, h.bn, hc]
  exact Bs.of_whole hW h.bl (by rw [List.take_left' (by rw [bts_len, h.bl])]) (by omega) hm
theorem RMade.chg {w w' : World} {B0 : Nat} {a : ChV} {T : List Nat} (h : RMade w B0 a) (hc : Chg T w w') (hT : ∀ i ∈ T, i < B0 ∨ w.heap.size ≤ i) : RMade w' B0 a := by
  obtain ⟨g, r, hg, hB, hW, hr⟩ := h.b
  exact { h with b := ⟨g, r, hg, hB, hW.chg hc (fun hm => by have := hT g hm; have := hW.lt; omega), hr⟩ }
theorem RMade.grown {w w' : World} {B0 B2 m : Nat} {v2 : Value} {ys : List Value} {a : ChV} (h : RMade w B0 a) (h2 : w.ownsRow B2 51 2 v2 m ys) (hg : w.grownBy w' v2.ownBlock) : RMade w' B0 a := by
  obtain ⟨g, r, hg1, hB, hW, hr⟩ := h.b
  exact { h with b := ⟨g, r, hg1, hB, whole_grown hW h2 (by decide) hg, hr⟩ }
theorem chs_own' {w : World} {B n : Nat} {e : TypeId} {v : Value} {l : List ChV} (h : w.ownsRow B e 2 v n (chCs l)) (hok : ∀ a ∈ l, ChOk w a) :
    ∃ A c, v = .slice A n c ∧ l.length = n ∧ Chs w A l ∧ n ≤ 9223372036854775807 ∧ n ≤ c ∧ (∀ ad, A = some ad → ad.spot = none) := by
  have hl : l.length = n := by have := h.1; rw [chCs_len] at this; omega
  rcases h.2 with ⟨rfl, rfl⟩ | ⟨g, cap, cur, rfl, hb, hg, hn, hc, hs, ht⟩
  · exact ⟨none, 0, rfl, hl, ⟨fun h => absurd h (by omega), hok⟩, by omega, Nat.le_refl _, fun ad e => by cases e⟩
  · have hgl : g < w.heap.size := by
      rcases Nat.lt_or_ge g w.heap.size with hlt | hge
      · exact hlt
      · rw [Array.getElem?_eq_none hge] at hg; cases hg
    refine ⟨_, cap, rfl, hl, ⟨fun _ => ⟨g, 0, rfl, hgl, fun k a ha => ?_⟩, hok⟩, by unfold maxLen at hc; omega, hn, fun ad e => by injection e with e; subst e; rfl⟩
    have hx : ∀ j u, (chCs l)[j]? = some u → w.cell? ((⟨g, 0, none⟩ : Addr).add j) = some u := h.cells rfl
    have q : ∀ j, j < 2 → ∀ u, (chC a)[j]? = some u → w.cell? ⟨g, k * 2 + j, none⟩ = some u := fun j hj u hu => by
      have := hx (k * 2 + j) u ((chCs_get l k a j ha hj).trans hu)
      rwa [add_plain, Nat.zero_add] at this
    simp only [Nat.zero_add]
    exact ⟨q 0 (by omega) _ rfl, q 1 (by omega) _ rfl⟩
theorem MadeCh.rmade {w : World} {B0 : Nat} {a : ChV} (h : MadeCh w B0 a) : RMade w B0 a := by
  obtain ⟨g, hg, hB, hW⟩ := h.b
  exact ⟨⟨g, [], hg, hB, by rw [List.append_nil]; exact hW, by rw [h.bc]; rfl, by simp⟩, h.bl, h.bn, h.p⟩
end Go.Proofs.YtddjgncdjdjgeaaGreat
namespace Go.Proofs.YtddjgncdjdjgeaaGreat
open Go.RowKit
/-- A tape as it lies in memory: its numbers, where it stands. -/
structure Tp (w : World) (p : Nat) (A : Option Addr) (n c : Nat) (l : List Int) (at_ : Nat) : Prop where
  rec_ : Whole w p 63 [.slice A n c, .int .i64 (at_ : Int)]
  len : l.length = n
  src : Src w A (nms l)
  spot : 0 < n → ∀ ad, A = some ad → ad.spot = none ∧ ad.block < p
  rng : ∀ x ∈ l, -9223372036854775808 ≤ x ∧ x ≤ 9223372036854775807
  le : at_ ≤ n
  max : n ≤ 9223372036854775807
theorem nms_at (l : List Int) (i : Nat) (h : i < l.length) : (nms l)[i]? = some (.int .i64 l[i]) := by simp [nms, h]
section
variable {w : World}
set_option maxHeartbeats 1000000 in
set_option maxRecDepth 100000 in
theorem within_big (n lo hi : Int) (h0 : -1000000 ≤ lo) (h1 : lo ≤ hi) (h2 : hi ≤ 2000000000) (hn0 : -9223372036854775808 ≤ n) (hn1 : n ≤ 9223372036854775807) :
    Calls Tryz.prog 12 #[.int .i64 n, .int .i64 lo, .int .i64 hi] w fun e w' => e = .returned (.int .i64 (withinI n lo hi)) ∧ w = w' := by
  have b1 := Int.tmod_lt_of_pos n (show 0 < hi - lo + 1 by omega)
  have b2 := Int.lt_tmod_of_pos n (show 0 < hi - lo + 1 by omega)
  have hne : ((hi - lo + 1) == 0) = false := by simp; omega
  by_cases ha : lo ≤ n
  · by_cases hb : n ≤ hi
    · have HI := Lib.hid (show withinI n lo hi = n by unfold withinI; rw [if_pos ⟨ha, hb⟩])
      go_enter Tryz.func12, Tryz.ntmps12
      go_wp2_with fail
      go_ret
      exact ⟨ret_within HI.out.symm, rfl⟩
    · by_cases hm : n.tmod (hi - lo + 1) < 0
      · have HI := Lib.hid (show withinI n lo hi = lo + (n.tmod (hi - lo + 1) + hi - lo + 1) by unfold withinI; rw [if_neg (fun h => hb h.2), if_pos hm])
        go_enter Tryz.func12, Tryz.ntmps12
        go_wp2_with fail
        go_ret
        exact ⟨ret_within HI.out.symm, rfl⟩
      · have HI := Lib.hid (show withinI n lo hi = lo + n.tmod (hi - lo + 1) by unfold withinI; rw [if_neg (fun h => hb h.2), if_neg hm])
        go_enter Tryz.func12, Tryz.ntmps12
        go_wp2_with fail
        go_ret
        exact ⟨ret_within HI.out.symm, rfl⟩
  · have hd : decide (lo ≤ n) = false := by simp; omega
    by_cases hm : n.tmod (hi - lo + 1) < 0
    · have HI := Lib.hid (show withinI n lo hi = lo + (n.tmod (hi - lo + 1) + hi - lo + 1) by unfold withinI; rw [if_neg (fun h => ha h.1), if_pos hm])
      go_enter Tryz.func12, Tryz.ntmps12
      go_wp2_with fail
      go_ret
      exact ⟨ret_within HI.out.symm, rfl⟩
    · have HI := Lib.hid (show withinI n lo hi = lo + n.tmod (hi - lo + 1) by unfold withinI; rw [if_neg (fun h => ha h.1), if_neg hm])
      go_enter Tryz.func12, Tryz.ntmps12
      go_wp2_with fail
      go_ret
      exact ⟨ret_within HI.out.symm, rfl⟩
end
section
variable {w w' : World} {p n c at_ : Nat} {A : Option Addr} {l : List Int}
theorem Tp.keep (h : Tp w p A n c l at_) (hc : Chg [] w w') : Tp w' p A n c l at_ := ⟨h.rec_.keep hc, h.len, h.src.keep hc, h.spot, h.rng, h.le, h.max⟩
theorem Tp.other (h : Tp w p A n c l at_) {g j : Nat} (hg : g ≠ p) (hA : ∀ ad, A = some ad → 0 < n → ad.block ≠ g) (u : Value) : Tp (w.setCell ⟨g, j, none⟩ u) p A n c l at_ := by
  refine ⟨h.rec_.far (by simpa using Ne.symm hg) u, h.len, fun hp => ?_, h.spot, h.rng, h.le, h.max⟩
  obtain ⟨ad, e, hb, hy⟩ := h.src hp
  have hn : 0 < n := by have := h.len; simp [nms] at hp; omega
  refine ⟨ad, e, by simpa [World.setCell] using hb, fun i v hi => ?_⟩
  have h1 := hy i v hi
  have e2 : (ad.add i).block = ad.block := by unfold Addr.add; split <;> rfl
  rw [← h1]
  exact World.cell?_of_block (w := w) (Below.heap_setCell w _ u _ (by rw [e2]; exact hA ad e hn))
theorem Tp.grown {B2 m k2 : Nat} {e2 : TypeId} {v2 : Value} {ys : List Value} (h : Tp w p A n c l at_) (h2 : w.ownsRow B2 e2 k2 v2 m ys) (hg : w.grownBy w' v2.ownBlock) (hne : 63 ≠ e2) (hB : p < B2) : Tp w' p A n c l at_ := by
  refine ⟨whole_grown h.rec_ h2 hne hg, h.len, fun hp => ?_, h.spot, h.rng, h.le, h.max⟩
  obtain ⟨ad, e, hb, hy⟩ := h.src hp
  have hn : 0 < n := by have := h.len; simp [nms] at hp; omega
  refine ⟨ad, e, Nat.lt_of_lt_of_le hb hg.size, fun i v hi => ?_⟩
  have h1 := hy i v hi
  have e3 : (ad.add i).block = ad.block := by unfold Addr.add; split <;> rfl
  rw [← h1]
  refine World.cell?_of_block (w := w) (hg.block _ (by rw [e3]; exact hb) (fun hc => ?_))
  rw [e3] at hc
  have := (h2.lt _ hc.symm).1
  have := (h.spot hn ad e).2
  omega
theorem chg_grown2 {T : List Nat} {a w w' : World} {row : Option Nat} (h : Chg T a w) (hg : w.grownBy w' row) (hr : ∀ g, row = some g → a.heap.size ≤ g) : Chg T a w' :=
  h.then_ (T' := row.toList) (Chg.of_grown hg fun g e _ => by simp [e]) fun i hi hlt => by
    have := hr i (by simpa using hi)
    omega
theorem Tp.lt (h : Tp w p A n c l at_) : p < w.heap.size := h.rec_.lt
/-- A number of 0 .. m - 1, and the tape one further. -/
def NextPost (w : World) (p : Nat) (A : Option Addr) (n c : Nat) (l : List Int) (m : Nat) (e : Ending) (w' : World) : Prop :=
  ∃ (r a' : Nat), r < m ∧ e = .returned (.int .i64 (r : Int)) ∧ Tp w' p A n c l a' ∧ Chg [p] w w'
set_option maxHeartbeats 4000000 in
set_option maxRecDepth 100000 in
theorem next_any (h : Tp w p A n c l at_) (m : Nat) (hm : 0 < m) (hm2 : m ≤ 1000000) :
    Calls Tryz.prog 32 #[.pointer (some ⟨p, 0, none⟩), .int .i64 (m : Int)] w (NextPost w p A n c l m) := by
  have c0 := h.rec_.cell 0
  have c1 := h.rec_.cell 1
  have f1 := h.rec_.frozen 1
  have hle := h.le
  have hmax := h.max
  have H := Lib.hid h
  clear h
  have hmd : ¬ (m : Int) < 1 := by omega
  have hmd1 : decide ((m : Int) < 1) = false := by simp; omega
  by_cases hlt : at_ < n
  · have hd1 : decide (n ≤ at_) = false := by simp; omega
    have hd2 : decide ((n : Int) ≤ (at_ : Int)) = false := by simp; omega
    obtain ⟨ad, rfl, _, hx⟩ := H.out.src (by simp [nms]; have := H.out.len; omega)
    have hx1 := hx at_ _ (nms_at l at_ (by have := H.out.len; omega))
    obtain ⟨b, o, s⟩ := ad
    obtain ⟨hs, hbp⟩ := H.out.spot (by omega) _ rfl
    simp only at hs hbp
    subst hs
    rw [add_plain] at hx1
    have hal : at_ < l.length := by have := H.out.len; omega
    have hrz := H.out.rng l[at_] (List.getElem_mem hal)
    generalize l[at_] = z at hx1 hrz
    obtain ⟨hz0, hz1⟩ := hrz
    clear hx
    go_enter Tryz.func32, Tryz.ntmps32
    go_wp2_with fail
    go_quiet (fail)
    go_wp2_with fail
    have hR3 := ((H.out.rec_.keep ((Chg.refl [] w).drewN nq)).set_ 1 (.int .i64 ((at_ : Int) + 1)))
    have hc3 : Chg [p] w ((w.drewN nq).setCell ⟨p, 1, none⟩ (.int .i64 ((at_ : Int) + 1))) := ((Chg.refl [p] w).drewN nq).setCell (by simp) _
    generalize (w.drewN nq).setCell ⟨p, 1, none⟩ (.int .i64 ((at_ : Int) + 1)) = w3 at hR3 hc3 ⊢
    have hs3 : Src w3 (some ⟨b, o, none⟩) (nms l) := fun hp => by
      obtain ⟨ad, e, hb, hy⟩ := H.out.src hp
      injection e with e
      subst e
      refine ⟨_, rfl, Nat.lt_of_lt_of_le hb hc3.size, fun j v hj => ?_⟩
      have := hy j v hj
      rw [add_plain] at this ⊢
      rw [← this]
      exact World.cell?_of_block (w := w) (hc3.block b hb (by simp; omega))
    have hT3 : Tp w3 p (some ⟨b, o, none⟩) n c l (at_ + 1) := ⟨by simpa using hR3, H.out.len, hs3, H.out.spot, H.out.rng, by omega, H.out.max⟩
    have k0 := hT3.rec_.cell 0
    have k1 := hT3.rec_.cell 1
    have k2 : w3.cell? ⟨b, o + at_, none⟩ = some (.int .i64 z) := by
      rw [← hx1]
      exact World.cell?_of_block (w := w) (hc3.block b (block_lt_of_cell hx1) (by simp; omega))
    clear hx1 c0 c1 f1 hR3 hs3
    obtain ⟨q, hq, hq2⟩ : ∃ q : Nat, withinI z 0 1073741824 = (q : Int) ∧ q ≤ 1073741824 := by
      have hin := into_within z 0 1073741824 (by omega)
      exact ⟨(withinI z 0 1073741824).toNat, by have := hin.1; omega, by have h1 := hin.1; have h2 := hin.2.1; omega⟩
    have hw : ∀ W : World, Calls Tryz.prog 12 #[.int .i64 z, .int .i64 0, .int .i64 1073741824] W fun e w' => e = .returned (.int .i64 (q : Int)) ∧ w' = W := fun W =>
      (within_big z 0 1073741824 (by omega) (by omega) (by omega) hz0 hz1).mono fun _ _ ⟨h1, h2⟩ => ⟨by rw [h1, hq], h2.symm⟩
    have HT := Lib.hid hT3
    have HW := Lib.hid hw
    have HC := Lib.hid hc3
    have hsub : IntKind.i64.wrap (at_ : Int) = (at_ : Int) := IntWalk.i64_in _ (by omega)
    have hatn : (at_ : Int).toNat = at_ := Int.toNat_natCast _
    have hat0 : (0 : Int) ≤ (at_ : Int) := by omega
    have htm : (q : Int).tmod (m : Int) = ((q % m : Nat) : Int) := rfl
    have hlast : q % m < m := Nat.mod_lt _ hm
    have hatI : (at_ : Int) < (n : Int) := by omega
    have hm0 : ((m : Int) == 0) = false := by simp; omega
    clear hT3 hw hc3 hq H
    go_quiet ((go_at_call 12; exact Calls.quiet_of_same (HW.out _)))
    go_wp2_with fail
    go_ret
    exact ⟨q % m, at_ + 1, hlast, rfl, HT.out.keep ((Chg.refl _ _).drewN _), HC.out.drewN _⟩
  · have hd1 : decide (n ≤ at_) = true := by simp; omega
    have hd2 : decide ((n : Int) ≤ (at_ : Int)) = true := by simp; omega
    go_enter Tryz.func32, Tryz.ntmps32
    go_wp2_with fail
    go_quiet (fail)
    go_wp2_with fail
    go_ret
    exact ⟨0, at_, hm, rfl, H.out.keep ((Chg.refl _ _).drewN _), (Chg.refl _ _).drewN _⟩
end
end Go.Proofs.YtddjgncdjdjgeaaGreat
namespace Go.Proofs.YtddjgncdjdjgeaaGreat
open Go.RowKit
/-- The number of two bytes. -/
def num2 (l : List UInt8) : Nat := (l.getD 0 0).toNat * 256 + (l.getD 1 0).toNat
theorem ofInt_small (a : Nat) (h : a < 65536) : (BitVec.ofInt 64 (a : Int)).toNat = a := by
  rw [BitVec.toNat_ofInt]
  omega
theorem or_two (x y : UInt8) : bits .or .i64 ((x.toNat : Int) * 256) (y.toNat : Int) = ((x.toNat * 256 + y.toNat : Nat) : Int) := by
  have hx := x.toNat_lt
  have hy := y.toNat_lt
  have e1 : (x.toNat : Int) * 256 = ((x.toNat * 256 : Nat) : Int) := by omega
  rw [e1]
  show IntKind.i64.wrap ((BitVec.ofInt 64 ((x.toNat * 256 : Nat) : Int) ||| BitVec.ofInt 64 (y.toNat : Int)).toNat : Int) = _
  rw [BitVec.toNat_or, ofInt_small _ (by omega), ofInt_small _ (by omega), nat_join 8 (x.toNat * 256) y.toNat (by omega) (by omega)]
  exact IntWalk.i64_in _ (by omega)
theorem ret_word {a b : Int} (h : a = b) : Ending.returned (.int .i64 a) = .returned (.int .i64 b) := by rw [h]
section
variable {w : World} {A : Option Addr} {n c : Nat} {l : List UInt8}
set_option maxHeartbeats 2000000 in
set_option maxRecDepth 100000 in
theorem dget_any (h : Bs w A n c l) (hn : 2 ≤ n) :
    Calls Tryz.prog 122 #[.slice A n c] w fun e w' => e = .returned (.int .i64 (num2 l : Nat)) ∧ Chg [] w w' := by
  obtain ⟨x, y, t, rfl⟩ : ∃ x y t, l = x :: y :: t := by
    match l, h.len with
    | [], h0 => simp at h0; omega
    | [_], h0 => simp at h0; omega
    | x :: y :: t, _ => exact ⟨x, y, t, rfl⟩
  obtain ⟨ad, rfl, _, hx⟩ := h.src (by simp [bts])
  obtain ⟨b, o, s⟩ := ad
  obtain rfl : s = none := h.spot (by omega) _ rfl
  have h0 := hx 0 (B8 x) rfl
  have h1 := hx 1 (B8 y) rfl
  rw [add_plain, Nat.add_zero] at h0
  rw [add_plain] at h1
  unfold B8 at h0 h1
  have hx256 := x.toNat_lt
  have hy256 := y.toNat_lt
  have hnI : (1 : Int) < (n : Int) := by omega
  have hnJ : (0 : Int) < (n : Int) := by omega
  clear hx
  go_enter Tryz.func122, Tryz.ntmps122
  go_wp2_with fail
  go_quiet (fail)
  go_wp2_with fail
  go_ret
  exact ⟨ret_word (by rw [or_two]; simp [num2]), (Chg.refl _ _).drewN _⟩
end
end Go.Proofs.YtddjgncdjdjgeaaGreat
namespace Go.Proofs.YtddjgncdjdjgeaaGreat
open Go.RowKit
def chB (a : ChV) : List UInt8 := be2 a.page.toNat ++ a.B
/-- Changes as bytes. -/
def chsB : List ChV → List UInt8
  | [] => []
  | a :: l => chB a ++ chsB l
theorem chsB_app : ∀ l m, chsB (l ++ m) = chsB l ++ chsB m
  | [], _ => rfl
  | a :: l, m => by rw [List.cons_append, chsB, chsB, chsB_app l m, List.append_assoc]
theorem chsB_next (l : List ChV) (k : Nat) (a : ChV) (h : l[k]? = some a) : chsB (l.take (k + 1)) = chsB (l.take k) ++ chB a := by
  obtain ⟨hk, rfl⟩ := List.getElem?_eq_some_iff.1 h
  rw [List.take_succ_eq_append_getElem hk, chsB_app]
  simp [chsB]
def bytesD (l : List ChV) : List UInt8 := be2 l.length ++ chsB l
section
variable {w : World} {A : Option Addr} {n c : Nat}
set_option maxHeartbeats 4000000 in
set_option maxRecDepth 100000 in
theorem dbytes_any {l : List ChV} (h : Chs w A l) (hs : ∀ a ∈ l, Small a) (hl : l.length = n) (hn : n ≤ 1000) :
    Calls Tryz.prog 71 #[.slice A n c] w (BytesPost w (bytesD l)) := by
  obtain ⟨i0, hi, hz, hs1, hb⟩ := info_parts info_byte
  have H := Lib.hid h
  have HL := Lib.hid hl
  have HS := Lib.hid hs
  clear h hl hs
  have hmk : ∀ W : World, (Instr.makeSlice 30 (.int .i64 0) (.int .i64 (2 + (n : Int) * 66))).run Tryz.prog W = .ok (.slice (some ⟨W.heap.size, 0, none⟩) 0 (2 + n * 66)) (W.alloc (.cells (bts (zeros (2 + n * 66))).toArray 5)) := by
    intro W
    rw [bts_zeros]
    have := run_make0 (P := Tryz.prog) 30 5 i0 _ rfl Tryz.underlying30 hi hz hs1 (2 + n * 66) (by rw [hb]; omega) (by omega) W
    simpa using this
  have ho0 : (w.alloc (.cells (bts (zeros (2 + n * 66))).toArray 5)).ownsRow w.heap.size 5 1 (.slice (some ⟨w.heap.size, 0, none⟩) 0 (2 + n * 66)) 0 (bts []) := by
    have := own_of_whole (B := w.heap.size) (n := 0) (c := 2 + n * 66) (Whole.new w 5 (bts (zeros (2 + n * 66)))) (Nat.le_refl _) (by simp [bts_len, zeros_len]) (by omega) (by unfold maxLen; omega)
    simpa [bts] using this
  go_enter Tryz.func71, Tryz.ntmps71
  go_wp2_with fail
  refine (dput_any ho0 (by simp) n (by omega) (by omega)).mono ?_
  rintro e w1 ⟨v1, rfl, ho1, _, hL1⟩
  have hc1 : Chg [] w w1 := ((Low.of_chg (B := w.heap.size) ((Chg.refl [] w).alloc _)).trans hL1).chg (Nat.le_refl _)
  simp only [Nat.zero_add, List.nil_append] at ho1
  clear ho0 hL1
  go_wp2_with fail
  go_loopw [3, 16] (fun t i wr => ∃ k : Nat, k ≤ n ∧ i = .int .i64 (k : Int) ∧ wr.ownsRow w.heap.size 5 1 t (2 + k * 66) (bts (be2 n ++ chsB (l.take k))) ∧ Chg [] w wr) (fun _ i _ => n - (intOf i).toNat)
  case atStart => exact ⟨0, Nat.zero_le _, rfl, by simpa [chsB] using ho1, hc1⟩
  case round =>
    obtain ⟨k, hk, rfl, hown, hcr⟩ := hrel
    have hwr := hcr.size
    clear ho1 hc1
    by_cases hlt : k < n
    · obtain ⟨a, ha⟩ : ∃ a, l[k]? = some a := ⟨_, List.getElem?_eq_getElem (by have := HL.out; omega)⟩
      have ham := List.mem_of_getElem? ha
      obtain ⟨g, o, rfl, hg, hce⟩ := (H.out.keep hcr).cells (by have := HL.out; omega)
      obtain ⟨c0, c1⟩ := hce k a ha
      have hbs := (H.out.ok a ham).bs
      obtain ⟨hp0, hp1, hbn⟩ := HS.out a ham
      have HT := Lib.hid (chsB_next l k a ha)
      have HC := Lib.hid hcr
      clear hce ha ham hcr
      obtain ⟨page, bA, bn, bc, Bb⟩ := a
      simp only at c0 c1 hbs hp0 hp1 hbn
      subst hbn
      obtain ⟨q, rfl⟩ := Int.eq_ofNat_of_zero_le hp0
      have HBS := Lib.hid hbs
      clear hbs
      obtain ⟨A3, c3, rfl, _, _, _, _⟩ := own_slice hown
      obtain ⟨X, hX⟩ : ∃ X, X = be2 n ++ chsB (l.take k) := ⟨_, rfl⟩
      rw [← hX] at hown
      have HX := Lib.hid hX
      clear hX
      have hkI : (k : Int) < (n : Int) := by omega
      go_wp2_with fail
      have hz0 := Whole.new wr 51 [.int .i64 (q : Int), .slice bA 64 bc]
      have hal : Chg [] wr (wr.alloc (.cells #[.int .i64 (q : Int), .slice bA 64 bc] 51)) := (Chg.refl [] wr).alloc _
      have HW0 := Lib.hid hal
      have HZ0 := Lib.hid hz0
      clear hal hz0 c0 c1
      go_region_law (first
        | (refine step_append_src rfl (.tmp 23) (.tmp 25) 30 rfl w.heap.size 5 i0 _ 1 Tryz.underlying30 hi hz hs1 hb cells_u8 v2 (2 + k * 66 + 2) (bts (X ++ be2 q)) rfl ho2 bA 64 bc (bts Bb) rfl hbl hsB (bts_one _) hx1 hx2 hx3 ?_
           intro v5 w5 ho5 hg5)
        | (go_simp
           go_at_call 109
           refine (dput_any (own_keep hown HW0.out.drew) (by simp; omega) q (by omega) (by omega)).mono ?_
           rintro e w2 ⟨v2, rfl, ho2, hk2, hL2⟩
           have hz2 := hk2 _ _ _ (by decide) HZ0.out.drew
           have hc2 : Chg [] w w2 := ((Low.of_chg (B := w.heap.size) (HC.out.new HW0.out).drew).trans hL2).chg (Nat.le_refl _)
           have hB2 := HBS.out.keep hc2
           have hbl : (bts Bb).length = 64 := by rw [bts_len]; exact hB2.len
           have hsB := hB2.src
           have hx1 : 2 + k * 66 + 2 + 64 ≤ maxLen := by unfold maxLen; omega
           have hx2 : (2 + k * 66 + 2 + 64) * 1 ≤ 140737488355328 := by omega
           have hx3 : w.heap.size ≤ w2.heap.size := hc2.size
           have z0 := hz2.cell 0
           have z1 := hz2.cell 1))
      all_goals
        have hL5 : Low w.heap.size w2 w5 := Low.of_own ho2 hg5
        have hc5 : Chg [] w w5 := ((Low.of_chg hc2).trans hL5).chg (Nat.le_refl _)
        clear hg5
        go_wp2_with fail
        go_roundw
        case rel =>
          refine ⟨k + 1, by omega, by go_num, ?_, hc5⟩
          have e1 : bts (be2 n ++ chsB (l.take (k + 1))) = bts (X ++ be2 q) ++ bts Bb := by
            rw [HT.out, ← List.append_assoc, ← HX.out]
            simp [chB, bts]
          rw [e1, show 2 + (k + 1) * 66 = 2 + k * 66 + 2 + 64 by omega]
          exact ho5
        case measure => simp [intOf]; omega
    · obtain rfl : n = k := by omega
      have HK := Lib.hid (show l.take n = l by rw [List.take_of_length_le (by rw [HL.out]; exact Nat.le_refl _)])
      rw [HK.out] at hown
      have e1 : be2 n ++ chsB l = bytesD l := by unfold bytesD; rw [HL.out]
      rw [e1] at hown
      have e2 : 2 + n * 66 = (bytesD l).length := by have := hown.1; rw [bts_len] at this; omega
      rw [e2] at hown
      have HO := Lib.hid hown
      clear e1 e2 hown
      go_wp2_with fail
      go_ret
      exact ⟨_, rfl, HO.out, hcr⟩
end
end Go.Proofs.YtddjgncdjdjgeaaGreat
namespace Go.Proofs.YtddjgncdjdjgeaaGreat
open Go.RowKit
theorem rightS_snoc : ∀ (l : List ChV) (last P : Int) (a : ChV), rightS last P l = true → (∀ b ∈ l, b.page < a.page) → last < a.page → a.page < P → a.bn = 64 → rightS last P (l ++ [a]) = true
  | [], last, P, a, _, _, h1, h2, h3 => by
    simp only [List.nil_append, rightS]
    rw [decide_eq_false (by omega), decide_eq_false (by omega), decide_eq_false (by simpa using h3)]
    rfl
  | b :: l, last, P, a, h, hb, h1, h2, h3 => by
    simp only [rightS, List.cons_append, Bool.and_eq_true] at h ⊢
    exact ⟨h.1, rightS_snoc l b.page P a h.2 (fun c hc => hb c (List.mem_cons_of_mem _ hc)) (hb b (List.mem_cons_self ..)) h2 h3⟩
theorem make_page (W : World) : (Instr.makeSlice 30 (.int .i64 64) (.int .i64 64)).run Tryz.prog W = .ok (.slice (some ⟨W.heap.size, 0, none⟩) 64 64) (W.alloc (.cells (bts (zeros 64)).toArray 5)) := by
  obtain ⟨i, hi, hz, hs1, hb⟩ := info_parts info_byte
  rw [bts_zeros]
  exact run_make1 30 5 i (.int .u8 0) rfl Tryz.underlying30 hi hz hs1 64 (by rw [hb]; omega) (by omega) W
/-- What Changes has made so far. -/
def ChSo (w : World) (p : Nat) (At : Option Addr) (nt ct : Nat) (lt : List Int) (wr : World) (v : Value) (k : Nat) : Prop :=
  ∃ (ls : List ChV) (a' : Nat), wr.ownsRow w.heap.size 51 2 v ls.length (chCs ls) ∧ (∀ a ∈ ls, MadeCh wr w.heap.size a) ∧ (∀ a ∈ ls, a.page < k) ∧ ls.length ≤ k ∧ (∀ P : Int, (k : Int) ≤ P → rightS (-1) P ls = true) ∧ Tp wr p At nt ct lt a' ∧ Chg [p] w wr
section
variable {w : World} {p nt ct at_ : Nat} {At : Option Addr} {lt : List Int}
set_option maxHeartbeats 8000000 in
set_option maxRecDepth 100000 in
theorem changes_any (h : Tp w p At nt ct lt at_) (P : Nat) (hP : P ≤ 64) :
    Calls Tryz.prog 33 #[.pointer (some ⟨p, 0, none⟩), .int .i64 (P : Int)] w fun e w' => ∃ v, e = .returned v ∧ ChSo w p At nt ct lt w' v P := by
  obtain ⟨i0, hi, hz0, hz1, hz2⟩ := info_parts info_change
  have hpw := h.lt
  have H := Lib.hid h
  have hmk := make_page
  clear h
  go_enter Tryz.func33, Tryz.ntmps33
  go_wp2_with fail
  go_loopw [5, 6] (fun v i wr => ∃ k : Nat, k ≤ P ∧ i = .int .i64 (k : Int) ∧ ChSo w p At nt ct lt wr v k) (fun _ i _ => P - (intOf i).toNat)
  case atStart => exact ⟨0, Nat.zero_le _, rfl, [], at_, World.ownsRow_nil _ _ _ _, fun a ha => by simp at ha, fun a ha => by simp at ha, Nat.le_refl _, fun _ _ => rfl, H.out, Chg.refl _ _⟩
  case round =>
    obtain ⟨k, hk, rfl, ls, a', hown, hmade, hpg, hlen, hrise, hT, hcr⟩ := hrel
    have hwr := hcr.size
    have HM := Lib.hid hmade
    have HG := Lib.hid hpg
    have HRI := Lib.hid hrise
    have HC := Lib.hid hcr
    clear hmade hpg hrise hcr
    by_cases hlt : k < P
    · have hkI : (k : Int) < (P : Int) := by omega
      go_wp2_with fail
      refine (next_any hT 3 (by omega) (by omega)).mono ?_
      rintro e w1 ⟨r1, a1, hr1, rfl, hT1, hc1⟩
      have hown1 := rown_chg hown hc1 (fun i hm => by simp only [List.mem_cons, List.not_mem_nil, or_false] at hm; omega)
      have HM1 := Lib.hid (show ∀ a ∈ ls, MadeCh w1 w.heap.size a from fun a ha => (HM.out a ha).chg hc1 (fun i hm => by simp only [List.mem_cons, List.not_mem_nil, or_false] at hm; omega))
      have HC1 := Lib.hid (HC.out.trans hc1)
      have hw1 := hc1.size
      clear hown hc1 hT
      by_cases h0 : r1 = 0
      · subst h0
        go_wp2_with fail
        have hG := Whole.new w1 5 (bts (zeros 64))
        have hal : Chg [] w1 (w1.alloc (.cells (bts (zeros 64)).toArray 5)) := (Chg.refl [] w1).alloc _
        obtain ⟨g, hg⟩ : ∃ g, g = w1.heap.size := ⟨_, rfl⟩
        rw [← hg] at hG
        have hT2 := hT1.keep hal
        have HAL := Lib.hid (hal.sub (T' := [p, g]) (by simp))
        have HGE := Lib.hid hg
        rw [← hg]
        have hgw : w.heap.size ≤ g := by rw [hg]; omega
        clear hal hg hT1
        go_loopw [8] (fun i wx => ∃ q : Nat, q ≤ 4 ∧ i = .int .i64 (q : Int) ∧ (∃ B : List UInt8, B.length = 64 ∧ Whole wx g 5 (bts B)) ∧ (∃ a2, Tp wx p At nt ct lt a2) ∧ Chg [p, g] w1 wx) (fun i _ => 4 - (intOf i).toNat)
        case atStart => exact ⟨0, by omega, rfl, ⟨zeros 64, zeros_len _, hG⟩, ⟨_, hT2⟩, HAL.out⟩
        case round =>
          obtain ⟨q, hq, rfl, ⟨B, hBl, hWB⟩, ⟨a2, hTx⟩, hcx⟩ := hrel
          clear hG hT2
          have HBL := Lib.hid hBl
          have HCX := Lib.hid hcx
          clear hBl hcx
          by_cases hltq : q < 4
          · have hqI : (q : Int) < 4 := by omega
            go_wp2_with fail
            refine (next_any hTx 64 (by omega) (by omega)).mono ?_
            rintro e w3 ⟨r3, a3, hr3, rfl, hT3, hc3⟩
            have hW3 := hWB.chg hc3 (by simp; omega)
            go_wp2_with fail
            refine (next_any hT3 256 (by omega) (by omega)).mono ?_
            rintro e w4 ⟨r4, a4, hr4, rfl, hT4, hc4⟩
            have hW4 := hW3.chg hc4 (by simp; omega)
            have c5 := (hW4.cell r3).trans (bts_get B r3 (by rw [HBL.out]; exact hr3))
            have f5 := hW4.frozen r3
            have hb8 : B8 (UInt8.ofNat r4) = .int .u8 (r4 : Int) := by
              unfold B8; rw [UInt8.toNat_ofNat', Nat.mod_eq_of_lt (by simpa using hr4)]
            have hW5 := hW4.set_ r3 (.int .u8 (r4 : Int))
            rw [← hb8, bts_set, hb8] at hW5
            have hc45 : Chg [p, g] w1 (w4.setCell ⟨g, r3, none⟩ (.int .u8 (r4 : Int))) := ((HCX.out.trans (hc3.sub (by simp))).trans (hc4.sub (by simp))).setCell (by simp) _
            have hT5 : Tp (w4.setCell ⟨g, r3, none⟩ (.int .u8 (r4 : Int))) p At nt ct lt a4 := hT4.other (by show g ≠ p; omega) (fun ad e h0 => by have := hT4.spot h0 ad e; show ad.block ≠ g; omega) _
            have HW5 := Lib.hid hW5
            have HC5 := Lib.hid hc45
            have HT5 := Lib.hid hT5
            have HLB := Lib.hid (show (B.set r3 (UInt8.ofNat r4)).length = 64 by rw [List.length_set]; exact HBL.out)
            clear hW5 hc45 hT5 hc3 hc4 hb8 hW3 hT3 hTx hWB
            go_wp2_with fail
            go_roundw
            case rel => exact ⟨q + 1, by omega, by go_num, ⟨_, HLB.out, HW5.out⟩, ⟨_, HT5.out⟩, HC5.out⟩
            case measure => simp [intOf]; omega
          · have hqI : (4 : Int) ≤ (q : Int) := by omega
            have hex : ∀ i ∈ [p, g], i < w.heap.size ∨ w1.heap.size ≤ i := fun i hm => by
              have := HGE.out
              simp only [List.mem_cons, List.not_mem_nil, or_false] at hm; omega
            have hown2 := rown_chg hown1 HCX.out hex
            have HM2 := Lib.hid (show ∀ a ∈ ls, MadeCh wr w.heap.size a from fun a ha => (HM1.out a ha).chg HCX.out hex)
            have HC2 : Chg [p] w wr := HC1.out.then_ HCX.out (fun i hm hlt => by
              simp only [List.mem_cons, List.not_mem_nil, or_false] at hm ⊢; omega)
            have hnew : MadeCh wr w.heap.size ⟨(k : Int), some ⟨g, 0, none⟩, 64, 64, B⟩ := ⟨⟨g, rfl, hgw, hWB⟩, HBL.out, rfl, rfl, by simp only; omega⟩
            have HNEW := Lib.hid hnew
            have HC3 := Lib.hid HC2
            have HTX := Lib.hid hTx
            obtain ⟨X, hX⟩ : ∃ X, X = chCs ls := ⟨_, rfl⟩
            obtain ⟨N, hN⟩ : ∃ N, N = ls.length := ⟨_, rfl⟩
            rw [← hX, ← hN] at hown2
            rw [← hN] at hlen
            have HX := Lib.hid hX
            have HN := Lib.hid hN
            have hw2 := HC2.size
            clear hX hN HC2 hnew hown1 hWB hTx
            go_wp2_with (first
              | (at_builtin
                 refine wpList_append_own _ rfl (.tmp 29) (.tmp 33) _ rfl w.heap.size 51 i0 _ 2 32 Tryz.underlying52 hi hz0 hz1 hz2 rfl (by decide) _ N X rfl (rown_chg hown2 ((Chg.refl [] wr).alloc _) (by simp)) ⟨wr.heap.size, 0, none⟩ 1 1 [.int .i64 (k : Int), .slice (some ⟨g, 0, none⟩) 64 64] rfl rfl ?c1 ?c2 ?c3 ?c4 ?c5 ?_
                 case c1 => exact cells_page _ _ _
                 case c2 => simp [Value.oneCell']
                 case c3 => simp only [maxLen]; omega
                 case c4 => omega
                 case c5 => simp; omega
                 intro v' w6 hown' hg' _))
            have HAL6 := Lib.hid (rown_chg hown2 ((Chg.refl [] wr).alloc (.cells #[.int .i64 (k : Int), .slice (some ⟨g, 0, none⟩) 64 64] 51)) (by simp))
            go_roundw
            case rel =>
              refine ⟨k + 1, by omega, by go_num, ls ++ [⟨(k : Int), some ⟨g, 0, none⟩, 64, 64, B⟩], a2, ?_, ?_, ?_, ?_, ?_, ?_, ?_⟩
              · rw [chCs_app, chCs_one, ← HX.out, List.length_append, ← HN.out]
                exact hown'
              · intro a ha
                rcases List.mem_append.1 ha with h | h
                · exact ((HM2.out a h).chg ((Chg.refl [] wr).alloc _) (by simp)).grown HAL6.out hg'
                · simp only [List.mem_cons, List.not_mem_nil, or_false] at h
                  subst h
                  exact (HNEW.out.chg ((Chg.refl [] wr).alloc _) (by simp)).grown HAL6.out hg'
              · intro a ha
                rcases List.mem_append.1 ha with h | h
                · have := HG.out a h; omega
                · simp only [List.mem_cons, List.not_mem_nil, or_false] at h
                  subst h
                  show (k : Int) < ((k + 1 : Nat) : Int)
                  omega
              · rw [List.length_append, ← HN.out]; simp only [List.length_cons, List.length_nil]; omega
              · intro P2 hP2
                exact rightS_snoc ls (-1) P2 _ (HRI.out P2 (by omega)) (fun b hb => HG.out b hb) (by show (-1 : Int) < (k : Int); omega) (by show (k : Int) < P2; omega) rfl
              · exact (HTX.out.keep ((Chg.refl [] wr).alloc _)).grown HAL6.out hg' (by decide) (by omega)
              · exact chg_grown2 (HC3.out.alloc _) hg' fun g hgg => (HAL6.out.lt g hgg).1
            case measure => simp [intOf]; omega
      · have h0I : ((r1 : Int) == 0) = false := by simp; omega
        have HO1 := Lib.hid hown1
        have HT1 := Lib.hid hT1
        clear hown1 hT1
        go_wp2_with fail
        go_roundw
        case rel => exact ⟨k + 1, by omega, by go_num, ls, a1, HO1.out, HM1.out, fun a ha => by have := HG.out a ha; omega, by omega, fun P2 hP2 => HRI.out P2 (by omega), HT1.out, HC1.out⟩
        case measure => simp [intOf]; omega
    · obtain rfl : P = k := by omega
      go_wp2_with fail
      go_ret
      exact ⟨_, rfl, ls, a', hown, HM.out, HG.out, hlen, HRI.out, hT, HC.out⟩
end
end Go.Proofs.YtddjgncdjdjgeaaGreat
