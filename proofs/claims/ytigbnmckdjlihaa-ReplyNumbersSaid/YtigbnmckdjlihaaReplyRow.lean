/-
  Layer 12: a row of answers: New, Ask, Asks.
-/
import Derived.Test.YtigbnmckdjlihaaReplyAll
import Derived.Test.YtigbnmckdjlihaaLawB
namespace Go.Proofs.Ytigbnmckdjlihaa
open Go.RowKit

section
variable {w w' : World} {B B2 n m k k2 : Nat} {e e2 : TypeId} {v v2 : Value} {xs ys : List Value}
theorem rown_keep (h : w.ownsRow B e k v n xs) (hc : Chg [] w w') : w'.ownsRow B e k v n xs := by
  refine ⟨h.1, h.2.imp id ?_⟩
  rintro ⟨g, cap, cur, rfl, hb, hg, r⟩
  refine ⟨g, cap, cur, rfl, hb, ?_, r⟩
  rw [hc.block g ?_ (by simp)]
  · exact hg
  · rcases Nat.lt_or_ge g w.heap.size with hlt | hge
    · exact hlt
    · rw [Array.getElem?_eq_none hge] at hg; cases hg
theorem rown_slice (h : w.ownsRow B e k v n xs) : ∃ A c, v = .slice A n c ∧ n ≤ c ∧ c ≤ 9223372036854775807 ∧ (∀ ad, A = some ad → ad.spot = none ∧ B ≤ ad.block ∧ ad.off = 0 ∧ ad.block < w.heap.size) := by
  rcases h.2 with ⟨rfl, rfl⟩ | ⟨g, cap, cur, rfl, hb, hg, hn, hc, hs, ht⟩
  · exact ⟨none, 0, rfl, Nat.le_refl _, by omega, fun ad h => by cases h⟩
  · have hgl : g < w.heap.size := by
      rcases Nat.lt_or_ge g w.heap.size with hlt | hge
      · exact hlt
      · rw [Array.getElem?_eq_none hge] at hg; cases hg
    exact ⟨some ⟨g, 0, none⟩, cap, rfl, hn, by unfold maxLen at hc; omega, fun ad h => by injection h with h; subst h; exact ⟨rfl, hb, rfl, hgl⟩⟩
theorem rown_cell (h : w.ownsRow B e k v n xs) {A : Option Addr} {c : Nat} (hv : v = .slice A n c) {j : Nat} {u : Value} (hj : xs[j]? = some u) : ∃ g, A = some ⟨g, 0, none⟩ ∧ w.cell? ⟨g, j, none⟩ = some u := by
  rcases h.2 with ⟨rfl, rfl⟩ | ⟨g, cap, cur, rfl, hb, hg, hn, hc, hs, ht⟩
  · have := (List.getElem?_eq_some_iff.1 hj).1
    have h1 := h.1
    simp at h1
    subst h1
    simp at hj
  · injection hv with h1
    refine ⟨g, h1.symm, ?_⟩
    have := h.cells (g := g) rfl j u hj
    rwa [add_plain, Nat.zero_add] at this
theorem rown_grown (h : w.ownsRow B e k v n xs) (h2 : w.ownsRow B2 e2 k2 v2 m ys) (hne : e ≠ e2) (hg : w.grownBy w' v2.ownBlock) : w'.ownsRow B e k v n xs := by
  refine ⟨h.1, h.2.imp id ?_⟩
  rintro ⟨g, cap, cur, rfl, hb, hh, r⟩
  refine ⟨g, cap, cur, rfl, hb, ?_, r⟩
  rw [hg.block g ?_ ?_]
  · exact hh
  · rcases Nat.lt_or_ge g w.heap.size with hlt | hge
    · exact hlt
    · rw [Array.getElem?_eq_none hge] at hh; cases hh
  · intro hc
    rcases h2.2 with ⟨rfl, _⟩ | ⟨g2, cap2, cur2, rfl, hb2, hh2, _⟩
    · simp [Value.ownBlock] at hc
    · simp [Value.ownBlock] at hc
      subst hc
      rw [hh] at hh2
      simp at hh2
      exact hne hh2.2
theorem Whole.grown {g t : Nat} {cs : List Value} (h : Whole w g t cs) (h2 : w.ownsRow B2 e2 k2 v2 m ys) (hne : t ≠ e2) (hg : w.grownBy w' v2.ownBlock) : Whole w' g t cs := by
  unfold Whole at h ⊢
  rw [hg.block g ?_ ?_]
  · exact h
  · rcases Nat.lt_or_ge g w.heap.size with hlt | hge
    · exact hlt
    · rw [Array.getElem?_eq_none hge] at h; cases h
  · intro hc
    rcases h2.2 with ⟨rfl, _⟩ | ⟨g2, cap2, cur2, rfl, hb2, hh2, _⟩
    · simp [Value.ownBlock] at hc
    · simp [Value.ownBlock] at hc
      subst hc
      rw [h] at hh2
      simp at hh2
      exact hne hh2.2
theorem Low.of_rown (ho : w.ownsRow B e k v n xs) (hg : w.grownBy w' v.ownBlock) : Low B w w' :=
  ⟨hg.os, hg.tape, hg.output, hg.size, fun i hi hB => hg.block i hB fun hc => by
    rcases ho.2 with ⟨rfl, _⟩ | ⟨g, cap, cur, rfl, hb, _⟩
    · simp [Value.ownBlock] at hc
    · simp [Value.ownBlock] at hc; omega⟩
theorem rown_set (h : w.ownsRow B e k v n xs) {p j : Nat} {t : Nat} {cs : List Value} (hp : Whole w p t cs) (hne : e ≠ t) (u : Value) : (w.setCell ⟨p, j, none⟩ u).ownsRow B e k v n xs := by
  refine ⟨h.1, h.2.imp id ?_⟩
  rintro ⟨g, cap, cur, rfl, hb, hh, r⟩
  refine ⟨g, cap, cur, rfl, hb, ?_, r⟩
  rw [Below.heap_setCell w ⟨p, j, none⟩ u g ?_]
  · exact hh
  · rintro rfl
    unfold Whole at hp
    rw [hh] at hp
    simp at hp
    exact hne hp.2
theorem cells_new (w : World) (xs : List Value) (t : Nat) : ∀ (j : Nat) (u : Value), xs[j]? = some u → (w.alloc (.cells xs.toArray t)).cell? ((⟨w.heap.size, 0, none⟩ : Addr).add j) = some u := fun j u hj => by
  rw [add_plain, Nat.zero_add, (Whole.new w t xs).cell]; exact hj
end
/-- Answers, asks, as cells hold them. -/
def ansC (rs : List (Option Int)) : List Value := rs.flatMap fun r => [.int .i64 (r.getD 0), .bool r.isSome]
def qsC (qs : List (Int × Int)) : List Value := qs.flatMap fun q => [.int .i32 q.1, .int .i64 q.2]
theorem pair_get {α : Type} (f g : α → Value) : ∀ (l : List α) (k : Nat) (a : α), l[k]? = some a → (l.flatMap fun a => [f a, g a])[k * 2]? = some (f a) ∧ (l.flatMap fun a => [f a, g a])[k * 2 + 1]? = some (g a)
  | [], k, a, h => by simp at h
  | b :: l, 0, a, h => by simp at h; subst h; exact ⟨rfl, rfl⟩
  | b :: l, k + 1, a, h => by
    simp at h
    have := pair_get f g l k a h
    rw [List.flatMap_cons, show (k + 1) * 2 = k * 2 + 2 by omega, show k * 2 + 2 + 1 = k * 2 + 1 + 2 by omega]
    exact this
theorem ans_get {rs : List (Option Int)} {k : Nat} {r : Option Int} (h : rs[k]? = some r) : (ansC rs)[k * 2]? = some (.int .i64 (r.getD 0)) ∧ (ansC rs)[k * 2 + 1]? = some (.bool r.isSome) := pair_get _ _ rs k r h
theorem qs_get {qs : List (Int × Int)} {k : Nat} {q : Int × Int} (h : qs[k]? = some q) : (qsC qs)[k * 2]? = some (.int .i32 q.1) ∧ (qsC qs)[k * 2 + 1]? = some (.int .i64 q.2) := pair_get _ _ qs k q h
theorem info_ans : (Try.prog.info? 98).map (fun i => (i.zero, i.size, i.bytes)) = some (some (.agg #[.int .i64 0, .bool false]), 2, 16) := by kernel_rfl
theorem info_rask : (Try.prog.info? 67).map (fun i => (i.zero, i.size, i.bytes)) = some (some (.agg #[.int .i32 0, .int .i64 0]), 2, 16) := by kernel_rfl
/-- A row of answers rs that was asked qs; from block B on it is its own. -/
structure Rw (w : World) (B p : Nat) (rs : List (Option Int)) (qs : List (Int × Int)) (a q : Value) : Prop where
  rec_ : Whole w p 96 [a, q]
  ans : w.ownsRow B 98 2 a rs.length (ansC rs)
  asks : w.ownsRow B 67 2 q qs.length (qsC qs)
  low : B ≤ p
section
variable {w w' : World} {B p : Nat} {rs : List (Option Int)} {qs : List (Int × Int)} {a q : Value}
theorem Rw.keep (h : Rw w B p rs qs a q) (hc : Chg [] w w') : Rw w' B p rs qs a q := ⟨h.rec_.keep hc, rown_keep h.ans hc, rown_keep h.asks hc, h.low⟩
/-- New's answer. -/
def NewRow (w : World) (rs : List (Option Int)) (e : Ending) (w' : World) : Prop := ∃ p a q, e = .returned (.pointer (some ⟨p, 0, none⟩)) ∧ Rw w' w.heap.size p rs [] a q ∧ Chg [] w w'
/-- What the next ask is answered. -/
def nextR (rs : List (Option Int)) (k : Nat) : Option Int := if k < rs.length then rs.getD k none else some 0
def AskPost (w : World) (B p : Nat) (rs : List (Option Int)) (qs : List (Int × Int)) (x y : Int) (e : Ending) (w' : World) : Prop :=
  ∃ a q, e = .returned (.tuple #[.int .i64 ((nextR rs qs.length).getD 0), .bool (nextR rs qs.length).isSome]) ∧ Rw w' B p rs (qs ++ [(x, y)]) a q ∧ Low B w w'
set_option maxHeartbeats 2000000 in
set_option maxRecDepth 100000 in
theorem ask_any (h : Rw w B p rs qs a q) (hB : B ≤ w.heap.size) (hq : qs.length ≤ 1000000) (x y : Int) :
    Calls Try.prog 33 #[.pointer (some ⟨p, 0, none⟩), .int .i32 x, .int .i64 y] w (AskPost w B p rs qs x y) := by
  obtain ⟨i0, hi, hz0, hz1, hz2⟩ := info_parts info_rask
  obtain ⟨A1, c1, rfl, _, hcm1, hA1⟩ := rown_slice h.ans
  obtain ⟨A2, c2, rfl, _, hcm2, _⟩ := rown_slice h.asks
  have e0 := h.rec_.cell 0
  have e1 := h.rec_.cell 1
  have f1 := h.rec_.frozen 1
  have HR := Lib.hid h
  clear h
  obtain ⟨N, hN⟩ : ∃ N, N = qs.length := ⟨_, rfl⟩
  obtain ⟨M, hM⟩ : ∃ M, M = rs.length := ⟨_, rfl⟩
  have HN := Lib.hid hN
  have HM := Lib.hid hM
  rw [← hN] at e1 hq
  rw [← hM] at e0
  clear hN hM
  have hown : w.ownsRow B 67 2 (.slice A2 N c2) N (qsC qs) := by have := HR.out.asks; rw [← HN.out] at this; exact this
  obtain ⟨X, hX⟩ : ∃ X, X = qsC qs := ⟨_, rfl⟩
  rw [← hX] at hown
  have HX := Lib.hid hX
  clear hX
  by_cases hlt : N < M
  · have hltI : (N : Int) < (M : Int) := by omega
    go_enter Try.func33, Try.ntmps33
    go_wp2_with (first
      | (at_builtin
         refine wpList_append_own _ rfl (.tmp 18) (.tmp 22) _ rfl B 67 i0 _ 2 16 Try.underlying57 hi hz0 hz1 hz2 rfl (by decide) _ N X rfl (rown_keep hown ((Chg.refl _ _).alloc _)) ⟨w.heap.size, 0, none⟩ 1 1 [.int .i32 x, .int .i64 y] rfl rfl ?c1 ?c2 ?c3 ?c4 ?c5 ?_
         case c1 => exact cells_new _ _ _
         case c2 => simp [Value.oneCell']
         case c3 => simp only [maxLen]; omega
         case c4 => omega
         case c5 => simp; omega
         intro v' w2 hown' hg' _
         have hal := rown_keep hown ((Chg.refl [] w).alloc (.cells #[.int .i32 x, .int .i64 y] 67))
         have hR2 := (HR.out.rec_.keep ((Chg.refl [] w).alloc (.cells #[.int .i32 x, .int .i64 y] 67))).grown hal (by decide) hg'
         have hS2 := rown_grown (rown_keep HR.out.ans ((Chg.refl [] w).alloc (.cells #[.int .i32 x, .int .i64 y] 67))) hal (by decide) hg'
         have hL2 := (Low.of_chg (B := B) ((Chg.refl [] w).alloc (.cells #[.int .i32 x, .int .i64 y] 67))).trans (Low.of_rown hal hg')
         obtain ⟨A3, c3, rfl, _, _, _⟩ := rown_slice hown'
         have d0 := hR2.cell 0
         have d1 := hR2.cell 1
         have g1 := hR2.frozen 1
         have hR3 := hR2.set_ 1 (.slice A3 (N + 1) c3)
         have hS3 := rown_set (j := 1) hS2 hR2 (by decide) (.slice A3 (N + 1) c3)
         have hO3 := rown_set (j := 1) hown' hR2 (by decide) (.slice A3 (N + 1) c3)
         have hL3 : Low B w (w2.setCell ⟨p, 1, none⟩ (.slice A3 (N + 1) c3)) := hL2.trans ⟨rfl, rfl, rfl, by simp [World.setCell], fun k hk hl => Below.heap_setCell w2 _ _ k (by have := HR.out.low; simp only; omega)⟩
         rw [← HM.out] at d0
         clear hal hR2 hS2 hL2 hown' hg'))
    obtain ⟨w3, hw3⟩ : ∃ w3 : World, w3 = w2.setCell ⟨p, 1, none⟩ (.slice A3 (N + 1) c3) := ⟨_, rfl⟩
    rw [← hw3] at hR3 hS3 hO3 hL3 ⊢
    clear hw3 d0 d1 g1
    have d0 := hR3.cell 0
    simp only [List.set_cons_succ, List.set_cons_zero, List.getElem?_cons_zero] at d0
    rw [← HM.out] at d0
    obtain ⟨r, hr⟩ : ∃ r, rs[N]? = some r := ⟨_, List.getElem?_eq_getElem (by have := HM.out; omega)⟩
    obtain ⟨g, rfl, k1⟩ := rown_cell hS3 rfl (ans_get hr).1
    obtain ⟨g', hg', k2⟩ := rown_cell hS3 rfl (ans_get hr).2
    injection hg' with hg'
    injection hg' with hg'
    subst hg'
    have HNX := Lib.hid (show nextR rs qs.length = r by unfold nextR; rw [← HN.out, if_pos (by rw [← HM.out]; exact hlt)]; simp [List.getD, hr])
    clear hr
    have h4 : qsC (qs ++ [(x, y)]) = X ++ [.int .i32 x, .int .i64 y] := by rw [HX.out]; simp [qsC]
    have hO4 : w3.ownsRow B 67 2 (.slice A3 (N + 1) c3) (qs ++ [(x, y)]).length (qsC (qs ++ [(x, y)])) := by
      rw [List.length_append, ← HN.out, h4]; exact hO3
    have HP := Lib.hid (show ∀ k, AskPost w B p rs qs x y (.returned (.tuple #[.int .i64 (r.getD 0), .bool r.isSome])) (w3.drewN k) from fun k =>
      ⟨_, _, by rw [HNX.out], ⟨hR3, hS3, hO4, HR.out.low⟩, ⟨hL3.os, hL3.tape, hL3.output, hL3.size, hL3.block⟩⟩)
    clear h4 hO4
    go_quiet (fail)
    go_wp2_with fail
    go_ret2
    exact HP.out _
  · have hltI : (M : Int) ≤ (N : Int) := by omega
    go_enter Try.func33, Try.ntmps33
    go_wp2_with (first
      | (at_builtin
         refine wpList_append_own _ rfl (.tmp 18) (.tmp 22) _ rfl B 67 i0 _ 2 16 Try.underlying57 hi hz0 hz1 hz2 rfl (by decide) _ N X rfl (rown_keep hown ((Chg.refl _ _).alloc _)) ⟨w.heap.size, 0, none⟩ 1 1 [.int .i32 x, .int .i64 y] rfl rfl ?c1 ?c2 ?c3 ?c4 ?c5 ?_
         case c1 => exact cells_new _ _ _
         case c2 => simp [Value.oneCell']
         case c3 => simp only [maxLen]; omega
         case c4 => omega
         case c5 => simp; omega
         intro v' w2 hown' hg' _
         have hal := rown_keep hown ((Chg.refl [] w).alloc (.cells #[.int .i32 x, .int .i64 y] 67))
         have hR2 := (HR.out.rec_.keep ((Chg.refl [] w).alloc (.cells #[.int .i32 x, .int .i64 y] 67))).grown hal (by decide) hg'
         have hS2 := rown_grown (rown_keep HR.out.ans ((Chg.refl [] w).alloc (.cells #[.int .i32 x, .int .i64 y] 67))) hal (by decide) hg'
         have hL2 := (Low.of_chg (B := B) ((Chg.refl [] w).alloc (.cells #[.int .i32 x, .int .i64 y] 67))).trans (Low.of_rown hal hg')
         obtain ⟨A3, c3, rfl, _, _, _⟩ := rown_slice hown'
         have d0 := hR2.cell 0
         have d1 := hR2.cell 1
         have g1 := hR2.frozen 1
         have hR3 := hR2.set_ 1 (.slice A3 (N + 1) c3)
         have hS3 := rown_set (j := 1) hS2 hR2 (by decide) (.slice A3 (N + 1) c3)
         have hO3 := rown_set (j := 1) hown' hR2 (by decide) (.slice A3 (N + 1) c3)
         have hL3 : Low B w (w2.setCell ⟨p, 1, none⟩ (.slice A3 (N + 1) c3)) := hL2.trans ⟨rfl, rfl, rfl, by simp [World.setCell], fun k hk hl => Below.heap_setCell w2 _ _ k (by have := HR.out.low; simp only; omega)⟩
         rw [← HM.out] at d0
         clear hal hR2 hS2 hL2 hown' hg'))
    go_ret2
    have HNX : nextR rs qs.length = some 0 := by unfold nextR; rw [← HN.out, if_neg (by rw [← HM.out]; exact hlt)]
    have h4 : qsC (qs ++ [(x, y)]) = X ++ [.int .i32 x, .int .i64 y] := by rw [HX.out]; simp [qsC]
    have hO4 : (w2.setCell ⟨p, 1, none⟩ (.slice A3 (N + 1) c3)).ownsRow B 67 2 (.slice A3 (N + 1) c3) (qs ++ [(x, y)]).length (qsC (qs ++ [(x, y)])) := by
      rw [List.length_append, ← HN.out, h4]; exact hO3
    have HP : AskPost w B p rs qs x y (.returned (.tuple #[.int .i64 0, .bool true])) (w2.setCell ⟨p, 1, none⟩ (.slice A3 (N + 1) c3)) :=
      ⟨_, _, by rw [HNX]; rfl, ⟨hR3, hS3, hO4, HR.out.low⟩, hL3⟩
    exact HP
set_option maxHeartbeats 2000000 in
set_option maxRecDepth 100000 in
theorem rnew_any {vs : List Value} {A : Option Addr} {n c : Nat} (hN : Nums vs rs) (hs : Src w A vs) (hA : ∀ ad, A = some ad → ad.spot = none) (hn : vs.length = n) (hc : n ≤ c) (m : Nat) (hm : (m : Int) = min (n : Int) 64) :
    Calls Try.prog 32 #[.slice A n c] w (NewRow w (rs.take m)) := by
  have hmn : m ≤ n ∧ m ≤ 64 := by omega
  obtain ⟨i0, hi, hz0, hz1, hz2⟩ := info_parts info_ans
  have HVS := Lib.hid hn
  have HA := Lib.hid hA
  have HN := Lib.hid hN
  have HM := Lib.hid hm
  clear hn hA hN hm
  go_enter Try.func32, Try.ntmps32
  go_wp2_with fail
  rw [show min (n : Int) 64 = (m : Int) from HM.out.symm, Int.toNat_natCast, show max (m : Int) 0 = (m : Int) by omega]
  obtain ⟨p, hp⟩ : ∃ p, p = w.heap.size := ⟨_, rfl⟩
  have hR0 : Rw (w.alloc (.cells #[.slice none 0 0, .slice none 0 0] 96)) w.heap.size p (rs.take 0) [] (.slice none 0 0) (.slice none 0 0) :=
    ⟨by rw [hp]; exact Whole.new w 96 [.slice none 0 0, .slice none 0 0], World.ownsRow_nil _ _ _ _, World.ownsRow_nil _ _ _ _, Nat.le_of_eq hp.symm⟩
  have hc0 : Chg [] w (w.alloc (.cells #[.slice none 0 0, .slice none 0 0] 96)) := (Chg.refl _ _).alloc _
  rw [← hp]
  go_loopw [14] (fun i wr => ∃ k : Nat, k ≤ m ∧ i = .int .i64 (k : Int) ∧ (∃ a, Rw wr w.heap.size p (rs.take k) [] a (.slice none 0 0)) ∧ Chg [] w wr) (fun i _ => m - (intOf i).toNat)
  case atStart => exact ⟨0, Nat.zero_le _, rfl, ⟨_, hR0⟩, hc0⟩
  case round =>
    obtain ⟨k, hk, rfl, ⟨a, hR⟩, hcg⟩ := hrel
    have hwr := hcg.size
    have hpl : w.heap.size ≤ p := by omega
    have HC := Lib.hid hcg
    clear hR0 hc0 hp hcg
    by_cases hlt : k < m
    · have hlv : k < vs.length := by rw [HVS.out]; omega
      have hlr : k < rs.length := by have := HN.out.1; omega
      obtain ⟨ad, rfl, _, hx⟩ := (hs.keep HC.out) (by omega)
      have hx1 := hx k _ (List.getElem?_eq_getElem hlv)
      obtain ⟨b1, o1, s1⟩ := ad
      obtain rfl : s1 = none := HA.out _ rfl
      rw [add_plain] at hx1
      have hnum : Num vs[k] rs[k] := HN.out.2 k _ _ (List.getElem?_eq_getElem hlv) (List.getElem?_eq_getElem hlr)
      have HT := Lib.hid (show ansC (rs.take (k + 1)) = ansC (rs.take k) ++ [.int .i64 (rs[k].getD 0), .bool rs[k].isSome] by rw [List.take_succ_eq_append_getElem hlr]; unfold ansC; rw [List.flatMap_append]; rfl)
      have HTL := Lib.hid (show (rs.take (k + 1)).length = k + 1 by rw [List.length_take]; omega)
      have hTK : (rs.take k).length = k := by rw [List.length_take]; omega
      generalize vs[k] = u at hx1 hnum
      generalize rs[k] = r at hnum HT
      clear hx
      have HR := Lib.hid hR
      have hTK2 := Lib.hid hTK
      clear hR hTK
      have hkm : (k : Int) < (m : Int) := by omega
      go_wp2_with fail
      refine (vof_any hnum).mono ?_
      rintro e w1 ⟨rfl, hc1⟩
      have hR1 := HR.out.keep hc1
      have hwn : w.heap.size ≤ w1.heap.size := Nat.le_trans hwr hc1.size
      obtain ⟨A1, c1, rfl, _, _, _⟩ := rown_slice hR1.ans
      have hO1 := hR1.ans
      have e0 := hR1.rec_.cell 0
      rw [hTK2.out] at hO1 e0
      obtain ⟨X, hX⟩ : ∃ X, X = ansC (rs.take k) := ⟨_, rfl⟩
      rw [← hX] at hO1
      have HX := Lib.hid hX
      have HR1 := Lib.hid hR1
      have HC1 := Lib.hid hc1
      clear hX hR1 hc1
      go_wp2_with (first
        | (at_builtin
           refine wpList_append_own _ rfl (.tmp 24) (.tmp 28) _ rfl w.heap.size 98 i0 _ 2 16 Try.underlying94 hi hz0 hz1 hz2 rfl (by decide) _ k X rfl (rown_keep hO1 ((Chg.refl _ _).alloc _)) ⟨w1.heap.size, 0, none⟩ 1 1 [.int .i64 (r.getD 0), .bool r.isSome] rfl rfl ?c1 ?c2 ?c3 ?c4 ?c5 ?_
           case c1 => exact cells_new _ _ _
           case c2 => simp [Value.oneCell']
           case c3 => simp only [maxLen]; omega
           case c4 => omega
           case c5 => simp; omega
           intro v' w2 hown' hg' _
           have hal := rown_keep hO1 ((Chg.refl [] w1).alloc (.cells #[.int .i64 (r.getD 0), .bool r.isSome] 98))
           have hR2 := (HR1.out.rec_.keep ((Chg.refl [] w1).alloc (.cells #[.int .i64 (r.getD 0), .bool r.isSome] 98))).grown hal (by decide) hg'
           have hL2 := (Low.of_chg (B := w.heap.size) ((Chg.refl [] w1).alloc (.cells #[.int .i64 (r.getD 0), .bool r.isSome] 98))).trans (Low.of_rown hal hg')
           obtain ⟨A3, c3, rfl, _, _, _⟩ := rown_slice hown'
           have d0 := hR2.cell 0
           have g0 := hR2.frozen 0
           have hR3 := hR2.set_ 0 (.slice A3 (k + 1) c3)
           have hO3 := rown_set (j := 0) hown' hR2 (by decide) (.slice A3 (k + 1) c3)
           have hL3 : Low w.heap.size w1 (w2.setCell ⟨p, 0, none⟩ (.slice A3 (k + 1) c3)) := hL2.trans ⟨rfl, rfl, rfl, by simp [World.setCell], fun k hk hl => Below.heap_setCell w2 _ _ k (by simp only; omega)⟩
           clear hal hR2 hL2 hown' hg'))
      go_roundw
      case rel =>
        refine ⟨k + 1, by omega, by go_num, ⟨.slice A3 (k + 1) c3, hR3, ?_, World.ownsRow_nil _ _ _ _, hpl⟩, ((Low.of_chg (HC.out.new HC1.out)).trans hL3).chg (Nat.le_refl _)⟩
        rw [HTL.out, HT.out, ← HX.out]
        exact hO3
      case measure => simp [intOf]; omega
    · obtain rfl : k = m := by omega
      go_wp2_with fail
      go_ret
      exact ⟨p, _, _, rfl, hR, HC.out⟩
/-- Asks' answer. -/
def AsksPost (w : World) (qs : List (Int × Int)) (e : Ending) (w' : World) : Prop := ∃ v, e = .returned v ∧ w'.ownsRow w.heap.size 67 2 v qs.length (qsC qs) ∧ Chg [] w w'
theorem qsC_cells (qs : List (Int × Int)) : ∀ v ∈ qsC qs, v.oneCell' = true := by
  intro v hv
  simp only [qsC, List.mem_flatMap, List.mem_cons, List.not_mem_nil, or_false] at hv
  obtain ⟨q, _, rfl | rfl⟩ := hv <;> rfl
theorem qsC_len (qs : List (Int × Int)) : (qsC qs).length = qs.length * 2 := by
  induction qs with
  | nil => rfl
  | cons q qs ih => simp only [qsC, List.flatMap_cons, List.length_append, List.length_cons, List.length_nil] at ih ⊢; omega
set_option maxHeartbeats 2000000 in
set_option maxRecDepth 100000 in
theorem asks_any (h : Rw w B p rs qs a q) (hq : qs.length ≤ 1000000) (h0 : 0 < qs.length) :
    Calls Try.prog 34 #[.pointer (some ⟨p, 0, none⟩)] w (AsksPost w qs) := by
  obtain ⟨i0, hi, hz0, hz1, hz2⟩ := info_parts info_rask
  obtain ⟨A2, c2, rfl, _, hcm2, _⟩ := rown_slice h.asks
  have e1 := h.rec_.cell 1
  obtain ⟨g, rfl, _⟩ := rown_cell h.asks rfl (qs_get (List.getElem?_eq_getElem h0)).1
  have hcells : ∀ (j : Nat) (u : Value), (qsC qs)[j]? = some u → w.cell? ((⟨g, 0, none⟩ : Addr).add j) = some u := h.asks.cells rfl
  have HL := Lib.hid (qsC_len qs)
  have HO := Lib.hid hcells
  clear hcells h
  obtain ⟨N, hN⟩ : ∃ N, N = qs.length := ⟨_, rfl⟩
  have HN := Lib.hid hN
  rw [← hN] at e1 hq h0 HL
  clear hN
  go_enter Try.func34, Try.ntmps34
  go_wp2_with (first
    | (at_builtin
       refine wpList_append_own _ rfl (.const (.slice none 0 0)) (.tmp 6) _ rfl w.heap.size 67 i0 _ 2 16 Try.underlying57 hi hz0 hz1 hz2 rfl (by decide) _ 0 [] rfl (World.ownsRow_nil w w.heap.size 67 2) ⟨g, 0, none⟩ N c2 (qsC qs) rfl HL.out HO.out (qsC_cells qs) ?c3 ?c4 ?c5 ?_
       case c3 => simp only [maxLen]; omega
       case c4 => omega
       case c5 => exact Nat.le_refl _
       intro v' w2 hown' hg' _))
  go_ret
  rw [HN.out, Nat.zero_add, List.nil_append] at hown'
  have hg2 : w.grownBy w2 none := hg'
  exact ⟨_, rfl, hown', Chg.of_grown hg2 fun g hr _ => by cases hr⟩
end
end Go.Proofs.Ytigbnmckdjlihaa
