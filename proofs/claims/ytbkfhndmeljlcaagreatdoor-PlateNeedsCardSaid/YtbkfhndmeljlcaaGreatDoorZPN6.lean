/-
  PN: MadeCh, TapeFlow, MmNew, BEq, ShadeC, ShadeM.
-/
import Derived.Test.YtbkfhndmeljlcaaGreatDoorZPN1
import Derived.Test.YtbkfhndmeljlcaaGreatDoorZPN2
import Derived.Test.YtbkfhndmeljlcaaGreatDoorZPN3
import Derived.Test.YtbkfhndmeljlcaaGreatDoorZPN4
import Derived.Test.YtbkfhndmeljlcaaGreatDoorZPN5
import Derived.Laws.BitsAllLaws
import Derived.Deep.RegionLaw
import Derived.Test.YtbkfhndmeljlcaaGreatDoorChecked
import Derived.Deep.QuietTactic
import Derived.BigQuiet
namespace Go.Proofs.YtbkfhndmeljlcaaGreatDoor
open Go.RowKit
/-- The cells of changes. -/
def chCs : List ChV → List Value
  | [] => []
  | a :: l => chC a ++ chCs l
theorem chCs_len : ∀ l, (chCs l).length = l.length * 2
  | [] => rfl
  | a :: l => by rw [chCs, List.length_append, chCs_len l]; simp [chC]; omega
theorem chCs_app : ∀ l m, chCs (l ++ m) = chCs l ++ chCs m
  | [], _ => rfl
  | a :: l, m => by rw [List.cons_append, chCs, chCs, chCs_app l m, List.append_assoc]
theorem chCs_one (a : ChV) : chCs [a] = chC a := by simp [chCs]
theorem chCs_get : ∀ (l : List ChV) (k : Nat) (a : ChV) (j : Nat), l[k]? = some a → j < 2 → (chCs l)[k * 2 + j]? = (chC a)[j]?
  | [], k, a, j, h, hj => by simp at h
  | b :: l, 0, a, j, h, hj => by
    simp at h; subst h
    rw [chCs, List.getElem?_append_left (by simp [chC]; omega)]
    congr 1; omega
  | b :: l, k + 1, a, j, h, hj => by
    simp at h
    rw [chCs, List.getElem?_append_right (by simp [chC]; omega)]
    rw [← chCs_get l k a j h hj]
    congr 1; simp [chC]; omega
/-- A change whose bytes lie in a block of their own, from B0 on. -/
structure MadeCh (w : World) (B0 : Nat) (a : ChV) : Prop where
  b : ∃ g, a.bA = some ⟨g, 0, none⟩ ∧ B0 ≤ g ∧ Whole w g 5 (bts a.B)
  bl : a.B.length = 64
  bn : a.bn = 64
  bc : a.bc = 64
  p : 0 ≤ a.page ∧ a.page < 65536
theorem MadeCh.ok {w : World} {B0 : Nat} {a : ChV} (h : MadeCh w B0 a) : ChOk w a := by
  obtain ⟨g, hg, _, hW⟩ := h.b
  refine ⟨by have := h.p; omega, by have := h.p; omega, ?_⟩
  rw [hg, h.bn, h.bc]
  have := Bs.of_all hW (by rw [h.bl]; omega)
  rwa [h.bl] at this
theorem MadeCh.chg {w w' : World} {B0 : Nat} {a : ChV} {T : List Nat} (h : MadeCh w B0 a) (hc : Chg T w w') (hT : ∀ i ∈ T, i < B0 ∨ w.heap.size ≤ i) : MadeCh w' B0 a := by
  obtain ⟨g, hg, hB, hW⟩ := h.b
  exact { h with b := ⟨g, hg, hB, hW.chg hc fun hm => by have := hT g hm; have := hW.lt; omega⟩ }
theorem MadeCh.grown {w w' : World} {B0 B2 m : Nat} {v2 : Value} {ys : List Value} {a : ChV} (h : MadeCh w B0 a) (h2 : w.ownsRow B2 44 2 v2 m ys) (hg : w.grownBy w' v2.ownBlock) : MadeCh w' B0 a := by
  obtain ⟨g, hg1, hB, hW⟩ := h.b
  exact { h with b := ⟨g, hg1, hB, whole_grown hW h2 (by decide) hg⟩ }
theorem rown_chg {w w' : World} {B n k : Nat} {e : TypeId} {v : Value} {xs : List Value} {T : List Nat} (h : w.ownsRow B e k v n xs) (hc : Chg T w w') (hT : ∀ i ∈ T, i < B ∨ w.heap.size ≤ i) : w'.ownsRow B e k v n xs := by
  refine ⟨h.1, h.2.imp id ?_⟩
  rintro ⟨g, cap, cur, rfl, hb, hg, r⟩
  refine ⟨g, cap, cur, rfl, hb, ?_, r⟩
  have hgl : g < w.heap.size := by
    rcases Nat.lt_or_ge g w.heap.size with hlt | hge
    · exact hlt
    · rw [Array.getElem?_eq_none hge] at hg; cases hg
  rw [hc.block g hgl (fun hm => by have := hT g hm; omega)]
  exact hg
theorem info_change : (Tryz.prog.info? 44).map (fun i => (i.zero, i.size, i.bytes)) = some (some (.agg #[.int .i64 0, .slice none 0 0]), 2, 32) := by kernel_rfl
theorem cells_page (w : World) (xs : List Value) (t : Nat) : ∀ (j : Nat) (u : Value), xs[j]? = some u → (w.alloc (.cells xs.toArray t)).cell? ((⟨w.heap.size, 0, none⟩ : Addr).add j) = some u := fun j u hj => by
  rw [add_plain, Nat.zero_add, (Whole.new w t xs).cell]; exact hj
/-- A change whose bytes begin a block of their own, from B0 on. -/
structure RMade (w : World) (B0 : Nat) (a : ChV) : Prop where
  b : ∃ g r, a.bA = some ⟨g, 0, none⟩ ∧ B0 ≤ g ∧ Whole w g 5 (bts a.B ++ r) ∧ a.bc = 64 + r.length ∧ 64 + r.length ≤ 9223372036854775807
  bl : a.B.length = 64
  bn : a.bn = 64
  p : 0 ≤ a.page ∧ a.page < 65536
theorem RMade.ok {w : World} {B0 : Nat} {a : ChV} (h : RMade w B0 a) : ChOk w a := by
  obtain ⟨g, r, hg, _, hW, hc, hm⟩ := h.b
  refine ⟨by have := h.p; omega, by have := h.p; omega, ?_⟩
  rw [hg, h.bn, hc]
  exact Bs.of_whole hW h.bl (by rw [List.take_left' (by rw [bts_len, h.bl])]) (by omega) hm
theorem RMade.chg {w w' : World} {B0 : Nat} {a : ChV} {T : List Nat} (h : RMade w B0 a) (hc : Chg T w w') (hT : ∀ i ∈ T, i < B0 ∨ w.heap.size ≤ i) : RMade w' B0 a := by
  obtain ⟨g, r, hg, hB, hW, hr⟩ := h.b
  exact { h with b := ⟨g, r, hg, hB, hW.chg hc (fun hm => by have := hT g hm; have := hW.lt; omega), hr⟩ }
theorem RMade.grown {w w' : World} {B0 B2 m : Nat} {v2 : Value} {ys : List Value} {a : ChV} (h : RMade w B0 a) (h2 : w.ownsRow B2 44 2 v2 m ys) (hg : w.grownBy w' v2.ownBlock) : RMade w' B0 a := by
  obtain ⟨g, r, hg1, hB, hW, hr⟩ := h.b
  exact { h with b := ⟨g, r, hg1, hB, whole_grown hW h2 (by decide) hg, hr⟩ }
theorem chs_own' {w : World} {B n : Nat} {e : TypeId} {v : Value} {l : List ChV} (h : w.ownsRow B e 2 v n (chCs l)) (hok : ∀ a ∈ l, ChOk w a) :
    ∃ A c, v = .slice A n c ∧ l.length = n ∧ Chs w A l ∧ n ≤ 9223372036854775807 ∧ n ≤ c ∧ (∀ ad, A = some ad → ad.spot = none) := by
  have hl : l.length = n := by have := h.1; rw [chCs_len] at this; omega
  rcases h.2 with ⟨rfl, rfl⟩ | ⟨g, cap, cur, rfl, hb, hg, hn, hc, hs, ht⟩
  · exact ⟨none, 0, rfl, hl, ⟨fun h => absurd h (by omega), hok⟩, by omega, Nat.le_refl _, fun ad e => by cases e⟩
  · have hgl : g < w.heap.size := by
      rcases Nat.lt_or_ge g w.heap.size with hlt | hge
      · exact hlt
      · rw [Array.getElem?_eq_none hge] at hg; cases hg
    refine ⟨_, cap, rfl, hl, ⟨fun _ => ⟨g, 0, rfl, hgl, fun k a ha => ?_⟩, hok⟩, by unfold maxLen at hc; omega, hn, fun ad e => by injection e with e; subst e; rfl⟩
    have hx : ∀ j u, (chCs l)[j]? = some u → w.cell? ((⟨g, 0, none⟩ : Addr).add j) = some u := h.cells rfl
    have q : ∀ j, j < 2 → ∀ u, (chC a)[j]? = some u → w.cell? ⟨g, k * 2 + j, none⟩ = some u := fun j hj u hu => by
      have := hx (k * 2 + j) u ((chCs_get l k a j ha hj).trans hu)
      rwa [add_plain, Nat.zero_add] at this
    simp only [Nat.zero_add]
    exact ⟨q 0 (by omega) _ rfl, q 1 (by omega) _ rfl⟩
theorem MadeCh.rmade {w : World} {B0 : Nat} {a : ChV} (h : MadeCh w B0 a) : RMade w B0 a := by
  obtain ⟨g, hg, hB, hW⟩ := h.b
  exact ⟨⟨g, [], hg, hB, by rw [List.append_nil]; exact hW, by rw [h.bc]; rfl, by simp⟩, h.bl, h.bn, h.p⟩
end Go.Proofs.YtbkfhndmeljlcaaGreatDoor
namespace Go.Proofs.YtbkfhndmeljlcaaGreatDoor
open Go.RowKit
def nochg : List UInt8 := [110, 111, 32, 99, 104, 97, 110, 103, 101, 115]
/-- The tape goes on, rows of that constant are marked from B on, all else stays. -/
structure TapeR (p B : Nat) (A : Option Addr) (n c : Nat) (l : List Int) (a b : World) : Prop where
  os : b.os = a.os
  tape : b.tape = a.tape
  output : b.output = a.output
  size : a.heap.size ≤ b.heap.size
  block : ∀ k, k < a.heap.size → k ≠ p → b.heap[k]? = a.heap[k]? ∨ (B ≤ k ∧ ∃ fz fz', a.heap[k]? = some (.cells (bts nochg).toArray 5 fz) ∧ b.heap[k]? = some (.cells (bts nochg).toArray 5 fz'))
  tp : ∀ i, Tp a p A n c l i → ∃ j, Tp b p A n c l j
/-- What lies below B stays, but for the tape. -/
structure TapeH (p B : Nat) (A : Option Addr) (n c : Nat) (l : List Int) (a b : World) : Prop where
  os : b.os = a.os
  tape : b.tape = a.tape
  output : b.output = a.output
  size : a.heap.size ≤ b.heap.size
  block : ∀ k, k < B → k < a.heap.size → k ≠ p → b.heap[k]? = a.heap[k]?
  tp : ∀ i, Tp a p A n c l i → ∃ j, Tp b p A n c l j
section
variable {p B B3 n c : Nat} {A : Option Addr} {l : List Int}
theorem TapeR.of_chg {a b : World} (h : Chg [] a b) : TapeR p B A n c l a b := ⟨h.os, h.tape, h.output, h.size, fun k hk _ => .inl (h.block k hk (by simp)), fun i hi => ⟨i, hi.keep h⟩⟩
theorem TapeR.next {a b : World} (h : Chg [p] a b) {j : Nat} (ht : Tp b p A n c l j) : TapeR p B A n c l a b := ⟨h.os, h.tape, h.output, h.size, fun k hk hp => .inl (h.block k hk (by simpa using hp)), fun _ _ => ⟨j, ht⟩⟩
theorem TapeR.refl (a : World) : TapeR p B A n c l a a := .of_chg (Chg.refl _ _)
theorem TapeR.trans {a b d : World} (h : TapeR p B A n c l a b) (k : TapeR p B A n c l b d) : TapeR p B A n c l a d := by
  refine ⟨k.os.trans h.os, k.tape.trans h.tape, k.output.trans h.output, Nat.le_trans h.size k.size, fun i hi hp => ?_, fun i hi => by obtain ⟨j, hj⟩ := h.tp i hi; exact k.tp j hj⟩
  rcases h.block i hi hp with h1 | ⟨hB, fz, fz', h1, h2⟩
  · rcases k.block i (Nat.lt_of_lt_of_le hi h.size) hp with k1 | ⟨hB, fz, fz', k1, k2⟩
    · exact .inl (k1.trans h1)
    · exact .inr ⟨hB, fz, fz', by rw [← h1]; exact k1, k2⟩
  · rcases k.block i (Nat.lt_of_lt_of_le hi h.size) hp with k1 | ⟨_, fz2, fz3, k1, k2⟩
    · exact .inr ⟨hB, fz, fz', h1, k1.trans h2⟩
    · exact .inr ⟨hB, fz, fz3, h1, k2⟩
theorem TapeR.h {a b : World} (h : TapeR p B A n c l a b) (hB : B3 ≤ B) : TapeH p B3 A n c l a b :=
  ⟨h.os, h.tape, h.output, h.size, fun k h3 hk hp => (h.block k hk hp).elim id fun ⟨hb, _⟩ => by omega, h.tp⟩
theorem TapeH.trans {a b d : World} (h : TapeH p B A n c l a b) (k : TapeH p B A n c l b d) : TapeH p B A n c l a d :=
  ⟨k.os.trans h.os, k.tape.trans h.tape, k.output.trans h.output, Nat.le_trans h.size k.size, fun i hB hi hp => (k.block i hB (Nat.lt_of_lt_of_le hi h.size) hp).trans (h.block i hB hi hp), fun i hi => by obtain ⟨j, hj⟩ := h.tp i hi; exact k.tp j hj⟩
theorem TapeH.whole {a b : World} (h : TapeH p B A n c l a b) {g t : Nat} {cs : List Value} (hW : Whole a g t cs) (hg : g < B) (hp : g ≠ p) : Whole b g t cs := (h.block g hg hW.lt hp).trans hW
theorem TapeH.chg {a b : World} (h : TapeH p B A n c l a b) (hB : a.heap.size ≤ B) : Chg [p] a b := ⟨h.os, h.tape, h.output, h.size, fun k hk hn => h.block k (by omega) hk (by simpa using hn)⟩
theorem TapeH.after {a b W : World} (h1 : Chg [p] a b) (h2 : TapeH p B A n c l b W) (hB : a.heap.size ≤ B) : Chg [p] a W :=
  ⟨h2.os.trans h1.os, h2.tape.trans h1.tape, h2.output.trans h1.output, Nat.le_trans h1.size h2.size, fun k hk hn => (h2.block k (by omega) (Nat.lt_of_lt_of_le hk h1.size) (by simpa using hn)).trans (h1.block k hk hn)⟩
theorem tf_lt {W : World} {g : Nat} {o : Obj} (h : W.heap[g]? = some o) : g < W.heap.size := by
  rcases Nat.lt_or_ge g W.heap.size with hlt | hge
  · exact hlt
  · rw [Array.getElem?_eq_none hge] at h; cases h
end
end Go.Proofs.YtbkfhndmeljlcaaGreatDoor
namespace Go.Proofs.YtbkfhndmeljlcaaGreatDoor
open Go.RowKit

/-- A new memory. -/
def NewPost (w : World) (l : List UInt8) (k most : Nat) (e : Ending) (w' : World) : Prop :=
  ∃ p gC gD, e = .returned (.pointer (some ⟨p, 0, none⟩)) ∧ Mm w' p gC gD l [] (falses k) [] most ∧ w.heap.size ≤ p ∧ w.heap.size ≤ gC ∧ w.heap.size ≤ gD ∧ Chg [] w w'

section
variable {w : World}
theorem NewPost.drew {l : List UInt8} {k most : Nat} {e : Ending} {w' : World} (h : NewPost w l k most e w') : NewPost w l k most e w'.drew := by
  obtain ⟨p, gC, gD, he, hM, h1, h2, h3, hc⟩ := h
  exact ⟨p, gC, gD, he, hM.keep (Chg.refl [] w').drew, h1, h2, h3, hc.drew⟩
variable {A : Option Addr} {n c : Nat} {l : List UInt8}
end
end Go.Proofs.YtbkfhndmeljlcaaGreatDoor
namespace Go.Proofs.YtbkfhndmeljlcaaGreatDoor
open Go.RowKit
theorem str_ne {l m : List UInt8} : ((strOf l).toList == (strOf m).toList) = decide (l = m) := by
  rw [ByteArray.toList_eq, ByteArray.toList_eq]
  show (l == m) = decide (l = m)
  by_cases h : l = m
  · subst h; simp
  · rw [decide_eq_false h, beq_eq_false_iff_ne]; exact h
section
variable {w : World} {A A2 : Option Addr} {n c n2 c2 : Nat}
set_option maxHeartbeats 1000000 in
set_option maxRecDepth 100000 in
theorem bequal_any {l m : List UInt8} (h : Bs w A n c l) (h2 : Bs w A2 n2 c2 m) :
    Calls Tryz.prog 104 #[.slice A n c, .slice A2 n2 c2] w fun e w' => e = .returned (.bool (decide (l = m))) ∧ w = w' := by
  have v1 := h.str (P := Tryz.prog) 33 5 9 Tryz.underlying33 Tryz.underlying5 Tryz.underlying9
  have v2 := h2.str (P := Tryz.prog) 33 5 9 Tryz.underlying33 Tryz.underlying5 Tryz.underlying9
  have HE := Lib.hid (str_ne (l := l) (m := m))
  go_enter Tryz.func104, Tryz.ntmps104
  go_wp2_with fail
  go_ret
  exact ⟨by rw [← HE.out]; rfl, rfl⟩
end
end Go.Proofs.YtbkfhndmeljlcaaGreatDoor
namespace Go.Proofs.YtbkfhndmeljlcaaGreatDoor
open Go.RowKit
/-- Page i of bytes. -/
def pg (L : List UInt8) (i : Nat) : List UInt8 := (L.drop (i * 64)).take 64
def Chs2 (ls : List ChV) (cs : List (Nat × List UInt8)) : Prop := ls.map (fun a => (a.page, a.B)) = cs.map (fun c => ((c.1 : Int), c.2))
theorem Chs2.len {ls : List ChV} {cs : List (Nat × List UInt8)} (h : Chs2 ls cs) : ls.length = cs.length := by
  have := congrArg List.length h; simpa using this
theorem Chs2.snoc {ls : List ChV} {cs : List (Nat × List UInt8)} (h : Chs2 ls cs) {a : ChV} {p : Nat} (hp : a.page = (p : Int)) : Chs2 (ls ++ [a]) (cs ++ [(p, a.B)]) := by
  unfold Chs2 at *
  rw [List.map_append, List.map_append, h]; simp [hp]
theorem Chs2.at {ls : List ChV} {cs : List (Nat × List UInt8)} (h : Chs2 ls cs) {k : Nat} {a : ChV} {c : Nat × List UInt8} (ha : ls[k]? = some a) (hc : cs[k]? = some c) : a.page = (c.1 : Int) ∧ a.B = c.2 := by
  have := congrArg (fun l : List (Int × List UInt8) => l[k]?) h
  simp only [List.getElem?_map, ha, hc, Option.map_some] at this
  injection this with this
  injection this with h1 h2
  exact ⟨h1, h2⟩
theorem MadeCh.more {w : World} {B0 B1 : Nat} {a : ChV} (h : MadeCh w B0 a) (hB : B1 ≤ B0) : MadeCh w B1 a := by
  obtain ⟨g, hg, hb, hW⟩ := h.b
  exact { h with b := ⟨g, hg, Nat.le_trans hB hb, hW⟩ }
theorem rown_more {w : World} {B B' n k : Nat} {e : TypeId} {v : Value} {xs : List Value} (h : w.ownsRow B e k v n xs) (hB : B' ≤ B) : w.ownsRow B' e k v n xs := by
  refine ⟨h.1, h.2.imp id ?_⟩
  rintro ⟨g, cap, cur, rfl, hb, r⟩
  exact ⟨g, cap, cur, rfl, Nat.le_trans hB hb, r⟩
end Go.Proofs.YtbkfhndmeljlcaaGreatDoor
namespace Go.Proofs.YtbkfhndmeljlcaaGreatDoor
open Go.RowKit
def unitL : List UInt8 := [85, 78, 73, 84]
def metaL (t p : Nat) : List UInt8 := unitL ++ be4 t ++ be4 p ++ zeros 52
theorem metaL_len (t p : Nat) : (metaL t p).length = 64 := rfl
/-- What Read takes. -/
def isMeta (l : List UInt8) : Prop := getI l 4 ≤ 2048 ∧ getI l 8 ≤ 64 ∧ l = metaL (getI l 4) (getI l 8)
theorem bts_unit : bts unitL = [.int .u8 85, .int .u8 78, .int .u8 73, .int .u8 84] := rfl
section
variable {w : World}
set_option maxHeartbeats 2000000 in
set_option maxRecDepth 100000 in
theorem meta_any (t p : Nat) (ht : t ≤ 2147483647) (hp : p ≤ 2147483647) :
    Calls Tryz.prog 46 #[.int .i64 (t : Int), .int .i64 (p : Int)] w (BytesPost w (metaL t p)) := by
  obtain ⟨i0, hi, hz, hs1, hb1⟩ := info_parts info_byte
  have et : (t : Int) % 4294967296 = (t : Int) := by omega
  have ep : (p : Int) % 4294967296 = (p : Int) := by omega
  have kc := kc_at w rfl
  go_enter Tryz.func46, Tryz.ntmps46
  go_wp2_with fail
  clear kc
  have hM := bs_const w 5 unitL (4, 5) (by simp [unitL])
  rw [bts_unit] at hM
  have hc1 : Chg [] w (w.alloc (.cells #[.int .u8 85, .int .u8 78, .int .u8 73, .int .u8 84] 5 (4, 5))) := (Chg.refl [] w).alloc _
  generalize w.alloc (.cells #[.int .u8 85, .int .u8 78, .int .u8 73, .int .u8 84] 5 (4, 5)) = w1 at hc1 hM ⊢
  generalize w.heap.size = g0 at hM ⊢
  have HC1 := Lib.hid hc1
  have HM := Lib.hid hM
  clear hc1 hM
  have hM4 : Bs w1 (some ⟨g0, 0, none⟩) 4 4 unitL := HM.out
  refine (put_b hM4 t (by omega) (by omega)).mono ?_
  rintro e w2 ⟨v2, rfl, ho2, hc2⟩
  have hl2 : (unitL ++ be4 t).length = 8 := rfl
  rw [hl2] at ho2
  obtain ⟨A2, c2, rfl, hB2, _⟩ := Bs.of_own ho2
  have HB2 := Lib.hid hB2
  have HC2 := Lib.hid (HC1.out.new hc2)
  clear hM4 HM hl2 ho2 hB2 hc2
  go_wp2_with fail
  refine (put_b HB2.out p (by omega) (by omega)).mono ?_
  rintro e w5 ⟨v5, rfl, ho5, hc5⟩
  have hl5 : (unitL ++ be4 t ++ be4 p).length = 12 := rfl
  rw [hl5] at ho5
  have hsz := HC2.out.size
  have HRL := Lib.hid (show metaL t p = (unitL ++ be4 t ++ be4 p) ++ zeros 52 from rfl)
  generalize unitL ++ be4 t ++ be4 p = Z at ho5 HRL
  obtain ⟨g, r, rfl, hbg, _, _⟩ := own_whole ho5 (by omega)
  obtain ⟨g', cap', w6, hr, ho6, hg6, hor⟩ := run_append_zeros (P := Tryz.prog) w5 w2.heap.size 33 3 33 5 i0 _ 1 .i64 Tryz.underlying33 Tryz.underlying3 hi hz hs1 hb1 rfl rfl g 12 (12 + r.length) (bts Z) ho5 52 (by unfold maxLen; omega) (by omega) hc5.size
  have hc6 : Chg [] w2 w6 := hc5.own ho5 (Nat.le_refl _) hg6
  have HR := Lib.hid hr
  have HO := Lib.hid ho6
  have HC6 := Lib.hid (HC2.out.new hc6)
  clear hr ho6 hg6 hor hc6 ho5 hc5 hl5
  go_wp2_with (at_builtin; refine Lib.wpList_append_run w5 rfl (.tmp 15) (.tmp 18) 33 3 rfl _ _ rfl rfl _ _ HR.out ?_)
  go_ret
  refine ⟨_, rfl, ?_, HC6.out⟩
  have e1 : (metaL t p).length = 12 + 52 := metaL_len t p
  have e2 : bts (metaL t p) = bts Z ++ List.replicate 52 (.int .u8 0) := by rw [HRL.out, bts_app, bts_zeros]
  rw [e1, e2]
  exact own_more HO.out hsz
/-- What Read answers. -/
def ReadMPost (l : List UInt8) (w : World) (e : Ending) (w' : World) : Prop :=
  (isMeta l ∧ e = .returned (.tuple #[.int .i64 ((getI l 4 : Nat) : Int), .int .i64 ((getI l 8 : Nat) : Int), .bool true]) ∧ Chg [] w w') ∨
  (¬ isMeta l ∧ e = .returned (.tuple #[.int .i64 0, .int .i64 0, .bool false]) ∧ Chg [] w w')
set_option maxHeartbeats 2000000 in
set_option maxRecDepth 100000 in
theorem shread_any {A : Option Addr} {n c : Nat} {l : List UInt8} (h : Bs w A n c l) : Calls Tryz.prog 73 #[.slice A n c] w (ReadMPost l w) := by
  have H := Lib.hid h
  have h4 := getI_lt l 4
  have h8 := getI_lt l 8
  clear h
  go_enter Tryz.func73, Tryz.ntmps73
  go_wp2_with fail
  refine (get_b H.out 4 (by omega)).mono ?_
  rintro e w' ⟨rfl, rfl⟩
  go_wp2_with fail
  refine (get_b H.out 8 (by omega)).mono ?_
  rintro e w' ⟨rfl, rfl⟩
  have HM := Lib.hid (show isMeta l ↔ (getI l 4 ≤ 2048 ∧ getI l 8 ≤ 64 ∧ l = metaL (getI l 4) (getI l 8)) from Iff.rfl)
  obtain ⟨t, ht⟩ : ∃ t, t = getI l 4 := ⟨_, rfl⟩
  obtain ⟨p, hp⟩ : ∃ p, p = getI l 8 := ⟨_, rfl⟩
  rw [← ht, ← hp] at HM ⊢
  rw [← ht] at h4
  rw [← hp] at h8
  have HT := Lib.hid ht
  have HP := Lib.hid hp
  clear ht hp
  by_cases ha : 2048 < t
  · have HNO := Lib.hid (show ¬ isMeta l from fun h => by have := (HM.out.1 h).1; omega)
    have haI : (2048 : Int) < (t : Int) := by omega
    go_wp2_with fail
    go_ret3
    exact .inr ⟨HNO.out, rfl, Chg.refl _ _⟩
  · have haI : ¬ (2048 : Int) < (t : Int) := by omega
    by_cases hb : 64 < p
    · have HNO := Lib.hid (show ¬ isMeta l from fun h => by have := (HM.out.1 h).2.1; omega)
      have hbI : (64 : Int) < (p : Int) := by omega
      go_wp2_with fail
      go_ret3
      exact .inr ⟨HNO.out, rfl, Chg.refl _ _⟩
    · have hbI : ¬ (64 : Int) < (p : Int) := by omega
      go_wp2_with fail
      refine (meta_any t p (by omega) (by omega)).mono ?_
      rintro e w2 ⟨v2, rfl, ho2, hc2⟩
      obtain ⟨A2, c2, rfl, hB2, _⟩ := Bs.of_own ho2
      have HB2 := Lib.hid hB2
      have HC2 := Lib.hid hc2
      clear ho2 hB2 hc2
      go_wp2_with fail
      refine (bequal_any (H.out.keep HC2.out) HB2.out).mono ?_
      rintro e w' ⟨rfl, rfl⟩
      by_cases heq : l = metaL t p
      · have hde : decide (l = metaL t p) = true := decide_eq_true heq
        rw [hde]
        have HY := Lib.hid (HM.out.2 ⟨by omega, by omega, heq⟩)
        clear hde heq
        go_wp2_with fail
        go_ret3
        exact .inl ⟨HY.out, by rw [← HT.out, ← HP.out]; rfl, HC2.out⟩
      · have hde : decide (l = metaL t p) = false := decide_eq_false heq
        rw [hde]
        have HY := Lib.hid (show ¬ isMeta l from fun h => heq (HM.out.1 h).2.2)
        clear hde heq
        go_wp2_with fail
        go_ret3
        exact .inr ⟨HY.out, rfl, HC2.out⟩
end
end Go.Proofs.YtbkfhndmeljlcaaGreatDoor
