/-
  PB: Fresh, MadeCh, Waits, WordPure, Mm, MmNew, MmMore, BEq, ShadeC, ShadeM.
-/
import Derived.Test.YtbkfhndmeljlcaaGreatDoorZPB1
import Derived.Test.YtbkfhndmeljlcaaGreatDoorZPB2
import Derived.Test.YtbkfhndmeljlcaaGreatDoorZPB3
import Derived.Test.YtbkfhndmeljlcaaGreatDoorChecked
import Derived.Deep.QuietTactic
import Derived.BigQuiet
import Derived.BigRegion
import Derived.Deep.RegionWith
import Derived.Laws.BitsLemmas
import Derived.IntWalk
namespace Go.Proofs.YtbkfhndmeljlcaaGreatDoor
open Go.RowKit

theorem info_u8 : (Tryz.prog.info? 5).map (fun i => (i.zero, i.size, i.bytes)) = some (some (.int .u8 0), 1, 1) := by kernel_rfl
theorem info_bool : (Tryz.prog.info? 4).map (fun i => (i.zero, i.size, i.bytes)) = some (some (.bool false), 1, 1) := by kernel_rfl
theorem info_int : (Tryz.prog.info? 3).map (fun i => (i.zero, i.size, i.bytes)) = some (some (.int .i64 0), 1, 8) := by kernel_rfl
theorem size_u8 : (Tryz.prog.info? 5).map (·.size) = some 1 := by kernel_rfl

theorem make_u8 (n : Nat) (h : n ≤ 1000000) (w : World) :
    (Instr.makeSlice 33 (.int .i64 (n : Int)) (.int .i64 (n : Int))).run Tryz.prog w = .ok (.slice (some ⟨w.heap.size, 0, none⟩) n n) (w.alloc (.cells (bts (zeros n)).toArray 5)) := by
  rw [bts_zeros]
  obtain ⟨i, hi, hz, hs, hb⟩ := info_parts info_u8
  exact run_make1 _ _ i _ rfl Tryz.underlying33 hi hz hs n (by rw [hb]; omega) (by omega) w
theorem make_bool (n : Nat) (h : n ≤ 1000000) (w : World) :
    (Instr.makeSlice 78 (.int .i64 (n : Int)) (.int .i64 (n : Int))).run Tryz.prog w = .ok (.slice (some ⟨w.heap.size, 0, none⟩) n n) (w.alloc (.cells (bls (falses n)).toArray 4)) := by
  rw [bls_falses]
  obtain ⟨i, hi, hz, hs, hb⟩ := info_parts info_bool
  exact run_make1 _ _ i _ rfl Tryz.underlying78 hi hz hs n (by rw [hb]; omega) (by omega) w

end Go.Proofs.YtbkfhndmeljlcaaGreatDoor
namespace Go.Proofs.YtbkfhndmeljlcaaGreatDoor
open Go.RowKit
/-- The cells of changes. -/
def chCs : List ChV → List Value
  | [] => []
  | a :: l => chC a ++ chCs l
theorem chCs_len : ∀ l, (chCs l).length = l.length * 2
  | [] => rfl
  | a :: l => by rw [chCs, List.length_append, chCs_len l]; simp [chC]; omega
theorem chCs_app : ∀ l m, chCs (l ++ m) = chCs l ++ chCs m
  | [], _ => rfl
  | a :: l, m => by rw [List.cons_append, chCs, chCs, chCs_app l m, List.append_assoc]
theorem chCs_one (a : ChV) : chCs [a] = chC a := by simp [chCs]
theorem chCs_get : ∀ (l : List ChV) (k : Nat) (a : ChV) (j : Nat), l[k]? = some a → j < 2 → (chCs l)[k * 2 + j]? = (chC a)[j]?
  | [], k, a, j, h, hj => by simp at h
  | b :: l, 0, a, j, h, hj => by
    simp at h; subst h
    rw [chCs, List.getElem?_append_left (by simp [chC]; omega)]
    congr 1; omega
  | b :: l, k + 1, a, j, h, hj => by
    simp at h
    rw [chCs, List.getElem?_append_right (by simp [chC]; omega)]
    rw [← chCs_get l k a j h hj]
    congr 1; simp [chC]; omega
/-- A change whose bytes lie in a block of their own, from B0 on. -/
structure MadeCh (w : World) (B0 : Nat) (a : ChV) : Prop where
  b : ∃ g, a.bA = some ⟨g, 0, none⟩ ∧ B0 ≤ g ∧ Whole w g 5 (bts a.B)
  bl : a.B.length = 64
  bn : a.bn = 64
  bc : a.bc = 64
  p : 0 ≤ a.page ∧ a.page < 65536
theorem MadeCh.ok {w : World} {B0 : Nat} {a : ChV} (h : MadeCh w B0 a) : ChOk w a := by
  obtain ⟨g, hg, _, hW⟩ := h.b
  refine ⟨by have := h.p; omega, by have := h.p; omega, ?_⟩
  rw [hg, h.bn, h.bc]
  have := Bs.of_all hW (by rw [h.bl]; omega)
  rwa [h.bl] at this
theorem MadeCh.small {w : World} {B0 : Nat} {a : ChV} (h : MadeCh w B0 a) : Small a := ⟨h.p.1, h.p.2, h.bn⟩
theorem MadeCh.chg {w w' : World} {B0 : Nat} {a : ChV} {T : List Nat} (h : MadeCh w B0 a) (hc : Chg T w w') (hT : ∀ i ∈ T, i < B0 ∨ w.heap.size ≤ i) : MadeCh w' B0 a := by
  obtain ⟨g, hg, hB, hW⟩ := h.b
  exact { h with b := ⟨g, hg, hB, hW.chg hc fun hm => by have := hT g hm; have := hW.lt; omega⟩ }
theorem MadeCh.grown {w w' : World} {B0 B2 m : Nat} {v2 : Value} {ys : List Value} {a : ChV} (h : MadeCh w B0 a) (h2 : w.ownsRow B2 44 2 v2 m ys) (hg : w.grownBy w' v2.ownBlock) : MadeCh w' B0 a := by
  obtain ⟨g, hg1, hB, hW⟩ := h.b
  exact { h with b := ⟨g, hg1, hB, whole_grown hW h2 (by decide) hg⟩ }
theorem rown_chg {w w' : World} {B n k : Nat} {e : TypeId} {v : Value} {xs : List Value} {T : List Nat} (h : w.ownsRow B e k v n xs) (hc : Chg T w w') (hT : ∀ i ∈ T, i < B ∨ w.heap.size ≤ i) : w'.ownsRow B e k v n xs := by
  refine ⟨h.1, h.2.imp id ?_⟩
  rintro ⟨g, cap, cur, rfl, hb, hg, r⟩
  refine ⟨g, cap, cur, rfl, hb, ?_, r⟩
  have hgl : g < w.heap.size := by
    rcases Nat.lt_or_ge g w.heap.size with hlt | hge
    · exact hlt
    · rw [Array.getElem?_eq_none hge] at hg; cases hg
  rw [hc.block g hgl (fun hm => by have := hT g hm; omega)]
  exact hg
theorem info_change : (Tryz.prog.info? 44).map (fun i => (i.zero, i.size, i.bytes)) = some (some (.agg #[.int .i64 0, .slice none 0 0]), 2, 32) := by kernel_rfl
theorem cells_page (w : World) (xs : List Value) (t : Nat) : ∀ (j : Nat) (u : Value), xs[j]? = some u → (w.alloc (.cells xs.toArray t)).cell? ((⟨w.heap.size, 0, none⟩ : Addr).add j) = some u := fun j u hj => by
  rw [add_plain, Nat.zero_add, (Whole.new w t xs).cell]; exact hj
/-- A change whose bytes begin a block of their own, from B0 on. -/
structure RMade (w : World) (B0 : Nat) (a : ChV) : Prop where
  b : ∃ g r, a.bA = some ⟨g, 0, none⟩ ∧ B0 ≤ g ∧ Whole w g 5 (bts a.B ++ r) ∧ a.bc = 64 + r.length ∧ 64 + r.length ≤ 9223372036854775807
  bl : a.B.length = 64
  bn : a.bn = 64
  p : 0 ≤ a.page ∧ a.page < 65536
theorem RMade.ok {w : World} {B0 : Nat} {a : ChV} (h : RMade w B0 a) : ChOk w a := by
  obtain ⟨g, r, hg, _, hW, hc, hm⟩ := h.b
  refine ⟨by have := h.p; omega, by have := h.p; omega, ?_⟩
  rw [hg, h.bn, hc]
  exact Bs.of_whole hW h.bl (by rw [List.take_left' (by rw [bts_len, h.bl])]) (by omega) hm
theorem RMade.chg {w w' : World} {B0 : Nat} {a : ChV} {T : List Nat} (h : RMade w B0 a) (hc : Chg T w w') (hT : ∀ i ∈ T, i < B0 ∨ w.heap.size ≤ i) : RMade w' B0 a := by
  obtain ⟨g, r, hg, hB, hW, hr⟩ := h.b
  exact { h with b := ⟨g, r, hg, hB, hW.chg hc (fun hm => by have := hT g hm; have := hW.lt; omega), hr⟩ }
theorem RMade.grown {w w' : World} {B0 B2 m : Nat} {v2 : Value} {ys : List Value} {a : ChV} (h : RMade w B0 a) (h2 : w.ownsRow B2 44 2 v2 m ys) (hg : w.grownBy w' v2.ownBlock) : RMade w' B0 a := by
  obtain ⟨g, r, hg1, hB, hW, hr⟩ := h.b
  exact { h with b := ⟨g, r, hg1, hB, whole_grown hW h2 (by decide) hg, hr⟩ }
theorem chs_own' {w : World} {B n : Nat} {e : TypeId} {v : Value} {l : List ChV} (h : w.ownsRow B e 2 v n (chCs l)) (hok : ∀ a ∈ l, ChOk w a) :
    ∃ A c, v = .slice A n c ∧ l.length = n ∧ Chs w A l ∧ n ≤ 9223372036854775807 ∧ n ≤ c ∧ (∀ ad, A = some ad → ad.spot = none) := by
  have hl : l.length = n := by have := h.1; rw [chCs_len] at this; omega
  rcases h.2 with ⟨rfl, rfl⟩ | ⟨g, cap, cur, rfl, hb, hg, hn, hc, hs, ht⟩
  · exact ⟨none, 0, rfl, hl, ⟨fun h => absurd h (by omega), hok⟩, by omega, Nat.le_refl _, fun ad e => by cases e⟩
  · have hgl : g < w.heap.size := by
      rcases Nat.lt_or_ge g w.heap.size with hlt | hge
      · exact hlt
      · rw [Array.getElem?_eq_none hge] at hg; cases hg
    refine ⟨_, cap, rfl, hl, ⟨fun _ => ⟨g, 0, rfl, hgl, fun k a ha => ?_⟩, hok⟩, by unfold maxLen at hc; omega, hn, fun ad e => by injection e with e; subst e; rfl⟩
    have hx : ∀ j u, (chCs l)[j]? = some u → w.cell? ((⟨g, 0, none⟩ : Addr).add j) = some u := h.cells rfl
    have q : ∀ j, j < 2 → ∀ u, (chC a)[j]? = some u → w.cell? ⟨g, k * 2 + j, none⟩ = some u := fun j hj u hu => by
      have := hx (k * 2 + j) u ((chCs_get l k a j ha hj).trans hu)
      rwa [add_plain, Nat.zero_add] at this
    simp only [Nat.zero_add]
    exact ⟨q 0 (by omega) _ rfl, q 1 (by omega) _ rfl⟩
theorem MadeCh.rmade {w : World} {B0 : Nat} {a : ChV} (h : MadeCh w B0 a) : RMade w B0 a := by
  obtain ⟨g, hg, hB, hW⟩ := h.b
  exact ⟨⟨g, [], hg, hB, by rw [List.append_nil]; exact hW, by rw [h.bc]; rfl, by simp⟩, h.bl, h.bn, h.p⟩
end Go.Proofs.YtbkfhndmeljlcaaGreatDoor
namespace Go.Proofs.YtbkfhndmeljlcaaGreatDoor
open Go.RowKit

/-- Which of the first k wait, rising. -/
def wl (V : List Bool) (k : Nat) : List Nat := (List.range k).filter fun i => V.getD i false
theorem chg_grown {T : List Nat} {a w w' : World} {row : Option Nat} (h : Chg T a w) (hg : w.grownBy w' row) (hr : ∀ g, row = some g → a.heap.size ≤ g) : Chg T a w' :=
  h.then_ (T' := row.toList) (Chg.of_grown hg fun g e _ => by simp [e]) fun i hi hlt => by
    have := hr i (by simpa using hi)
    omega

end Go.Proofs.YtbkfhndmeljlcaaGreatDoor
namespace Go.Proofs.YtbkfhndmeljlcaaGreatDoor
open Go.RowKit

/-- A number's bits. -/
def U (n : Int) : BitVec 64 := BitVec.ofInt 64 n
end Go.Proofs.YtbkfhndmeljlcaaGreatDoor
namespace Go.Proofs.YtbkfhndmeljlcaaGreatDoor
open Go.RowKit

/-- A memory: its struct lies in block p, its bytes L in gC, what is dirty (V) in gD; X and Y are the spare room. -/
structure Mm (w : World) (p gC gD : Nat) (L : List UInt8) (X : List Value) (V : List Bool) (Y : List Value) (most : Nat) : Prop where
  rec_ : Whole w p 95 [.slice (some ⟨gC, 0, none⟩) L.length (L.length + X.length), .int .i64 (most : Int), .slice (some ⟨gD, 0, none⟩) V.length (V.length + Y.length)]
  cel : Whole w gC 5 (bts L ++ X)
  dir : Whole w gD 4 (bls V ++ Y)
  len : L.length = 64 * V.length
  le : V.length ≤ most
  top : most ≤ 64
  capX : L.length + X.length ≤ maxLen
  capY : V.length + Y.length ≤ maxLen

section
variable {w w' : World} {p gC gD : Nat} {L : List UInt8} {X : List Value} {V : List Bool} {Y : List Value} {most : Nat}
theorem Mm.keep (h : Mm w p gC gD L X V Y most) (hc : Chg [] w w') : Mm w' p gC gD L X V Y most :=
  ⟨h.rec_.keep hc, h.cel.keep hc, h.dir.keep hc, h.len, h.le, h.top, h.capX, h.capY⟩
theorem Mm.away {T : List Nat} (h : Mm w p gC gD L X V Y most) (hc : Chg T w w') (h0 : p ∉ T) (h1 : gC ∉ T) (h2 : gD ∉ T) : Mm w' p gC gD L X V Y most :=
  ⟨h.rec_.chg hc h0, h.cel.chg hc h1, h.dir.chg hc h2, h.len, h.le, h.top, h.capX, h.capY⟩
theorem Mm.small (h : Mm w p gC gD L X V Y most) : L.length ≤ 4096 := by have := h.len; have := h.le; have := h.top; omega
theorem Mm.src (h : Mm w p gC gD L X V Y most) : Src w (some ⟨gC, 0, none⟩) (bts L) := by
  have := Src.of_whole h.cel 0 (bts L).length
  rwa [List.drop_zero, List.take_left' rfl] at this

end
end Go.Proofs.YtbkfhndmeljlcaaGreatDoor
namespace Go.Proofs.YtbkfhndmeljlcaaGreatDoor
open Go.RowKit

/-- A new memory. -/
def NewPost (w : World) (l : List UInt8) (k most : Nat) (e : Ending) (w' : World) : Prop :=
  ∃ p gC gD, e = .returned (.pointer (some ⟨p, 0, none⟩)) ∧ Mm w' p gC gD l [] (falses k) [] most ∧ w.heap.size ≤ p ∧ w.heap.size ≤ gC ∧ w.heap.size ≤ gD ∧ Chg [] w w'

section
variable {w : World}
theorem NewPost.drew {l : List UInt8} {k most : Nat} {e : Ending} {w' : World} (h : NewPost w l k most e w') : NewPost w l k most e w'.drew := by
  obtain ⟨p, gC, gD, he, hM, h1, h2, h3, hc⟩ := h
  exact ⟨p, gC, gD, he, hM.keep (Chg.refl [] w').drew, h1, h2, h3, hc.drew⟩
theorem new_end {W : World} {q gC gD k most n : Nat} {l : List UInt8} (hq : q = W.heap.size) (hC : Whole W gC 5 (bts l)) (hD : Whole W gD 4 (bls (falses k))) (hn : l.length = n) (hl : n = 64 * k) (h1 : k ≤ most) (h2 : most ≤ 64)
    (hc : Chg [] w W) (b1 : w.heap.size ≤ gC) (b2 : w.heap.size ≤ gD) :
    NewPost w l k most (.returned (.pointer (some ⟨q, 0, none⟩))) (W.alloc (.cells #[.slice (some ⟨gC, 0, none⟩) n n, .int .i64 (most : Int), .slice (some ⟨gD, 0, none⟩) k k] 95)) := by
  subst hq hn
  have hk : ∀ o, Chg [] W (W.alloc o) := fun o => (Chg.refl [] W).alloc o
  refine ⟨W.heap.size, gC, gD, rfl, ⟨?_, by simpa using hC.keep (hk _), by simpa using hD.keep (hk _), by rw [falses_len]; exact hl, by rw [falses_len]; exact h1, h2, by unfold maxLen; simp; omega, by unfold maxLen; simp [falses_len]; omega⟩, hc.size, b1, b2, hc.alloc _⟩
  have := Whole.new W 95 [.slice (some ⟨gC, 0, none⟩) l.length l.length, .int .i64 (most : Int), .slice (some ⟨gD, 0, none⟩) k k]
  simpa [falses_len] using this

set_option maxHeartbeats 1000000 in
set_option maxRecDepth 100000 in
theorem cnew_yes (k most : Nat) (h1 : k ≤ most) (h2 : most ≤ 64) :
    Calls Tryz.prog 74 #[.int .i64 (k : Int), .int .i64 (most : Int)] w (NewPost w (zeros (k * 64)) k most) := by
  have hd2 : decide ((most : Int) < (k : Int)) = false := by simp; omega
  have hd3 : decide (64 < (most : Int)) = false := by simp; omega
  have hmk : ∀ W : World, (Instr.makeSlice 33 (.int .i64 ((k : Int) * 64)) (.int .i64 ((k : Int) * 64))).run Tryz.prog W = .ok (.slice (some ⟨W.heap.size, 0, none⟩) (k * 64) (k * 64)) (W.alloc (.cells (bts (zeros (k * 64))).toArray 5)) :=
    fun W => by
      have := make_u8 (k * 64) (by omega) W
      simpa using this
  have hmb : ∀ W : World, (Instr.makeSlice 78 (.int .i64 (k : Int)) (.int .i64 (k : Int))).run Tryz.prog W = .ok (.slice (some ⟨W.heap.size, 0, none⟩) k k) (W.alloc (.cells (bls (falses k)).toArray 4)) :=
    fun W => make_bool k (by omega) W
  have hz : (zeros (k * 64)).length = k * 64 := zeros_len _
  have HZ := Lib.hid hz
  clear hz
  have hw : IntKind.i64.wrap ((k : Int) * 64) = (k : Int) * 64 := IntWalk.i64_in _ (by omega)
  go_enter Tryz.func74, Tryz.ntmps74
  go_wp2_with fail
  go_region_with fail
  all_goals
    go_wp2_with fail
    go_ret
  · have hA := Whole.new w 5 (bts (zeros (k * 64)))
    have hB := Whole.new (w.alloc (.cells (bts (zeros (k * 64))).toArray 5)) 4 (bls (falses k))
    rw [show (w.alloc (.cells (bts (zeros (k * 64))).toArray 5)).heap.size = w.heap.size + 1 by simp] at hB
    exact (new_end (W := (w.alloc (.cells (bts (zeros (k * 64))).toArray 5)).alloc (.cells (bls (falses k)).toArray 4)) (by simp) (hA.keep ((Chg.refl [] _).alloc _)) hB HZ.out (by omega) h1 h2 (((Chg.refl [] w).alloc _).alloc _) (Nat.le_refl _) (by omega)).drew
  · have hA := Whole.new w 4 (bls (falses k))
    have hB := Whole.new (w.alloc (.cells (bls (falses k)).toArray 4)) 5 (bts (zeros (k * 64)))
    rw [show (w.alloc (.cells (bls (falses k)).toArray 4)).heap.size = w.heap.size + 1 by simp] at hB
    exact (new_end (W := (w.alloc (.cells (bls (falses k)).toArray 4)).alloc (.cells (bts (zeros (k * 64))).toArray 5)) (by simp) hB (hA.keep ((Chg.refl [] _).alloc _)) HZ.out (by omega) h1 h2 (((Chg.refl [] w).alloc _).alloc _) (by omega) (Nat.le_refl _)).drew

variable {A : Option Addr} {n c : Nat} {l : List UInt8}
theorem of_copied {w1 w2 : World} {p gC gD k most : Nat} {z : List UInt8} (hM : Mm w1 p gC gD z [] (falses k) [] most) (hz : z.length = l.length) (hc1 : Chg [] w w1) (b0 : w.heap.size ≤ p) (b1 : w.heap.size ≤ gC) (b2 : w.heap.size ≤ gD)
    (HG : Whole w2 gC 5 (splice (bts z) 0 (bts l))) (HC : Chg [gC] w1 w2) : NewPost w l k most (.returned (.pointer (some ⟨p, 0, none⟩))) w2 := by
  have d0 := hM.rec_.ne_ hM.cel (by decide)
  have d1 := hM.dir.ne_ hM.cel (by decide)
  rw [splice_all _ _ (by rw [bts_len, bts_len, hz])] at HG
  have hr := hM.rec_.chg HC (by simpa using d0)
  have hd := hM.dir.chg HC (by simpa using d1)
  have h1 := hM.len
  have h2 := hM.capX
  rw [hz] at hr h1 h2
  refine ⟨p, gC, gD, rfl, ⟨hr, by simpa using HG, hd, h1, hM.le, hM.top, h2, hM.capY⟩, b0, b1, b2, ?_⟩
  exact hc1.then_ HC fun i hi hlt => by
    simp only [List.mem_cons, List.not_mem_nil, or_false] at hi
    omega
set_option maxHeartbeats 1000000 in
set_option maxRecDepth 100000 in
theorem cof_yes (hl : l.length = n) (hs : Src w A (bts l)) (most : Nat) (h1 : n % 64 = 0) (h2 : n / 64 ≤ most) (h3 : most ≤ 64) :
    Calls Tryz.prog 48 #[.slice A n c, .int .i64 (most : Int)] w (NewPost w l (n / 64) most) := by
  have hd : ((n : Int) % 64 != 0) = false := by simp; omega
  have hq : ((n : Int) / 64) = ((n / 64 : Nat) : Int) := by omega
  have HL := Lib.hid hl
  have HQ := Lib.hid hq
  have H1 := Lib.hid h1
  have hb := bts_one l
  clear hl hq h1
  go_enter Tryz.func48, Tryz.ntmps48
  go_wp2_with (first
    | (go_at_call 74
       rw [HQ.out]
       refine (cnew_yes (n / 64) most h2 h3).mono ?_
       rintro e w1 ⟨p, gC, gD, rfl, hM, b0, b1, b2, hc1⟩
       have hz : (zeros (n / 64 * 64)).length = n := by rw [zeros_len]; have := H1.out; omega
       have hsr := hs.keep hc1
       have c0 := hM.rec_.cell 0
       have hcel := hM.cel
       rw [List.append_nil] at hcel
       have Hn := Lib.hid (show (bts l).length = Nat.min n n by rw [bts_len, HL.out]; exact (Nat.min_self n).symm)
       have Hf : 0 + (bts l).length ≤ (bts (zeros (n / 64 * 64))).length := by rw [bts_len, bts_len, hz, HL.out]; omega
       have HM := Lib.hid hM
       have HZ := Lib.hid hz
       simp only [List.length_nil, Nat.add_zero, hz] at c0
       obtain ⟨Y, hY⟩ : ∃ Y, Y = bts l := ⟨_, rfl⟩
       have HY := Lib.hid hY
       rw [← hY] at hb hsr Hn Hf
       clear hY hM hz)
    | (with_reducible refine wpList_copy_chg rfl (.tmp 20) (.tmp 21) _ _ rfl 5 Tryz.underlying33 size_u8 (some ⟨gC, 0, none⟩) A n n n c rfl rfl gC 0 5 (bts (zeros (n / 64 * 64))) Y hcel Hn.out (fun _ => rfl) hsr Hf hb ?_
       intro w2 HG HC))
  go_ret
  rw [HY.out] at HG
  exact of_copied HM.out (by rw [HZ.out, HL.out]) hc1 b0 b1 b2 HG HC
end
end Go.Proofs.YtbkfhndmeljlcaaGreatDoor
namespace Go.Proofs.YtbkfhndmeljlcaaGreatDoor
open Go.RowKit

/-- Bytes of the call's own. -/
def OwnB (w : World) (l : List UInt8) (e : Ending) (w' : World) : Prop := ∃ v, e = .returned v ∧ w'.ownsRow w.heap.size 5 1 v l.length (bts l) ∧ Chg [] w w'
section
variable {w : World} {p gC gD : Nat} {L : List UInt8} {X : List Value} {V : List Bool} {Y : List Value} {most : Nat}
set_option maxHeartbeats 1000000 in
set_option maxRecDepth 100000 in
theorem mbytes_any (h : Mm w p gC gD L X V Y most) : Calls Tryz.prog 24 #[.pointer (some ⟨p, 0, none⟩)] w (OwnB w L) := by
  obtain ⟨i, hi, hz, hs1, hb⟩ := info_parts info_u8
  have c0 := h.rec_.cell 0
  have hsr := h.src
  have hl := Lib.hid (bts_len L)
  have h1 := bts_one L
  have b1 := h.small
  have x1 := Lib.hid (show 0 + L.length ≤ maxLen by unfold maxLen; omega)
  have x2 := Lib.hid (show (0 + L.length) * 1 ≤ 140737488355328 by omega)
  go_enter Tryz.func24, Tryz.ntmps24
  go_wp2_with (at_builtin
               refine wpList_append_src rfl (.const (.slice none 0 0)) (.tmp 6) 33 rfl w.heap.size 5 i _ 1 Tryz.underlying33 hi hz hs1 hb cells_u8 (.slice none 0 0) 0 [] rfl (own_nil _ _ _) (some ⟨gC, 0, none⟩) L.length (L.length + X.length) (bts L) rfl hl.out hsr h1 x1.out x2.out (Nat.le_refl _) ?_
               intro v4 w4 ho4 hg4 _)
  go_ret
  rw [Nat.zero_add, List.nil_append] at ho4
  exact ⟨v4, rfl, ho4, Chg.of_grown hg4 (fun g hg => by simp [Value.ownBlock] at hg)⟩

end
end Go.Proofs.YtbkfhndmeljlcaaGreatDoor
namespace Go.Proofs.YtbkfhndmeljlcaaGreatDoor
open Go.RowKit
theorem str_ne {l m : List UInt8} : ((strOf l).toList == (strOf m).toList) = decide (l = m) := by
  rw [ByteArray.toList_eq, ByteArray.toList_eq]
  show (l == m) = decide (l = m)
  by_cases h : l = m
  · subst h; simp
  · rw [decide_eq_false h, beq_eq_false_iff_ne]; exact h
section
variable {w : World} {A A2 : Option Addr} {n c n2 c2 : Nat}
set_option maxHeartbeats 1000000 in
set_option maxRecDepth 100000 in
theorem bequal_any {l m : List UInt8} (h : Bs w A n c l) (h2 : Bs w A2 n2 c2 m) :
    Calls Tryz.prog 104 #[.slice A n c, .slice A2 n2 c2] w fun e w' => e = .returned (.bool (decide (l = m))) ∧ w = w' := by
  have v1 := h.str (P := Tryz.prog) 33 5 9 Tryz.underlying33 Tryz.underlying5 Tryz.underlying9
  have v2 := h2.str (P := Tryz.prog) 33 5 9 Tryz.underlying33 Tryz.underlying5 Tryz.underlying9
  have HE := Lib.hid (str_ne (l := l) (m := m))
  go_enter Tryz.func104, Tryz.ntmps104
  go_wp2_with fail
  go_ret
  exact ⟨by rw [← HE.out]; rfl, rfl⟩
end
end Go.Proofs.YtbkfhndmeljlcaaGreatDoor
namespace Go.Proofs.YtbkfhndmeljlcaaGreatDoor
open Go.RowKit
/-- Page i of bytes. -/
def pg (L : List UInt8) (i : Nat) : List UInt8 := (L.drop (i * 64)).take 64
def Chs2 (ls : List ChV) (cs : List (Nat × List UInt8)) : Prop := ls.map (fun a => (a.page, a.B)) = cs.map (fun c => ((c.1 : Int), c.2))
theorem Chs2.len {ls : List ChV} {cs : List (Nat × List UInt8)} (h : Chs2 ls cs) : ls.length = cs.length := by
  have := congrArg List.length h; simpa using this
theorem Chs2.snoc {ls : List ChV} {cs : List (Nat × List UInt8)} (h : Chs2 ls cs) {a : ChV} {p : Nat} (hp : a.page = (p : Int)) : Chs2 (ls ++ [a]) (cs ++ [(p, a.B)]) := by
  unfold Chs2 at *
  rw [List.map_append, List.map_append, h]; simp [hp]
theorem Chs2.at {ls : List ChV} {cs : List (Nat × List UInt8)} (h : Chs2 ls cs) {k : Nat} {a : ChV} {c : Nat × List UInt8} (ha : ls[k]? = some a) (hc : cs[k]? = some c) : a.page = (c.1 : Int) ∧ a.B = c.2 := by
  have := congrArg (fun l : List (Int × List UInt8) => l[k]?) h
  simp only [List.getElem?_map, ha, hc, Option.map_some] at this
  injection this with this
  injection this with h1 h2
  exact ⟨h1, h2⟩
theorem MadeCh.more {w : World} {B0 B1 : Nat} {a : ChV} (h : MadeCh w B0 a) (hB : B1 ≤ B0) : MadeCh w B1 a := by
  obtain ⟨g, hg, hb, hW⟩ := h.b
  exact { h with b := ⟨g, hg, Nat.le_trans hB hb, hW⟩ }
theorem rown_more {w : World} {B B' n k : Nat} {e : TypeId} {v : Value} {xs : List Value} (h : w.ownsRow B e k v n xs) (hB : B' ≤ B) : w.ownsRow B' e k v n xs := by
  refine ⟨h.1, h.2.imp id ?_⟩
  rintro ⟨g, cap, cur, rfl, hb, r⟩
  exact ⟨g, cap, cur, rfl, Nat.le_trans hB hb, r⟩
end Go.Proofs.YtbkfhndmeljlcaaGreatDoor
namespace Go.Proofs.YtbkfhndmeljlcaaGreatDoor
open Go.RowKit
def unitL : List UInt8 := [85, 78, 73, 84]
def metaL (t p : Nat) : List UInt8 := unitL ++ be4 t ++ be4 p ++ zeros 52
theorem metaL_len (t p : Nat) : (metaL t p).length = 64 := rfl
/-- What Read takes. -/
def isMeta (l : List UInt8) : Prop := getI l 4 ≤ 2048 ∧ getI l 8 ≤ 64 ∧ l = metaL (getI l 4) (getI l 8)
theorem meta_is (t p : Nat) (ht : t ≤ 2048) (hp : p ≤ 64) : getI (metaL t p) 4 = t ∧ getI (metaL t p) 8 = p ∧ isMeta (metaL t p) := by
  have e1 : getI (metaL t p) 4 = t := by
    have : metaL t p = unitL ++ (be4 t ++ (be4 p ++ zeros 52)) := by simp only [metaL, List.append_assoc]
    rw [this]; exact getI_put _ _ t (by omega) _ rfl
  have e2 : getI (metaL t p) 8 = p := by
    have : metaL t p = (unitL ++ be4 t) ++ (be4 p ++ zeros 52) := by simp only [metaL, List.append_assoc]
    rw [this]; exact getI_put _ _ p (by omega) _ rfl
  exact ⟨e1, e2, by rw [e1]; exact ht, by rw [e2]; exact hp, by rw [e1, e2]⟩
theorem bts_unit : bts unitL = [.int .u8 85, .int .u8 78, .int .u8 73, .int .u8 84] := rfl
section
variable {w : World}
set_option maxHeartbeats 2000000 in
set_option maxRecDepth 100000 in
theorem meta_any (t p : Nat) (ht : t ≤ 2147483647) (hp : p ≤ 2147483647) :
    Calls Tryz.prog 46 #[.int .i64 (t : Int), .int .i64 (p : Int)] w (BytesPost w (metaL t p)) := by
  obtain ⟨i0, hi, hz, hs1, hb1⟩ := info_parts info_byte
  have et : (t : Int) % 4294967296 = (t : Int) := by omega
  have ep : (p : Int) % 4294967296 = (p : Int) := by omega
  have kc := kc_at w rfl
  go_enter Tryz.func46, Tryz.ntmps46
  go_wp2_with fail
  clear kc
  have hM := bs_const w 5 unitL (4, 5) (by simp [unitL])
  rw [bts_unit] at hM
  have hc1 : Chg [] w (w.alloc (.cells #[.int .u8 85, .int .u8 78, .int .u8 73, .int .u8 84] 5 (4, 5))) := (Chg.refl [] w).alloc _
  generalize w.alloc (.cells #[.int .u8 85, .int .u8 78, .int .u8 73, .int .u8 84] 5 (4, 5)) = w1 at hc1 hM ⊢
  generalize w.heap.size = g0 at hM ⊢
  have HC1 := Lib.hid hc1
  have HM := Lib.hid hM
  clear hc1 hM
  have hM4 : Bs w1 (some ⟨g0, 0, none⟩) 4 4 unitL := HM.out
  refine (put_b hM4 t (by omega) (by omega)).mono ?_
  rintro e w2 ⟨v2, rfl, ho2, hc2⟩
  have hl2 : (unitL ++ be4 t).length = 8 := rfl
  rw [hl2] at ho2
  obtain ⟨A2, c2, rfl, hB2, _⟩ := Bs.of_own ho2
  have HB2 := Lib.hid hB2
  have HC2 := Lib.hid (HC1.out.new hc2)
  clear hM4 HM hl2 ho2 hB2 hc2
  go_wp2_with fail
  refine (put_b HB2.out p (by omega) (by omega)).mono ?_
  rintro e w5 ⟨v5, rfl, ho5, hc5⟩
  have hl5 : (unitL ++ be4 t ++ be4 p).length = 12 := rfl
  rw [hl5] at ho5
  have hsz := HC2.out.size
  have HRL := Lib.hid (show metaL t p = (unitL ++ be4 t ++ be4 p) ++ zeros 52 from rfl)
  generalize unitL ++ be4 t ++ be4 p = Z at ho5 HRL
  obtain ⟨g, r, rfl, hbg, _, _⟩ := own_whole ho5 (by omega)
  obtain ⟨g', cap', w6, hr, ho6, hg6, hor⟩ := run_append_zeros (P := Tryz.prog) w5 w2.heap.size 33 3 33 5 i0 _ 1 .i64 Tryz.underlying33 Tryz.underlying3 hi hz hs1 hb1 rfl rfl g 12 (12 + r.length) (bts Z) ho5 52 (by unfold maxLen; omega) (by omega) hc5.size
  have hc6 : Chg [] w2 w6 := hc5.own ho5 (Nat.le_refl _) hg6
  have HR := Lib.hid hr
  have HO := Lib.hid ho6
  have HC6 := Lib.hid (HC2.out.new hc6)
  clear hr ho6 hg6 hor hc6 ho5 hc5 hl5
  go_wp2_with (at_builtin; refine Lib.wpList_append_run w5 rfl (.tmp 15) (.tmp 18) 33 3 rfl _ _ rfl rfl _ _ HR.out ?_)
  go_ret
  refine ⟨_, rfl, ?_, HC6.out⟩
  have e1 : (metaL t p).length = 12 + 52 := metaL_len t p
  have e2 : bts (metaL t p) = bts Z ++ List.replicate 52 (.int .u8 0) := by rw [HRL.out, bts_app, bts_zeros]
  rw [e1, e2]
  exact own_more HO.out hsz
/-- What Read answers. -/
def ReadMPost (l : List UInt8) (w : World) (e : Ending) (w' : World) : Prop :=
  (isMeta l ∧ e = .returned (.tuple #[.int .i64 ((getI l 4 : Nat) : Int), .int .i64 ((getI l 8 : Nat) : Int), .bool true]) ∧ Chg [] w w') ∨
  (¬ isMeta l ∧ e = .returned (.tuple #[.int .i64 0, .int .i64 0, .bool false]) ∧ Chg [] w w')
set_option maxHeartbeats 2000000 in
set_option maxRecDepth 100000 in
theorem shread_any {A : Option Addr} {n c : Nat} {l : List UInt8} (h : Bs w A n c l) : Calls Tryz.prog 73 #[.slice A n c] w (ReadMPost l w) := by
  have H := Lib.hid h
  have h4 := getI_lt l 4
  have h8 := getI_lt l 8
  clear h
  go_enter Tryz.func73, Tryz.ntmps73
  go_wp2_with fail
  refine (get_b H.out 4 (by omega)).mono ?_
  rintro e w' ⟨rfl, rfl⟩
  go_wp2_with fail
  refine (get_b H.out 8 (by omega)).mono ?_
  rintro e w' ⟨rfl, rfl⟩
  have HM := Lib.hid (show isMeta l ↔ (getI l 4 ≤ 2048 ∧ getI l 8 ≤ 64 ∧ l = metaL (getI l 4) (getI l 8)) from Iff.rfl)
  obtain ⟨t, ht⟩ : ∃ t, t = getI l 4 := ⟨_, rfl⟩
  obtain ⟨p, hp⟩ : ∃ p, p = getI l 8 := ⟨_, rfl⟩
  rw [← ht, ← hp] at HM ⊢
  rw [← ht] at h4
  rw [← hp] at h8
  have HT := Lib.hid ht
  have HP := Lib.hid hp
  clear ht hp
  by_cases ha : 2048 < t
  · have HNO := Lib.hid (show ¬ isMeta l from fun h => by have := (HM.out.1 h).1; omega)
    have haI : (2048 : Int) < (t : Int) := by omega
    go_wp2_with fail
    go_ret3
    exact .inr ⟨HNO.out, rfl, Chg.refl _ _⟩
  · have haI : ¬ (2048 : Int) < (t : Int) := by omega
    by_cases hb : 64 < p
    · have HNO := Lib.hid (show ¬ isMeta l from fun h => by have := (HM.out.1 h).2.1; omega)
      have hbI : (64 : Int) < (p : Int) := by omega
      go_wp2_with fail
      go_ret3
      exact .inr ⟨HNO.out, rfl, Chg.refl _ _⟩
    · have hbI : ¬ (64 : Int) < (p : Int) := by omega
      go_wp2_with fail
      refine (meta_any t p (by omega) (by omega)).mono ?_
      rintro e w2 ⟨v2, rfl, ho2, hc2⟩
      obtain ⟨A2, c2, rfl, hB2, _⟩ := Bs.of_own ho2
      have HB2 := Lib.hid hB2
      have HC2 := Lib.hid hc2
      clear ho2 hB2 hc2
      go_wp2_with fail
      refine (bequal_any (H.out.keep HC2.out) HB2.out).mono ?_
      rintro e w' ⟨rfl, rfl⟩
      by_cases heq : l = metaL t p
      · have hde : decide (l = metaL t p) = true := decide_eq_true heq
        rw [hde]
        have HY := Lib.hid (HM.out.2 ⟨by omega, by omega, heq⟩)
        clear hde heq
        go_wp2_with fail
        go_ret3
        exact .inl ⟨HY.out, by rw [← HT.out, ← HP.out]; rfl, HC2.out⟩
      · have hde : decide (l = metaL t p) = false := decide_eq_false heq
        rw [hde]
        have HY := Lib.hid (show ¬ isMeta l from fun h => heq (HM.out.1 h).2.2)
        clear hde heq
        go_wp2_with fail
        go_ret3
        exact .inr ⟨HY.out, rfl, HC2.out⟩
end
end Go.Proofs.YtbkfhndmeljlcaaGreatDoor
