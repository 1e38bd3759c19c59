/-
  SF: RootPure, BEq, RootFn, ShadeC, DeltaSame, RootSect.
-/
import Derived.Test.YtfhgnoajfipjdaaZSF2
import Derived.Test.YtfhgnoajfipjdaaZSF3
import Derived.Test.YtfhgnoajfipjdaaZSF4
import Derived.Test.YtfhgnoajfipjdaaZSF5
import Derived.Test.YtfhgnoajfipjdaaZSF6
import Derived.Test.YtfhgnoajfipjdaaZSF8
import Derived.Test.YtfhgnoajfipjdaaZSF9
import Derived.Test.YtfhgnoajfipjdaaZSF13
import Derived.Test.YtfhgnoajfipjdaaChecked
import Derived.Deep.QuietTactic
import Derived.BigQuiet
import Derived.IntWalk
import Derived.Laws.CopyOwn
namespace Go.Proofs.Ytfhgnoajfipjdaa
open Go.RowKit
def markL : List UInt8 := [69, 78, 71, 49]
def headR (a b c : Nat) : List UInt8 := markL ++ be4 a ++ be4 b ++ be4 c
def rootL (a b c : Nat) : List UInt8 := headR a b c ++ be4 (sumK (headR a b c)) ++ zeros 44
theorem headR_len (a b c : Nat) : (headR a b c).length = 16 := rfl
theorem rootL_len (a b c : Nat) : (rootL a b c).length = 64 := by
  unfold rootL
  rw [List.length_append, List.length_append, headR_len, be4_len, zeros_len]
section
variable (a b c : Nat)
theorem root_get (ha : a < 4294967296) (hb : b < 4294967296) (hc : c < 4294967296) :
    getI (rootL a b c) ((4 : Nat) : Int) = a ∧ getI (rootL a b c) ((8 : Nat) : Int) = b ∧ getI (rootL a b c) ((12 : Nat) : Int) = c ∧ getI (rootL a b c) ((16 : Nat) : Int) = sumK (headR a b c) ∧ (rootL a b c).take 16 = headR a b c := by
  refine ⟨?_, ?_, ?_, ?_, ?_⟩
  · have e : rootL a b c = markL ++ (be4 a ++ (be4 b ++ be4 c ++ be4 (sumK (headR a b c)) ++ zeros 44)) := by
      simp only [rootL, headR, List.append_assoc]
    rw [e]; exact getI_put _ _ a ha _ rfl
  · have e : rootL a b c = (markL ++ be4 a) ++ (be4 b ++ (be4 c ++ be4 (sumK (headR a b c)) ++ zeros 44)) := by
      simp only [rootL, headR, List.append_assoc]
    rw [e]; exact getI_put _ _ b hb _ rfl
  · have e : rootL a b c = (markL ++ be4 a ++ be4 b) ++ (be4 c ++ (be4 (sumK (headR a b c)) ++ zeros 44)) := by
      simp only [rootL, headR, List.append_assoc]
    rw [e]; exact getI_put _ _ c hc _ rfl
  · have e : rootL a b c = headR a b c ++ (be4 (sumK (headR a b c)) ++ zeros 44) := by
      simp only [rootL, List.append_assoc]
    rw [e]; exact getI_put _ _ _ (sumK_lt _) _ (by rw [headR_len])
  · have e : rootL a b c = headR a b c ++ (be4 (sumK (headR a b c)) ++ zeros 44) := by
      simp only [rootL, List.append_assoc]
    rw [e]; exact List.take_left' (headR_len _ _ _)
end
/-- The bytes are a root: of these numbers. -/
def isRoot (l : List UInt8) : Prop := getI l 4 ≤ 2147483647 ∧ getI l 8 ≤ 2147483647 ∧ l = rootL (getI l 4) (getI l 8) (getI l 12)
instance (l : List UInt8) : Decidable (isRoot l) := by unfold isRoot; exact inferInstance
theorem root_is (a b c : Nat) (ha : a ≤ 2147483647) (hb : b ≤ 2147483647) (hc : c < 4294967296) : isRoot (rootL a b c) ∧ getI (rootL a b c) 4 = a ∧ getI (rootL a b c) 8 = b ∧ getI (rootL a b c) 12 = c := by
  obtain ⟨h4, h8, h12, _, _⟩ := root_get a b c (by omega) (by omega) hc
  have h4' : getI (rootL a b c) 4 = a := h4
  have h8' : getI (rootL a b c) 8 = b := h8
  have h12' : getI (rootL a b c) 12 = c := h12
  refine ⟨⟨by omega, by omega, by rw [h4', h8', h12']⟩, h4', h8', h12'⟩
/-- What Right asks. -/
def rightR (L P E s : Int) : Bool := decide (1 ≤ L ∧ L ≤ 64 ∧ 1 ≤ P ∧ P ≤ 64 ∧ 2 + L + P ≤ s ∧ 1 ≤ E)
theorem rightR_true {L P E s : Int} : rightR L P E s = true ↔ (1 ≤ L ∧ L ≤ 64 ∧ 1 ≤ P ∧ P ≤ 64 ∧ 2 + L + P ≤ s ∧ 1 ≤ E) := by unfold rightR; exact decide_eq_true_iff
theorem rightR_false {L P E s : Int} : rightR L P E s = false ↔ ¬ (1 ≤ L ∧ L ≤ 64 ∧ 1 ≤ P ∧ P ≤ 64 ∧ 2 + L + P ≤ s ∧ 1 ≤ E) := by unfold rightR; exact decide_eq_false_iff_not
/-- The numbers of a root. -/
structure RV where
  log : Nat
  pages : Nat
  epoch : Nat
def RV.zero : RV := ⟨0, 0, 0⟩
/-- The best so far and one more. -/
def bestStep (n : Int) (o : RV) (l : List UInt8) : RV :=
  if isRoot l ∧ rightR (getI l 4) (getI l 8) (getI l 12) n = true ∧ o.epoch < getI l 12 then ⟨getI l 4, getI l 8, getI l 12⟩ else o
theorem bestStep_lt {n : Int} {o : RV} {l : List UInt8} (h : o.log < 4294967296 ∧ o.pages < 4294967296 ∧ o.epoch < 4294967296) : (bestStep n o l).log < 4294967296 ∧ (bestStep n o l).pages < 4294967296 ∧ (bestStep n o l).epoch < 4294967296 := by
  unfold bestStep
  split
  · exact ⟨getI_lt _ _, getI_lt _ _, getI_lt _ _⟩
  · exact h
/-- The i-th sector of S, or none. -/
def sectL (S : List UInt8) (n i : Nat) : List UInt8 := if i < n then (S.drop (i * 64)).take 64 else []
end Go.Proofs.Ytfhgnoajfipjdaa
namespace Go.Proofs.Ytfhgnoajfipjdaa
open Go.RowKit
theorem str_ne {l m : List UInt8} : ((strOf l).toList == (strOf m).toList) = decide (l = m) := by
  rw [ByteArray.toList_eq, ByteArray.toList_eq]
  show (l == m) = decide (l = m)
  by_cases h : l = m
  · subst h; simp
  · rw [decide_eq_false h, beq_eq_false_iff_ne]; exact h
section
variable {w : World} {A A2 : Option Addr} {n c n2 c2 : Nat}
set_option maxHeartbeats 1000000 in
theorem bequal_any {l m : List UInt8} (h : Bs w A n c l) (h2 : Bs w A2 n2 c2 m) :
    Calls Try.prog 158 #[.slice A n c, .slice A2 n2 c2] w fun e w' => e = .returned (.bool (decide (l = m))) ∧ w = w' := by
  have v1 := h.str (P := Try.prog) 46 5 9 Try.underlying46 Try.underlying5 Try.underlying9
  have v2 := h2.str (P := Try.prog) 46 5 9 Try.underlying46 Try.underlying5 Try.underlying9
  have HE := Lib.hid (str_ne (l := l) (m := m))
  go_enter Try.func158, Try.ntmps158
  go_wp2_with fail
  go_ret
  exact ⟨by rw [← HE.out]; rfl, rfl⟩
end
end Go.Proofs.Ytfhgnoajfipjdaa
namespace Go.Proofs.Ytfhgnoajfipjdaa
open Go.RowKit
theorem root_cells {W : World} {g : Nat} {x y z : Value} (h : Whole W g 89 [x, y, z]) : W.cell? ⟨g, 0, none⟩ = some x ∧ W.cell? ⟨g, 1, none⟩ = some y ∧ W.cell? ⟨g, 2, none⟩ = some z ∧ W.frozen? ⟨g, 0, none⟩ = false ∧ W.frozen? ⟨g, 1, none⟩ = false ∧ W.frozen? ⟨g, 2, none⟩ = false :=
  ⟨h.cell 0, h.cell 1, h.cell 2, h.frozen 0, h.frozen 1, h.frozen 2⟩
def homeI (L P page : Int) : Int := if page < 0 ∨ P ≤ page then -1 else wrap64 (wrap64 (2 + L) + page)
section
variable {w : World}
set_option maxHeartbeats 1000000 in
theorem rright_any (L P E s : Int) : Calls Try.prog 65 #[rootV L P E, .int .i64 s] w (BoolPost (rightR L P E s) w) := by
  unfold rootV
  by_cases h1 : L < 1
  · have HF := Lib.hid (show rightR L P E s = false from rightR_false.2 (by omega))
    have hd : decide (L < 1) = true := by simpa using h1
    go_enter Try.func65, Try.ntmps65
    go_wp2_with fail
    go_ret
    exact ⟨by rw [HF.out]; rfl, (Chg.refl _ _).alloc _⟩
  have hd1 : decide (L < 1) = false := by simpa using h1
  by_cases h2 : 64 < L
  · have HF := Lib.hid (show rightR L P E s = false from rightR_false.2 (by omega))
    go_enter Try.func65, Try.ntmps65
    go_wp2_with fail
    go_ret
    exact ⟨by rw [HF.out]; rfl, (Chg.refl _ _).alloc _⟩
  have hd2 : decide (64 < L) = false := by simpa using h2
  by_cases h3 : P < 1
  · have HF := Lib.hid (show rightR L P E s = false from rightR_false.2 (by omega))
    go_enter Try.func65, Try.ntmps65
    go_wp2_with fail
    go_ret
    exact ⟨by rw [HF.out]; rfl, (Chg.refl _ _).alloc _⟩
  have hd3 : decide (P < 1) = false := by simpa using h3
  by_cases h4 : 64 < P
  · have HF := Lib.hid (show rightR L P E s = false from rightR_false.2 (by omega))
    go_enter Try.func65, Try.ntmps65
    go_wp2_with fail
    go_ret
    exact ⟨by rw [HF.out]; rfl, (Chg.refl _ _).alloc _⟩
  have hd4 : decide (64 < P) = false := by simpa using h4
  have b1 : 1 ≤ L := by omega
  have b2 : L ≤ 64 := by omega
  have b3 : 1 ≤ P := by omega
  have b4 : P ≤ 64 := by omega
  by_cases h5 : 2 + L + P ≤ s
  · have hd5 : decide (2 + L + P ≤ s) = true := by simpa using h5
    have HF := Lib.hid (show rightR L P E s = decide (1 ≤ E) from by unfold rightR; congr 1; apply propext; omega)
    go_enter Try.func65, Try.ntmps65
    go_wp2_with fail
    go_ret
    exact ⟨by rw [HF.out]; rfl, (Chg.refl _ _).alloc _⟩
  · have hd5 : decide (2 + L + P ≤ s) = false := by simpa using h5
    have HF := Lib.hid (show rightR L P E s = false from rightR_false.2 (by omega))
    go_enter Try.func65, Try.ntmps65
    go_wp2_with fail
    go_ret
    exact ⟨by rw [HF.out]; rfl, (Chg.refl _ _).alloc _⟩
set_option maxHeartbeats 1000000 in
theorem home_any (L P E page : Int) : Calls Try.prog 128 #[rootV L P E, .int .i64 page] w fun e w' => e = .returned (.int .i64 (homeI L P page)) ∧ Chg [] w w' := by
  unfold rootV
  by_cases h1 : page < 0
  · have HF := Lib.hid (show homeI L P page = -1 by unfold homeI; rw [if_pos (.inl h1)])
    go_enter Try.func128, Try.ntmps128
    go_wp2_with fail
    go_ret
    exact ⟨ret_int' HF.out.symm, (Chg.refl _ _).alloc _⟩
  have hd1 : decide (page < 0) = false := by simpa using h1
  by_cases h2 : P ≤ page
  · have HF := Lib.hid (show homeI L P page = -1 by unfold homeI; rw [if_pos (.inr h2)])
    go_enter Try.func128, Try.ntmps128
    go_wp2_with fail
    go_ret
    exact ⟨ret_int' HF.out.symm, (Chg.refl _ _).alloc _⟩
  · have hd2 : decide (P ≤ page) = false := by simpa using h2
    have HF := Lib.hid (show homeI L P page = wrap64 (wrap64 (2 + L) + page) by unfold homeI; rw [if_neg (by omega)])
    go_enter Try.func128, Try.ntmps128
    go_wp2_with fail
    go_ret
    exact ⟨ret_int' HF.out.symm, (Chg.refl _ _).alloc _⟩
end
end Go.Proofs.Ytfhgnoajfipjdaa
namespace Go.Proofs.Ytfhgnoajfipjdaa
open Go.RowKit
/-- Page i of bytes. -/
def pg (L : List UInt8) (i : Nat) : List UInt8 := (L.drop (i * 64)).take 64
def Chs2 (ls : List ChV) (cs : List (Nat × List UInt8)) : Prop := ls.map (fun a => (a.page, a.B)) = cs.map (fun c => ((c.1 : Int), c.2))
theorem Chs2.len {ls : List ChV} {cs : List (Nat × List UInt8)} (h : Chs2 ls cs) : ls.length = cs.length := by
  have := congrArg List.length h; simpa using this
theorem Chs2.snoc {ls : List ChV} {cs : List (Nat × List UInt8)} (h : Chs2 ls cs) {a : ChV} {p : Nat} (hp : a.page = (p : Int)) : Chs2 (ls ++ [a]) (cs ++ [(p, a.B)]) := by
  unfold Chs2 at *
  rw [List.map_append, List.map_append, h]; simp [hp]
theorem Chs2.at {ls : List ChV} {cs : List (Nat × List UInt8)} (h : Chs2 ls cs) {k : Nat} {a : ChV} {c : Nat × List UInt8} (ha : ls[k]? = some a) (hc : cs[k]? = some c) : a.page = (c.1 : Int) ∧ a.B = c.2 := by
  have := congrArg (fun l : List (Int × List UInt8) => l[k]?) h
  simp only [List.getElem?_map, ha, hc, Option.map_some] at this
  injection this with this
  injection this with h1 h2
  exact ⟨h1, h2⟩
theorem MadeCh.more {w : World} {B0 B1 : Nat} {a : ChV} (h : MadeCh w B0 a) (hB : B1 ≤ B0) : MadeCh w B1 a := by
  obtain ⟨g, hg, hb, hW⟩ := h.b
  exact { h with b := ⟨g, hg, Nat.le_trans hB hb, hW⟩ }
section
variable {w : World} {A : Option Addr} {n c : Nat} {l : List UInt8}
set_option maxHeartbeats 400000 in
theorem shfresh_any (h : Bs w A n c l) (hn : n ≤ 1000000) :
    Calls Try.prog 113 #[.slice A n c] w fun e w' => e = .returned (.slice (some ⟨w.heap.size, 0, none⟩) n n) ∧ Whole w' w.heap.size 5 (bts l) ∧ Chg [] w w' := by
  have hl : (bts l).length = n := by rw [bts_len, h.len]
  have hs := h.src
  have h1 := bts_one l
  generalize bts l = xs at hl hs h1
  have hmk := make_u8 n hn
  go_enter Try.func113, Try.ntmps113
  go_wp2_with (first
    | (with_reducible refine wpList_copy_splice rfl (.tmp 7) (.tmp 8) _ _ rfl 5 Try.underlying46 size_u8 (some ⟨w.heap.size, 0, none⟩) A n n n c rfl rfl w.heap.size 0 (bts (zeros n)) 5 ?c1 xs ?c2 ?c3 ?c4 h1 w.heap.size w ?c5 (Nat.le_refl _) ?_
       case c1 => exact heap_alloc_new w _
       case c2 => simp [hl]
       case c3 =>
         intro hp
         obtain ⟨ad, e, _, hx⟩ := (hs.keep ((Chg.refl [] w).alloc _)) hp
         exact ⟨rfl, ad, e, hx⟩
       case c4 => simp [hl, bts_len, zeros_len]
       case c5 => exact (Below.refl _ _).alloc (Nat.le_refl _) _
       intro w1 HG hB))
  go_ret
  have HG' := HG.out
  rw [splice_all _ _ (by simp [hl, bts_len, zeros_len])] at HG'
  exact ⟨rfl, HG', Chg.of_below hB⟩
end
end Go.Proofs.Ytfhgnoajfipjdaa
namespace Go.Proofs.Ytfhgnoajfipjdaa
open Go.RowKit
/-- The same pages, with the same bytes. -/
def keyC (a : ChV) : Int × List UInt8 := (a.page, a.B)
end Go.Proofs.Ytfhgnoajfipjdaa
namespace Go.Proofs.Ytfhgnoajfipjdaa
open Go.RowKit
/-- The state behind the first k sectors. -/
def bestK (n : Nat) (S : List UInt8) : Nat → RV
  | 0 => RV.zero
  | k + 1 => bestStep n (bestK n S k) (sectL S n k)
theorem bestK_lt (n : Nat) (S : List UInt8) : ∀ k, (bestK n S k).log < 4294967296 ∧ (bestK n S k).pages < 4294967296 ∧ (bestK n S k).epoch < 4294967296
  | 0 => ⟨by show 0 < _; omega, by show 0 < _; omega, by show 0 < _; omega⟩
  | k + 1 => bestStep_lt (bestK_lt n S k)
theorem sect_same {S x : List UInt8} {n k : Nat} (hS : S.length = 64 * n) (hk : k < n) (hx : x.length = 64) : sectL (splice S (k * 64) x) n k = x := by
  unfold sectL splice
  rw [if_pos hk, List.drop_left' (by rw [List.length_take]; omega), List.take_left' hx]
theorem sect_other {S x : List UInt8} {n k j : Nat} (hS : S.length = 64 * n) (hk : k < n) (hx : x.length = 64) (hj : j ≠ k) : sectL (splice S (k * 64) x) n j = sectL S n j := by
  unfold sectL splice
  split
  · rcases Nat.lt_or_ge j k with h | h
    · rw [List.drop_append_of_le_length (by rw [List.length_take]; omega), List.take_append_of_le_length (by rw [List.length_drop, List.length_take]; omega), List.drop_take, List.take_take, Nat.min_eq_left (by omega)]
    · have hl : (S.take (k * 64) ++ x).length = k * 64 + 64 := by rw [List.length_append, List.length_take, hx]; omega
      rw [← List.append_assoc, List.drop_append, List.drop_eq_nil_of_le (by omega), List.nil_append, hl, hx, List.drop_drop]
      congr 2
      omega
  · rfl
theorem sect_zeros (n k j : Nat) (h : 64 * n = k) : sectL (zeros k) n j = if j < n then zeros 64 else [] := by
  subst h
  unfold sectL zeros
  split
  · rw [List.drop_replicate, List.take_replicate]
    congr 1
    omega
  · rfl
end Go.Proofs.Ytfhgnoajfipjdaa
