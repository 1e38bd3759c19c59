/-
  S: SumB, Turn, BsMore, NumPure, SumK, RootPure, Delta, RootSect, DCh.
-/
import Derived.Test.YtddjgncdjdjgeaaGreatZS2
import Derived.Test.YtddjgncdjdjgeaaGreatZS5
import Derived.Test.YtddjgncdjdjgeaaGreatZS7
import Derived.Test.YtddjgncdjdjgeaaGreatZS9
import Derived.Laws.BitsAllLaws
import Derived.Deep.QuietTactic
import Derived.BigQuiet
import Derived.IntWalk
import Derived.Laws.CopyOwn
import Derived.Deep.Slices
import Derived.Deep.Fields
import Derived.ChangeSame
import Derived.ChangeSlices
namespace Go.Proofs.YtddjgncdjdjgeaaGreat
open Go.RowKit
section
variable {w : World} {A : Option Addr} {n c : Nat} {l : List UInt8}
theorem sum_b (h : Bs w A n c l) : Calls Tryz.prog 108 #[.slice A n c] w fun e w' => e = .returned (.int .u32 (sumL 2166136261 l)) ∧ w = w' := sum_any h.len h.src h.le h.spot
theorem rsum_b (h : Bs w A n c l) : Calls Tryz.prog 81 #[.slice A n c] w fun e w' => e = .returned (.int .u32 (sumL 2166136261 l)) ∧ w = w' := rsum_any h.len h.src h.le h.spot
theorem put_b (h : Bs w A n c l) (k : Nat) (hk : k < 4294967296) (hn : n + 4 ≤ 140737488355328) : Calls Tryz.prog 107 #[.slice A n c, .int .u32 (k : Int)] w (BytesPost w (l ++ be4 k)) := put_any k hk h.len h.src hn
theorem rput_b (h : Bs w A n c l) (k : Nat) (hk : k < 4294967296) (hn : n + 4 ≤ 140737488355328) : Calls Tryz.prog 80 #[.slice A n c, .int .u32 (k : Int)] w (BytesPost w (l ++ be4 k)) := rput_any k hk h.len h.src hn
theorem get_b (h : Bs w A n c l) (i : Int) (hi : i ≤ 9223372036854775807) : Calls Tryz.prog 119 #[.slice A n c, .int .i64 i] w fun e w' => e = .returned (.int .u32 (getI l i : Nat)) ∧ w = w' := by
  unfold getI
  split
  · rename_i hc
    obtain ⟨k, rfl⟩ := Int.eq_ofNat_of_zero_le hc.1
    rw [Int.toNat_natCast]
    exact get_yes h.len h.src h.le h.spot k (by have := h.len; omega) h.cap h.max
  · rename_i hc
    exact get_no h.le i (by have := h.len; omega) hi
theorem rget_b (h : Bs w A n c l) (i : Int) (hi : i ≤ 9223372036854775807) : Calls Tryz.prog 124 #[.slice A n c, .int .i64 i] w fun e w' => e = .returned (.int .u32 (getI l i : Nat)) ∧ Chg [] w w' := by
  unfold getI
  split
  · rename_i hc
    obtain ⟨k, rfl⟩ := Int.eq_ofNat_of_zero_le hc.1
    rw [Int.toNat_natCast]
    exact rget_yes h.len h.src h.le h.spot k (by have := h.len; omega)
  · rename_i hc
    refine (rget_no h.le i (by have := h.len; omega) hi).mono ?_
    rintro e w' ⟨rfl, rfl⟩
    exact ⟨rfl, Chg.refl _ _⟩
end
end Go.Proofs.YtddjgncdjdjgeaaGreat
namespace Go.Proofs.YtddjgncdjdjgeaaGreat
open Go.RowKit

def stpN (h : Nat) (b : UInt8) : Nat := (h ^^^ b.toNat) * 16777619 % 4294967296
def sumN (h : Nat) (l : List UInt8) : Nat := l.foldl stpN h
theorem stp_nat (h : Nat) (b : UInt8) (hh : h < 4294967296) : stp (h : Int) b = (stpN h b : Nat) := by
  have hb := b.toNat_lt
  have e1 : ((b.toNat : Nat) : Int) % 4294967296 = ((b.toNat : Nat) : Int) := by omega
  unfold stp stpN
  rw [e1, u32_xor_nat h b.toNat hh (by omega)]
  generalize h ^^^ b.toNat = y
  omega
theorem stpN_lt (h : Nat) (b : UInt8) : stpN h b < 4294967296 := by unfold stpN; omega
theorem sum_nat : ∀ (l : List UInt8) (h : Nat), h < 4294967296 → sumL (h : Int) l = (sumN h l : Nat)
  | [], h, _ => rfl
  | b :: l, h, hh => by
    have e1 : sumL (h : Int) (b :: l) = sumL (stp (h : Int) b) l := rfl
    have e2 : sumN h (b :: l) = sumN (stpN h b) l := rfl
    rw [e1, e2, stp_nat h b hh]
    exact sum_nat l _ (stpN_lt h b)
theorem sumN_lt : ∀ (l : List UInt8) (h : Nat), h < 4294967296 → sumN h l < 4294967296
  | [], _, hh => hh
  | b :: l, h, _ => by
    have e2 : sumN h (b :: l) = sumN (stpN h b) l := rfl
    rw [e2]
    exact sumN_lt l _ (stpN_lt h b)
end Go.Proofs.YtddjgncdjdjgeaaGreat
namespace Go.Proofs.YtddjgncdjdjgeaaGreat
open Go.RowKit
section
variable {w : World} {A : Option Addr} {n c : Nat} {l : List UInt8}
theorem Bs.take (h : Bs w A n c l) {m : Nat} (hm : m ≤ n) : Bs w A m c (l.take m) :=
  ⟨by rw [List.length_take, h.len]; omega, src_pre m h.src, Nat.le_trans hm h.cap, h.max, fun h0 => h.spot (by omega)⟩
where
  src_pre (m : Nat) {w : World} {A : Option Addr} {l : List UInt8} (hs : Src w A (bts l)) : Src w A (bts (l.take m)) := fun hp => by
    obtain ⟨ad, e, hb, hx⟩ := hs (by simp [bts] at hp ⊢; omega)
    refine ⟨ad, e, hb, fun j v hj => hx j v ?_⟩
    unfold bts at hj ⊢
    rw [List.map_take, List.getElem?_take] at hj
    split at hj
    · exact hj
    · cases hj

end
theorem bts_app (l m : List UInt8) : bts (l ++ m) = bts l ++ bts m := by simp [bts]
theorem add0 (A : Option Addr) : Option.map (fun x : Addr => x.add 0) A = A := by cases A <;> simp [Addr.add]
/-- An own row that is not empty: its block, whole. -/
theorem own_whole {w : World} {B n : Nat} {e : TypeId} {v : Value} {xs : List Value} (h : w.ownsRow B e 1 v n xs) (hn : 0 < n) :
    ∃ g r, v = .slice (some ⟨g, 0, none⟩) n (n + r.length) ∧ B ≤ g ∧ Whole w g e (xs ++ r) ∧ n + r.length ≤ maxLen := by
  rcases h.2 with ⟨_, h0⟩ | ⟨g, cap, cur, rfl, hb, hg, hc, hm, hs, ht⟩
  · omega
  · have hl : cur.toList.length = cap := by rw [Array.length_toList]; omega
    have h1 : n * 1 = n := Nat.mul_one n
    rw [h1] at ht
    have e1 : cap = n + (cur.toList.drop n).length := by rw [List.length_drop, hl]; omega
    refine ⟨g, cur.toList.drop n, by rw [← e1], hb, ?_, by omega⟩
    unfold Whole
    rw [← ht, List.take_append_drop]
    exact hg

end Go.Proofs.YtddjgncdjdjgeaaGreat
namespace Go.Proofs.YtddjgncdjdjgeaaGreat
open Go.RowKit

/-- The sum of bytes, as a number. -/
def sumK (l : List UInt8) : Nat := sumN 2166136261 l
theorem sumK_lt (l : List UInt8) : sumK l < 4294967296 := sumN_lt l _ (by omega)
theorem sumL_K (l : List UInt8) : sumL 2166136261 l = (sumK l : Nat) := by
  have h := sum_nat l 2166136261 (by omega)
  have e : ((2166136261 : Nat) : Int) = 2166136261 := rfl
  rw [e] at h
  exact h

theorem numB_of_be4 (k : Nat) (hk : k < 4294967296) : numB (be4 k) = k := by
  simp only [numB, be4, List.foldl_cons, List.foldl_nil, UInt8.toNat_ofNat']
  omega
theorem getI_put (l m : List UInt8) (k : Nat) (hk : k < 4294967296) (i : Int) (hi : i = l.length) : getI (l ++ (be4 k ++ m)) i = k := by
  subst hi
  unfold getI
  rw [if_pos ⟨by omega, by simp only [List.length_append, be4_len]; omega⟩, Int.toNat_natCast, List.drop_left, List.take_left' (be4_len k), numB_of_be4 k hk]
end Go.Proofs.YtddjgncdjdjgeaaGreat
namespace Go.Proofs.YtddjgncdjdjgeaaGreat
open Go.RowKit
theorem sumk_b {w : World} {A : Option Addr} {n c : Nat} {l : List UInt8} (h : Bs w A n c l) : Calls Tryz.prog 108 #[.slice A n c] w fun e w' => e = .returned (.int .u32 (sumK l : Nat)) ∧ w = w' := by
  rw [← sumL_K]; exact sum_b h
theorem rsumk_b {w : World} {A : Option Addr} {n c : Nat} {l : List UInt8} (h : Bs w A n c l) : Calls Tryz.prog 81 #[.slice A n c] w fun e w' => e = .returned (.int .u32 (sumK l : Nat)) ∧ w = w' := by
  rw [← sumL_K]; exact rsum_b h
end Go.Proofs.YtddjgncdjdjgeaaGreat
namespace Go.Proofs.YtddjgncdjdjgeaaGreat
open Go.RowKit
def markL : List UInt8 := [69, 78, 71, 49]
def headR (a b c : Nat) : List UInt8 := markL ++ be4 a ++ be4 b ++ be4 c
def rootL (a b c : Nat) : List UInt8 := headR a b c ++ be4 (sumK (headR a b c)) ++ zeros 44
theorem headR_len (a b c : Nat) : (headR a b c).length = 16 := rfl
theorem rootL_len (a b c : Nat) : (rootL a b c).length = 64 := by
  unfold rootL
  rw [List.length_append, List.length_append, headR_len, be4_len, zeros_len]
section
variable (a b c : Nat)
theorem root_get (ha : a < 4294967296) (hb : b < 4294967296) (hc : c < 4294967296) :
    getI (rootL a b c) ((4 : Nat) : Int) = a ∧ getI (rootL a b c) ((8 : Nat) : Int) = b ∧ getI (rootL a b c) ((12 : Nat) : Int) = c ∧ getI (rootL a b c) ((16 : Nat) : Int) = sumK (headR a b c) ∧ (rootL a b c).take 16 = headR a b c := by
  refine ⟨?_, ?_, ?_, ?_, ?_⟩
  · have e : rootL a b c = markL ++ (be4 a ++ (be4 b ++ be4 c ++ be4 (sumK (headR a b c)) ++ zeros 44)) := by
      simp only [rootL, headR, List.append_assoc]
    rw [e]; exact getI_put _ _ a ha _ rfl
  · have e : rootL a b c = (markL ++ be4 a) ++ (be4 b ++ (be4 c ++ be4 (sumK (headR a b c)) ++ zeros 44)) := by
      simp only [rootL, headR, List.append_assoc]
    rw [e]; exact getI_put _ _ b hb _ rfl
  · have e : rootL a b c = (markL ++ be4 a ++ be4 b) ++ (be4 c ++ (be4 (sumK (headR a b c)) ++ zeros 44)) := by
      simp only [rootL, headR, List.append_assoc]
    rw [e]; exact getI_put _ _ c hc _ rfl
  · have e : rootL a b c = headR a b c ++ (be4 (sumK (headR a b c)) ++ zeros 44) := by
      simp only [rootL, List.append_assoc]
    rw [e]; exact getI_put _ _ _ (sumK_lt _) _ (by rw [headR_len])
  · have e : rootL a b c = headR a b c ++ (be4 (sumK (headR a b c)) ++ zeros 44) := by
      simp only [rootL, List.append_assoc]
    rw [e]; exact List.take_left' (headR_len _ _ _)
theorem root_mark : (rootL a b c).take 4 = markL := by
  have e : rootL a b c = markL ++ (be4 a ++ be4 b ++ be4 c ++ be4 (sumK (headR a b c)) ++ zeros 44) := by
    simp only [rootL, headR, List.append_assoc]
  rw [e]; exact List.take_left' rfl
end
/-- The bytes are a root: of these numbers. -/
def isRoot (l : List UInt8) : Prop := getI l 4 ≤ 2147483647 ∧ getI l 8 ≤ 2147483647 ∧ l = rootL (getI l 4) (getI l 8) (getI l 12)
instance (l : List UInt8) : Decidable (isRoot l) := by unfold isRoot; exact inferInstance
theorem root_is (a b c : Nat) (ha : a ≤ 2147483647) (hb : b ≤ 2147483647) (hc : c < 4294967296) : isRoot (rootL a b c) ∧ getI (rootL a b c) 4 = a ∧ getI (rootL a b c) 8 = b ∧ getI (rootL a b c) 12 = c := by
  obtain ⟨h4, h8, h12, _, _⟩ := root_get a b c (by omega) (by omega) hc
  have h4' : getI (rootL a b c) 4 = a := h4
  have h8' : getI (rootL a b c) 8 = b := h8
  have h12' : getI (rootL a b c) 12 = c := h12
  refine ⟨⟨by omega, by omega, by rw [h4', h8', h12']⟩, h4', h8', h12'⟩
theorem isRoot_len {l : List UInt8} (h : isRoot l) : l.length = 64 := by rw [h.2.2, rootL_len]
theorem isRoot_mark {l : List UInt8} (h : isRoot l) : l.take 4 = markL := by rw [h.2.2, root_mark]
/-- What Right asks. -/
def rightR (L P E s : Int) : Bool := decide (1 ≤ L ∧ L ≤ 64 ∧ 1 ≤ P ∧ P ≤ 64 ∧ 2 + L + P ≤ s ∧ 1 ≤ E)
theorem rightR_true {L P E s : Int} : rightR L P E s = true ↔ (1 ≤ L ∧ L ≤ 64 ∧ 1 ≤ P ∧ P ≤ 64 ∧ 2 + L + P ≤ s ∧ 1 ≤ E) := by unfold rightR; exact decide_eq_true_iff
theorem rightR_false {L P E s : Int} : rightR L P E s = false ↔ ¬ (1 ≤ L ∧ L ≤ 64 ∧ 1 ≤ P ∧ P ≤ 64 ∧ 2 + L + P ≤ s ∧ 1 ≤ E) := by unfold rightR; exact decide_eq_false_iff_not
/-- The numbers of a root. -/
structure RV where
  log : Nat
  pages : Nat
  epoch : Nat
def RV.zero : RV := ⟨0, 0, 0⟩
/-- The best so far and one more. -/
def bestStep (n : Int) (o : RV) (l : List UInt8) : RV :=
  if isRoot l ∧ rightR (getI l 4) (getI l 8) (getI l 12) n = true ∧ o.epoch < getI l 12 then ⟨getI l 4, getI l 8, getI l 12⟩ else o
theorem bestStep_lt {n : Int} {o : RV} {l : List UInt8} (h : o.log < 4294967296 ∧ o.pages < 4294967296 ∧ o.epoch < 4294967296) : (bestStep n o l).log < 4294967296 ∧ (bestStep n o l).pages < 4294967296 ∧ (bestStep n o l).epoch < 4294967296 := by
  unfold bestStep
  split
  · exact ⟨getI_lt _ _, getI_lt _ _, getI_lt _ _⟩
  · exact h
/-- The i-th sector of S, or none. -/
def sectL (S : List UInt8) (n i : Nat) : List UInt8 := if i < n then (S.drop (i * 64)).take 64 else []
end Go.Proofs.YtddjgncdjdjgeaaGreat
namespace Go.Proofs.YtddjgncdjdjgeaaGreat
open Go.RowKit
/-- A change as it lies in memory: two cells, one of them a slice. -/
structure ChV where
  page : Int
  bA : Option Addr
  bn : Nat
  bc : Nat
  B : List UInt8
def chC (a : ChV) : List Value := [.int .i64 a.page, .slice a.bA a.bn a.bc]
structure ChOk (w : World) (a : ChV) : Prop where
  p0 : -9223372036854775808 ≤ a.page
  p1 : a.page ≤ 9223372036854775807
  bs : Bs w a.bA a.bn a.bc a.B
/-- The slice at A reads as the changes l. -/
structure Chs (w : World) (A : Option Addr) (l : List ChV) : Prop where
  cells : 0 < l.length → ∃ g o, A = some ⟨g, o, none⟩ ∧ g < w.heap.size ∧ ∀ k a, l[k]? = some a → w.cell? ⟨g, o + k * 2, none⟩ = some (.int .i64 a.page) ∧ w.cell? ⟨g, o + k * 2 + 1, none⟩ = some (.slice a.bA a.bn a.bc)
  ok : ∀ a ∈ l, ChOk w a
/-- A change that Bytes can write. -/
def Small (a : ChV) : Prop := 0 ≤ a.page ∧ a.page < 65536 ∧ a.bn = 64
theorem ChOk.keep {w w' : World} {a : ChV} (h : ChOk w a) (hc : Chg [] w w') : ChOk w' a := { h with bs := h.bs.keep hc }
theorem Chs.nil (w : World) (A : Option Addr) : Chs w A [] := ⟨fun h => absurd h (by simp), fun a ha => by simp at ha⟩
theorem Chs.keep {w w' : World} {A : Option Addr} {l : List ChV} (h : Chs w A l) (hc : Chg [] w w') : Chs w' A l := by
  refine ⟨fun h0 => ?_, fun a ha => (h.ok a ha).keep hc⟩
  obtain ⟨g, o, e, hg, hx⟩ := h.cells h0
  refine ⟨g, o, e, Nat.lt_of_lt_of_le hg hc.size, fun k a ha => ?_⟩
  obtain ⟨h1, h2⟩ := hx k a ha
  have hk : ∀ j, w'.cell? ⟨g, j, none⟩ = w.cell? ⟨g, j, none⟩ := fun j => World.cell?_of_block (w := w) (hc.block g hg (by simp))
  exact ⟨(hk _).trans h1, (hk _).trans h2⟩
/-- append as a step of a region that draws. -/
theorem step_append_src {P : Program} {w : World} {ops : Array Oper} {o : Oper} {a : Act} {K : Act → World → Prop} {Q : Exit → Act → World → Prop} {E : Prop} (hgd : o.guard = none) (s x : Operand) (t : TypeId)
    (ho : o.op = .call { callee := .builtin .append, args := #[s, x], argTypes := #[t, t] })
    (base : Nat) (e : TypeId) (i : TypeInfo) (z : Value) (bytes : Nat) (ht : P.underlying t = some (.slice e)) (hi : P.info? e = some i) (hz : i.zero = some z)
    (hsize : i.size = 1) (hby : i.bytes = bytes) (hzs : z.cells.size = 1)
    (v : Value) (n : Nat) (xs : List Value) (hse : a.eval s = v) (hown : w.ownsRow base e 1 v n xs)
    (A : Option Addr) (m c : Nat) (news : List Value) (hxe : a.eval x = .slice A m c) (hl : news.length = m) (hs : Src w A news) (h1 : ∀ u ∈ news, u.oneCell' = true)
    (h63 : n + m ≤ maxLen) (hbytes : (n + m) * bytes ≤ 140737488355328) (hbase : base ≤ w.heap.size)
    (h : ∀ v' w', w'.ownsRow base e 1 v' (n + m) (xs ++ news) → w.grownBy w' v.ownBlock → K (a.put o.dst v') w') :
    if Region.wanted o (yielded ops a.tmps) = true then Oper.wp P o a w K Q else E := by
  have hw : Region.wanted o (yielded ops a.tmps) = true := by simp [Region.wanted, hgd]
  rw [if_pos hw]
  obtain ⟨v', w', hrun, h2, h3, _⟩ := run_append_src (P := P) w base t o.type e i z bytes ht hi hz hsize hby hzs v n xs hown A m c news hl hs h1 h63 hbytes hbase
  unfold Oper.wp execOp
  simp only [ho, resolve, invoke, builtin, Sem.run_bind, Sem.run_pure, Result.andThen_ok, List.map_toArray, List.map_cons, List.map_nil, hse, hxe, hrun]
  exact h v' w' h2 h3
/-- Two bytes, the higher one first. -/
def be2 (k : Nat) : List UInt8 := [UInt8.ofNat (k / 256), UInt8.ofNat k]
theorem bts_be2 (k : Nat) (hk : k < 65536) : bts (be2 k) = [.int .u8 ((k : Int) / 256), .int .u8 ((k : Int) % 256)] := by
  unfold be2 bts
  simp only [List.map_cons, List.map_nil, B8, UInt8.toNat_ofNat']
  have h1 : k / 256 % 2 ^ 8 = k / 256 := Nat.mod_eq_of_lt (by omega)
  rw [h1]
  congr 2
/-- What of Right is asked of the pages, one behind the other. -/
def rightS (last pages : Int) : List ChV → Bool
  | [] => true
  | a :: l => !(decide (a.page ≤ last) || decide (pages ≤ a.page) || decide (a.bn ≠ 64)) && rightS a.page pages l
def rightB (pages : Int) (l : List ChV) : Bool := decide (pages ≤ 64) && rightS (-1) pages l
section
variable {w : World} {A : Option Addr} {n c : Nat}
set_option maxHeartbeats 1000000 in
set_option maxRecDepth 100000 in
theorem dput_any {B m : Nat} {X : List UInt8} {v : Value} (hown : w.ownsRow B 5 1 v m (bts X)) (hB : B ≤ w.heap.size) (k : Nat) (hk : k < 65536) (hm : m ≤ 1000000) :
    Calls Tryz.prog 109 #[v, .int .i64 (k : Int)] w fun e w' => ∃ v', e = .returned v' ∧ w'.ownsRow B 5 1 v' (m + 2) (bts (X ++ be2 k)) ∧ (∀ (g t : Nat) (cs : List Value), t ≠ 5 → Whole w g t cs → Whole w' g t cs) ∧ Low B w w' := by
  obtain ⟨i0, hi, hz, hs1, hb⟩ := info_parts info_byte
  obtain ⟨A1, c1, rfl, _, _, _, _⟩ := own_slice hown
  have hbe := Lib.hid (bts_be2 k hk)
  have hx : bts (X ++ be2 k) = bts X ++ bts (be2 k) := by simp [bts]
  have HX := Lib.hid hx
  clear hx
  go_enter Tryz.func109, Tryz.ntmps109
  go_wp2_with (first
    | (at_builtin
       refine wpList_append_own _ rfl (.tmp 5) (.tmp 11) _ rfl B 5 i0 (.int .u8 0) 1 1 Tryz.underlying30 hi hz hs1 hb rfl (by decide) _ m (bts X) rfl (own_keep hown ((Chg.refl _ _).alloc _)) ⟨w.heap.size, 0, none⟩ 2 2 [.int .u8 ((k : Int) / 256), .int .u8 ((k : Int) % 256)] rfl rfl ?c1 ?c2 ?c3 ?c4 ?c5 ?_
       case c1 => exact fun j u hj => by rw [add_plain, Nat.zero_add, (Whole.new w 5 [.int .u8 ((k : Int) / 256), .int .u8 ((k : Int) % 256)]).cell]; exact hj
       case c2 => simp [Value.oneCell']
       case c3 => simp only [maxLen]; omega
       case c4 => omega
       case c5 => simp; omega
       intro v' w2 hown' hg' _))
  go_ret
  refine ⟨v', rfl, ?_, fun g t cs ht hW => whole_grown (hW.keep ((Chg.refl [] w).alloc _)) (own_keep hown ((Chg.refl [] w).alloc _)) ht hg', (Low.of_chg ((Chg.refl [] w).alloc _)).trans (Low.of_own (own_keep hown ((Chg.refl [] w).alloc _)) hg')⟩
  rw [HX.out, hbe.out]
  exact hown'
set_option maxHeartbeats 2000000 in
set_option maxRecDepth 100000 in
theorem right_any {l : List ChV} (h : Chs w A l) (hl : l.length = n) (hn : n ≤ 9223372036854775807) (pages : Int) :
    Calls Tryz.prog 68 #[.slice A n c, .int .i64 pages] w (BoolPost (rightB pages l) w) := by
  have H := Lib.hid h
  have HL := Lib.hid hl
  clear h hl
  by_cases hp : 64 < pages
  · have hd : decide (64 < pages) = true := by simp; omega
    have HR := Lib.hid (show rightB pages l = false by unfold rightB; rw [decide_eq_false (by omega)]; rfl)
    go_enter Tryz.func68, Tryz.ntmps68
    go_wp2_with fail
    go_ret
    exact ⟨by rw [HR.out]; rfl, Chg.refl _ _⟩
  · have hd : decide (64 < pages) = false := by simp; omega
    have HR := Lib.hid (show rightB pages l = rightS (-1) pages l by unfold rightB; rw [decide_eq_true (by omega)]; rfl)
    go_enter Tryz.func68, Tryz.ntmps68
    go_wp2_with fail
    go_loopw [5, 12] (fun t i wr => ∃ k : Nat, k ≤ n ∧ i = .int .i64 (k : Int) ∧ (∃ last : Int, t = .int .i64 last ∧ Hid (rightB pages l = rightS last pages (l.drop k))) ∧ Chg [] w wr) (fun _ i _ => n - (intOf i).toNat)
    case atStart => exact ⟨0, Nat.zero_le _, rfl, ⟨-1, rfl, by rw [List.drop_zero]; exact HR⟩, Chg.refl _ _⟩
    case round =>
      obtain ⟨k, hk, rfl, ⟨last, rfl, HK⟩, hcr⟩ := hrel
      clear HR
      by_cases hlt : k < n
      · obtain ⟨a, ha⟩ : ∃ a, l[k]? = some a := ⟨_, List.getElem?_eq_getElem (by have := HL.out; omega)⟩
        obtain ⟨g, o, rfl, hg, hce⟩ := (H.out.keep hcr).cells (by have := HL.out; omega)
        obtain ⟨c0, c1⟩ := hce k a ha
        have HD := Lib.hid (show l.drop k = a :: l.drop (k + 1) by rw [List.drop_eq_getElem_cons (by have := HL.out; omega)]; congr 1; have := List.getElem?_eq_getElem (l := l) (i := k) (by have := HL.out; omega); rw [this] at ha; injection ha)
        have HC := Lib.hid hcr
        clear hce ha hcr
        obtain ⟨page, bA, bn, bc, B⟩ := a
        simp only at c0 c1
        have hkI : (k : Int) < (n : Int) := by omega
        by_cases h1 : page ≤ last
        · have hd1 : decide (page ≤ last) = true := by simp; omega
          have HF := Lib.hid (show rightB pages l = false by rw [HK.out, HD.out]; simp [rightS, h1])
          go_wp2_with fail
          go_ret
          exact ⟨by rw [HF.out]; rfl, HC.out.alloc _⟩
        · have hd1 : decide (page ≤ last) = false := by simp; omega
          by_cases h2 : pages ≤ page
          · have hd2 : decide (pages ≤ page) = true := by simp; omega
            have HF := Lib.hid (show rightB pages l = false by rw [HK.out, HD.out]; simp [rightS, h2])
            go_wp2_with fail
            go_ret
            exact ⟨by rw [HF.out]; rfl, HC.out.alloc _⟩
          · have hd2 : decide (pages ≤ page) = false := by simp; omega
            by_cases h3 : bn = 64
            · have HF := Lib.hid (show rightB pages l = rightS page pages (l.drop (k + 1)) by rw [HK.out, HD.out]; simp only [rightS]; rw [decide_eq_false h1, decide_eq_false h2, decide_eq_false (by simpa using h3)]; rfl)
              subst h3
              go_wp2_with fail
              go_roundw
              case rel => exact ⟨k + 1, by omega, by go_num, ⟨page, rfl, HF⟩, HC.out.alloc _⟩
              case measure => simp [intOf]; omega
            · have HF := Lib.hid (show rightB pages l = false by rw [HK.out, HD.out]; simp [rightS, h3])
              have hd3 : ((bn : Int) == 64) = false := by simp; omega
              have hd4 : (!((bn : Int) == 64)) = true := by simp; omega
              go_wp2_with fail
              go_ret
              exact ⟨by rw [HF.out]; rfl, HC.out.alloc _⟩
      · have HF := Lib.hid (show rightB pages l = true by rw [HK.out, List.drop_eq_nil_of_le (by have := HL.out; omega)]; rfl)
        have hkI : (n : Int) ≤ (k : Int) := by omega
        go_wp2_with fail
        go_ret
        exact ⟨by rw [HF.out]; rfl, hcr⟩
end
end Go.Proofs.YtddjgncdjdjgeaaGreat
namespace Go.Proofs.YtddjgncdjdjgeaaGreat
open Go.RowKit
/-- The state behind the first k sectors. -/
def bestK (n : Nat) (S : List UInt8) : Nat → RV
  | 0 => RV.zero
  | k + 1 => bestStep n (bestK n S k) (sectL S n k)
theorem bestK_lt (n : Nat) (S : List UInt8) : ∀ k, (bestK n S k).log < 4294967296 ∧ (bestK n S k).pages < 4294967296 ∧ (bestK n S k).epoch < 4294967296
  | 0 => ⟨by show 0 < _; omega, by show 0 < _; omega, by show 0 < _; omega⟩
  | k + 1 => bestStep_lt (bestK_lt n S k)
theorem sect_same {S x : List UInt8} {n k : Nat} (hS : S.length = 64 * n) (hk : k < n) (hx : x.length = 64) : sectL (splice S (k * 64) x) n k = x := by
  unfold sectL splice
  rw [if_pos hk, List.drop_left' (by rw [List.length_take]; omega), List.take_left' hx]
theorem sect_other {S x : List UInt8} {n k j : Nat} (hS : S.length = 64 * n) (hk : k < n) (hx : x.length = 64) (hj : j ≠ k) : sectL (splice S (k * 64) x) n j = sectL S n j := by
  unfold sectL splice
  split
  · rcases Nat.lt_or_ge j k with h | h
    · rw [List.drop_append_of_le_length (by rw [List.length_take]; omega), List.take_append_of_le_length (by rw [List.length_drop, List.length_take]; omega), List.drop_take, List.take_take, Nat.min_eq_left (by omega)]
    · have hl : (S.take (k * 64) ++ x).length = k * 64 + 64 := by rw [List.length_append, List.length_take, hx]; omega
      rw [← List.append_assoc, List.drop_append, List.drop_eq_nil_of_le (by omega), List.nil_append, hl, hx, List.drop_drop]
      congr 2
      omega
  · rfl
theorem sect_zeros (n k j : Nat) (h : 64 * n = k) : sectL (zeros k) n j = if j < n then zeros 64 else [] := by
  subst h
  unfold sectL zeros
  split
  · rw [List.drop_replicate, List.take_replicate]
    congr 1
    omega
  · rfl
end Go.Proofs.YtddjgncdjdjgeaaGreat
namespace Go.Proofs.YtddjgncdjdjgeaaGreat
open Go.RowKit Go.ChangeShapes Go.WideShapes Go.Deep
theorem list_of {α : Type} {P : Nat → α → Prop} (n : Nat) (h : ∀ i, i < n → ∃ a, P i a) : ∃ l : List α, l.length = n ∧ ∀ i a, l[i]? = some a → P i a := by
  induction n with
  | zero => exact ⟨[], rfl, fun i a h => by simp at h⟩
  | succ n ih =>
    obtain ⟨l, hl, hx⟩ := ih fun i hi => h i (by omega)
    obtain ⟨a, ha⟩ := h n (by omega)
    refine ⟨l ++ [a], by simp [hl], fun i b hb => ?_⟩
    rcases Nat.lt_trichotomy i n with hi | hi | hi
    · rw [List.getElem?_append_left (by omega)] at hb
      exact hx i b hb
    · subst hi
      rw [← hl, List.getElem?_concat_length] at hb
      cases hb
      exact ha
    · rw [List.getElem?_eq_none (by simp; omega)] at hb
      cases hb
section
variable {H : Type} {enc : TypeId × Value → H} {w : World} {base : Nat} {held : Bool}
theorem ints_row {k : IntKind} {P : Program} {t e : TypeId} {fuel : Nat} {v : Value} {x : DataW H × List MemPlace} (ht : P.underlying t = some (.slice e)) (he : P.underlying e = some (.int k)) (hc : P.cellsOf e = 1)
    (h : DataW.trod enc P w base (fun _ => true) held fuel t [v] = some x) : ∃ A n c zs, v = .slice A n c ∧ IsRow k w A n c zs := by
  rcases open_ints ht he hc h with ⟨hcs, _⟩ | ⟨x, l, c, zs, hcs, _, hl, hm, hz, hx, hcell, hwz⟩
  · simp only [List.cons.injEq, and_true] at hcs
    exact ⟨none, 0, 0, [], hcs, .inl ⟨rfl, rfl, rfl, rfl⟩⟩
  · simp only [List.cons.injEq, and_true] at hcs
    exact ⟨some x, l, c, zs, hcs, .inr ⟨x, rfl, hl, hm, by simpa using hz, hcell, hwz⟩⟩
theorem dch_fields : ∃ fs, Tryz.prog.underlying 51 = some (.struct fs) ∧ oneCellFields Tryz.prog fs = true ∧ fs.map (·.type) = #[3, 30] :=
  ⟨_, Tryz.underlying51, by kernel_rfl, by kernel_rfl⟩
theorem dtwo_list {α : Type} {l : List α} (h : l.length = 2) : ∃ a b, l = [a, b] := by
  match l, h with
  | [a, b], _ => exact ⟨a, b, rfl⟩
theorem dfield_at {fs : Array Field} {ts : Array TypeId} (h : fs.map (·.type) = ts) (j : Nat) (t : TypeId) (hj : ts[j]? = some t) : ∃ f : Field, fs[j]? = some f ∧ f.type = t := by
  rw [← h, Array.getElem?_map] at hj
  cases hf : fs[j]? with
  | none => rw [hf] at hj; cases hj
  | some f => rw [hf] at hj; exact ⟨f, rfl, by simpa using hj⟩
theorem dspot_none {w : World} {x : Addr} {k : Int} (hc : w.cell? x = some (.int .i64 k)) : x.spot = none := by
  cases hs : x.spot with
  | none => rfl
  | some u =>
    exfalso
    unfold World.cell? at hc
    rw [hs] at hc
    split at hc
    · simp at hc
    · cases hc
theorem dch_open {fuel : Nat} {cs : List Value} {x : DataW H × List MemPlace} (h : DataW.trod enc Tryz.prog w base (fun _ => true) held fuel 52 cs = some x) (v : Value) (hv : cs = [v]) :
    ∃ A n c l, v = .slice A n c ∧ l.length = n ∧ Chs w A l ∧ n ≤ c ∧ c ≤ maxLen := by
  subst hv
  rcases open_slice Tryz.underlying52 h with ⟨h0, _⟩ | ⟨a, len, cap, m, f, D, Pl, hcs, hb, hl, hm, hmm, hx, hi⟩
  · simp only [List.cons.injEq, and_true] at h0
    exact ⟨none, 0, 0, [], h0, rfl, Chs.nil _ _, Nat.le_refl _, by unfold maxLen; omega⟩
  · simp only [List.cons.injEq, and_true] at hcs
    rw [if_pos rfl] at hmm
    subst hmm
    have key : ∀ i, i < len → ∃ q : ChV, ChOk w q ∧ w.cell? (a.add (i * 2)) = some (.int .i64 q.page) ∧ w.cell? ((a.add (i * 2)).add 1) = some (.slice q.bA q.bn q.bc) := by
      intro i hlt
      have hC : Tryz.prog.cellsOf 51 = 2 := by kernel_rfl
      obtain ⟨cs', hc, ht'⟩ := hi i (by omega)
      rw [hC] at hc
      obtain ⟨fs, hu, hone, hty⟩ := dch_fields
      have hfs : fs.size = 2 := by have := congrArg Array.size hty; simpa using this
      obtain ⟨xs, n', hn', hy, hlen, hxl, hf⟩ := DataW.trod_struct hu ht'
      obtain ⟨_, hcl, hat⟩ := World.cells?_some hc
      rw [hfs] at hxl
      obtain ⟨f0, g0, t0⟩ := dfield_at hty 0 _ rfl
      obtain ⟨f1, g1, t1⟩ := dfield_at hty 1 _ rfl
      obtain ⟨o0, k0⟩ := hone_of hone 0 _ g0
      obtain ⟨o1, k1⟩ := hone_of hone 1 _ g1
      have q0 := hf 0 _ g0
      have q1 := hf 1 _ g1
      rw [o0, k0, t0] at q0
      rw [o1, k1, t1] at q1
      obtain ⟨v0, v1, rfl⟩ := dtwo_list hcl
      obtain ⟨y0, y1, rfl⟩ := dtwo_list hxl
      simp only [List.drop_zero, List.drop_succ_cons, List.take_succ_cons, List.take_zero, List.getElem?_cons_zero, List.getElem?_cons_succ] at q0 q1
      obtain ⟨z0, e0, _, w0⟩ := DataW.trod_int Tryz.underlying3 q0
      obtain ⟨A2, n2, c2, r2, e2, w2⟩ := ints_row Tryz.underlying30 Tryz.underlying5 (by kernel_rfl) q1
      simp only [List.cons.injEq, and_true] at e0
      subst e0 e2
      have a0 := hat 0 (by omega)
      have a1 := hat 1 (by omega)
      simp only [List.getElem?_cons_zero, List.getElem?_cons_succ] at a0 a1
      obtain ⟨B, hB⟩ := Bs.of_row w2
      obtain ⟨i00, i01⟩ := arg_i64 w0
      exact ⟨⟨z0, A2, n2, c2, B⟩, ⟨i00, i01, hB⟩, by simpa [Addr.add] using a0, a1⟩
    obtain ⟨l, hll, hlx⟩ := list_of len key
    refine ⟨some a, len, m, l, hcs, hll, ⟨fun h0 => ?_, fun q hq => ?_⟩, hl, hm⟩
    · obtain ⟨b, o, s⟩ := a
      have hs : s = none := by
        obtain ⟨_, h0, _⟩ := hlx 0 _ (List.getElem?_eq_getElem h0)
        have := dspot_none h0
        simpa [Addr.add] using this
      subst hs
      refine ⟨b, o, rfl, ?_, fun k q hq => ?_⟩
      · obtain ⟨_, h0, _⟩ := hlx 0 _ (List.getElem?_eq_getElem h0)
        rw [add_plain] at h0
        exact block_lt_of_cell h0
      · obtain ⟨_, h0, h1⟩ := hlx k q hq
        rw [add_plain] at h0
        rw [add_plain, add_plain] at h1
        exact ⟨h0, h1⟩
    · obtain ⟨i, hi, rfl⟩ := List.getElem_of_mem hq
      exact (hlx i _ (List.getElem?_eq_getElem hi)).1
end
end Go.Proofs.YtddjgncdjdjgeaaGreat
