/-
  N: SumB, Turn, BsMore, NumPure, SumK, RootPure, Frm, FrmRead, RootSect.
-/
import Derived.Test.YtddjgncdjdjgeaaGreatZN1
import Derived.Test.YtddjgncdjdjgeaaGreatZN5
import Derived.Test.YtddjgncdjdjgeaaGreatZN7
import Derived.Laws.BitsAllLaws
import Derived.Laws.CopyOwn
namespace Go.Proofs.YtddjgncdjdjgeaaGreat
open Go.RowKit
section
variable {w : World} {A : Option Addr} {n c : Nat} {l : List UInt8}
theorem sum_b (h : Bs w A n c l) : Calls Tryz.prog 108 #[.slice A n c] w fun e w' => e = .returned (.int .u32 (sumL 2166136261 l)) ∧ w = w' := sum_any h.len h.src h.le h.spot
theorem rsum_b (h : Bs w A n c l) : Calls Tryz.prog 81 #[.slice A n c] w fun e w' => e = .returned (.int .u32 (sumL 2166136261 l)) ∧ w = w' := rsum_any h.len h.src h.le h.spot
theorem put_b (h : Bs w A n c l) (k : Nat) (hk : k < 4294967296) (hn : n + 4 ≤ 140737488355328) : Calls Tryz.prog 107 #[.slice A n c, .int .u32 (k : Int)] w (BytesPost w (l ++ be4 k)) := put_any k hk h.len h.src hn
theorem rput_b (h : Bs w A n c l) (k : Nat) (hk : k < 4294967296) (hn : n + 4 ≤ 140737488355328) : Calls Tryz.prog 80 #[.slice A n c, .int .u32 (k : Int)] w (BytesPost w (l ++ be4 k)) := rput_any k hk h.len h.src hn
theorem get_b (h : Bs w A n c l) (i : Int) (hi : i ≤ 9223372036854775807) : Calls Tryz.prog 119 #[.slice A n c, .int .i64 i] w fun e w' => e = .returned (.int .u32 (getI l i : Nat)) ∧ w = w' := by
  unfold getI
  split
  · rename_i hc
    obtain ⟨k, rfl⟩ := Int.eq_ofNat_of_zero_le hc.1
    rw [Int.toNat_natCast]
    exact get_yes h.len h.src h.le h.spot k (by have := h.len; omega) h.cap h.max
  · rename_i hc
    exact get_no h.le i (by have := h.len; omega) hi
theorem rget_b (h : Bs w A n c l) (i : Int) (hi : i ≤ 9223372036854775807) : Calls Tryz.prog 124 #[.slice A n c, .int .i64 i] w fun e w' => e = .returned (.int .u32 (getI l i : Nat)) ∧ Chg [] w w' := by
  unfold getI
  split
  · rename_i hc
    obtain ⟨k, rfl⟩ := Int.eq_ofNat_of_zero_le hc.1
    rw [Int.toNat_natCast]
    exact rget_yes h.len h.src h.le h.spot k (by have := h.len; omega)
  · rename_i hc
    refine (rget_no h.le i (by have := h.len; omega) hi).mono ?_
    rintro e w' ⟨rfl, rfl⟩
    exact ⟨rfl, Chg.refl _ _⟩
end
end Go.Proofs.YtddjgncdjdjgeaaGreat
namespace Go.Proofs.YtddjgncdjdjgeaaGreat
open Go.RowKit

def stpN (h : Nat) (b : UInt8) : Nat := (h ^^^ b.toNat) * 16777619 % 4294967296
def sumN (h : Nat) (l : List UInt8) : Nat := l.foldl stpN h
theorem stp_nat (h : Nat) (b : UInt8) (hh : h < 4294967296) : stp (h : Int) b = (stpN h b : Nat) := by
  have hb := b.toNat_lt
  have e1 : ((b.toNat : Nat) : Int) % 4294967296 = ((b.toNat : Nat) : Int) := by omega
  unfold stp stpN
  rw [e1, u32_xor_nat h b.toNat hh (by omega)]
  generalize h ^^^ b.toNat = y
  omega
theorem stpN_lt (h : Nat) (b : UInt8) : stpN h b < 4294967296 := by unfold stpN; omega
theorem sum_nat : ∀ (l : List UInt8) (h : Nat), h < 4294967296 → sumL (h : Int) l = (sumN h l : Nat)
  | [], h, _ => rfl
  | b :: l, h, hh => by
    have e1 : sumL (h : Int) (b :: l) = sumL (stp (h : Int) b) l := rfl
    have e2 : sumN h (b :: l) = sumN (stpN h b) l := rfl
    rw [e1, e2, stp_nat h b hh]
    exact sum_nat l _ (stpN_lt h b)
theorem sumN_lt : ∀ (l : List UInt8) (h : Nat), h < 4294967296 → sumN h l < 4294967296
  | [], _, hh => hh
  | b :: l, h, _ => by
    have e2 : sumN h (b :: l) = sumN (stpN h b) l := rfl
    rw [e2]
    exact sumN_lt l _ (stpN_lt h b)
end Go.Proofs.YtddjgncdjdjgeaaGreat
namespace Go.Proofs.YtddjgncdjdjgeaaGreat
open Go.RowKit
section
variable {w : World} {A : Option Addr} {n c : Nat} {l : List UInt8}
theorem Bs.take (h : Bs w A n c l) {m : Nat} (hm : m ≤ n) : Bs w A m c (l.take m) :=
  ⟨by rw [List.length_take, h.len]; omega, src_pre m h.src, Nat.le_trans hm h.cap, h.max, fun h0 => h.spot (by omega)⟩
where
  src_pre (m : Nat) {w : World} {A : Option Addr} {l : List UInt8} (hs : Src w A (bts l)) : Src w A (bts (l.take m)) := fun hp => by
    obtain ⟨ad, e, hb, hx⟩ := hs (by simp [bts] at hp ⊢; omega)
    refine ⟨ad, e, hb, fun j v hj => hx j v ?_⟩
    unfold bts at hj ⊢
    rw [List.map_take, List.getElem?_take] at hj
    split at hj
    · exact hj
    · cases hj

end
theorem bts_app (l m : List UInt8) : bts (l ++ m) = bts l ++ bts m := by simp [bts]
theorem add0 (A : Option Addr) : Option.map (fun x : Addr => x.add 0) A = A := by cases A <;> simp [Addr.add]
/-- An own row that is not empty: its block, whole. -/
theorem own_whole {w : World} {B n : Nat} {e : TypeId} {v : Value} {xs : List Value} (h : w.ownsRow B e 1 v n xs) (hn : 0 < n) :
    ∃ g r, v = .slice (some ⟨g, 0, none⟩) n (n + r.length) ∧ B ≤ g ∧ Whole w g e (xs ++ r) ∧ n + r.length ≤ maxLen := by
  rcases h.2 with ⟨_, h0⟩ | ⟨g, cap, cur, rfl, hb, hg, hc, hm, hs, ht⟩
  · omega
  · have hl : cur.toList.length = cap := by rw [Array.length_toList]; omega
    have h1 : n * 1 = n := Nat.mul_one n
    rw [h1] at ht
    have e1 : cap = n + (cur.toList.drop n).length := by rw [List.length_drop, hl]; omega
    refine ⟨g, cur.toList.drop n, by rw [← e1], hb, ?_, by omega⟩
    unfold Whole
    rw [← ht, List.take_append_drop]
    exact hg

end Go.Proofs.YtddjgncdjdjgeaaGreat
namespace Go.Proofs.YtddjgncdjdjgeaaGreat
open Go.RowKit

/-- The sum of bytes, as a number. -/
def sumK (l : List UInt8) : Nat := sumN 2166136261 l
theorem sumK_lt (l : List UInt8) : sumK l < 4294967296 := sumN_lt l _ (by omega)
theorem sumL_K (l : List UInt8) : sumL 2166136261 l = (sumK l : Nat) := by
  have h := sum_nat l 2166136261 (by omega)
  have e : ((2166136261 : Nat) : Int) = 2166136261 := rfl
  rw [e] at h
  exact h

theorem numB_of_be4 (k : Nat) (hk : k < 4294967296) : numB (be4 k) = k := by
  simp only [numB, be4, List.foldl_cons, List.foldl_nil, UInt8.toNat_ofNat']
  omega
theorem getI_put (l m : List UInt8) (k : Nat) (hk : k < 4294967296) (i : Int) (hi : i = l.length) : getI (l ++ (be4 k ++ m)) i = k := by
  subst hi
  unfold getI
  rw [if_pos ⟨by omega, by simp only [List.length_append, be4_len]; omega⟩, Int.toNat_natCast, List.drop_left, List.take_left' (be4_len k), numB_of_be4 k hk]
end Go.Proofs.YtddjgncdjdjgeaaGreat
namespace Go.Proofs.YtddjgncdjdjgeaaGreat
open Go.RowKit
theorem sumk_b {w : World} {A : Option Addr} {n c : Nat} {l : List UInt8} (h : Bs w A n c l) : Calls Tryz.prog 108 #[.slice A n c] w fun e w' => e = .returned (.int .u32 (sumK l : Nat)) ∧ w = w' := by
  rw [← sumL_K]; exact sum_b h
theorem rsumk_b {w : World} {A : Option Addr} {n c : Nat} {l : List UInt8} (h : Bs w A n c l) : Calls Tryz.prog 81 #[.slice A n c] w fun e w' => e = .returned (.int .u32 (sumK l : Nat)) ∧ w = w' := by
  rw [← sumL_K]; exact rsum_b h
end Go.Proofs.YtddjgncdjdjgeaaGreat
namespace Go.Proofs.YtddjgncdjdjgeaaGreat
open Go.RowKit
def markL : List UInt8 := [69, 78, 71, 49]
def headR (a b c : Nat) : List UInt8 := markL ++ be4 a ++ be4 b ++ be4 c
def rootL (a b c : Nat) : List UInt8 := headR a b c ++ be4 (sumK (headR a b c)) ++ zeros 44
theorem headR_len (a b c : Nat) : (headR a b c).length = 16 := rfl
theorem rootL_len (a b c : Nat) : (rootL a b c).length = 64 := by
  unfold rootL
  rw [List.length_append, List.length_append, headR_len, be4_len, zeros_len]
section
variable (a b c : Nat)
theorem root_get (ha : a < 4294967296) (hb : b < 4294967296) (hc : c < 4294967296) :
    getI (rootL a b c) ((4 : Nat) : Int) = a ∧ getI (rootL a b c) ((8 : Nat) : Int) = b ∧ getI (rootL a b c) ((12 : Nat) : Int) = c ∧ getI (rootL a b c) ((16 : Nat) : Int) = sumK (headR a b c) ∧ (rootL a b c).take 16 = headR a b c := by
  refine ⟨?_, ?_, ?_, ?_, ?_⟩
  · have e : rootL a b c = markL ++ (be4 a ++ (be4 b ++ be4 c ++ be4 (sumK (headR a b c)) ++ zeros 44)) := by
      simp only [rootL, headR, List.append_assoc]
    rw [e]; exact getI_put _ _ a ha _ rfl
  · have e : rootL a b c = (markL ++ be4 a) ++ (be4 b ++ (be4 c ++ be4 (sumK (headR a b c)) ++ zeros 44)) := by
      simp only [rootL, headR, List.append_assoc]
    rw [e]; exact getI_put _ _ b hb _ rfl
  · have e : rootL a b c = (markL ++ be4 a ++ be4 b) ++ (be4 c ++ (be4 (sumK (headR a b c)) ++ zeros 44)) := by
      simp only [rootL, headR, List.append_assoc]
    rw [e]; exact getI_put _ _ c hc _ rfl
  · have e : rootL a b c = headR a b c ++ (be4 (sumK (headR a b c)) ++ zeros 44) := by
      simp only [rootL, List.append_assoc]
    rw [e]; exact getI_put _ _ _ (sumK_lt _) _ (by rw [headR_len])
  · have e : rootL a b c = headR a b c ++ (be4 (sumK (headR a b c)) ++ zeros 44) := by
      simp only [rootL, List.append_assoc]
    rw [e]; exact List.take_left' (headR_len _ _ _)
theorem root_mark : (rootL a b c).take 4 = markL := by
  have e : rootL a b c = markL ++ (be4 a ++ be4 b ++ be4 c ++ be4 (sumK (headR a b c)) ++ zeros 44) := by
    simp only [rootL, headR, List.append_assoc]
  rw [e]; exact List.take_left' rfl
end
/-- The bytes are a root: of these numbers. -/
def isRoot (l : List UInt8) : Prop := getI l 4 ≤ 2147483647 ∧ getI l 8 ≤ 2147483647 ∧ l = rootL (getI l 4) (getI l 8) (getI l 12)
instance (l : List UInt8) : Decidable (isRoot l) := by unfold isRoot; exact inferInstance
theorem root_is (a b c : Nat) (ha : a ≤ 2147483647) (hb : b ≤ 2147483647) (hc : c < 4294967296) : isRoot (rootL a b c) ∧ getI (rootL a b c) 4 = a ∧ getI (rootL a b c) 8 = b ∧ getI (rootL a b c) 12 = c := by
  obtain ⟨h4, h8, h12, _, _⟩ := root_get a b c (by omega) (by omega) hc
  have h4' : getI (rootL a b c) 4 = a := h4
  have h8' : getI (rootL a b c) 8 = b := h8
  have h12' : getI (rootL a b c) 12 = c := h12
  refine ⟨⟨by omega, by omega, by rw [h4', h8', h12']⟩, h4', h8', h12'⟩
theorem isRoot_len {l : List UInt8} (h : isRoot l) : l.length = 64 := by rw [h.2.2, rootL_len]
theorem isRoot_mark {l : List UInt8} (h : isRoot l) : l.take 4 = markL := by rw [h.2.2, root_mark]
/-- What Right asks. -/
def rightR (L P E s : Int) : Bool := decide (1 ≤ L ∧ L ≤ 64 ∧ 1 ≤ P ∧ P ≤ 64 ∧ 2 + L + P ≤ s ∧ 1 ≤ E)
theorem rightR_true {L P E s : Int} : rightR L P E s = true ↔ (1 ≤ L ∧ L ≤ 64 ∧ 1 ≤ P ∧ P ≤ 64 ∧ 2 + L + P ≤ s ∧ 1 ≤ E) := by unfold rightR; exact decide_eq_true_iff
theorem rightR_false {L P E s : Int} : rightR L P E s = false ↔ ¬ (1 ≤ L ∧ L ≤ 64 ∧ 1 ≤ P ∧ P ≤ 64 ∧ 2 + L + P ≤ s ∧ 1 ≤ E) := by unfold rightR; exact decide_eq_false_iff_not
/-- The numbers of a root. -/
structure RV where
  log : Nat
  pages : Nat
  epoch : Nat
def RV.zero : RV := ⟨0, 0, 0⟩
/-- The best so far and one more. -/
def bestStep (n : Int) (o : RV) (l : List UInt8) : RV :=
  if isRoot l ∧ rightR (getI l 4) (getI l 8) (getI l 12) n = true ∧ o.epoch < getI l 12 then ⟨getI l 4, getI l 8, getI l 12⟩ else o
theorem bestStep_lt {n : Int} {o : RV} {l : List UInt8} (h : o.log < 4294967296 ∧ o.pages < 4294967296 ∧ o.epoch < 4294967296) : (bestStep n o l).log < 4294967296 ∧ (bestStep n o l).pages < 4294967296 ∧ (bestStep n o l).epoch < 4294967296 := by
  unfold bestStep
  split
  · exact ⟨getI_lt _ _, getI_lt _ _, getI_lt _ _⟩
  · exact h
/-- The i-th sector of S, or none. -/
def sectL (S : List UInt8) (n i : Nat) : List UInt8 := if i < n then (S.drop (i * 64)).take 64 else []
end Go.Proofs.YtddjgncdjdjgeaaGreat
namespace Go.Proofs.YtddjgncdjdjgeaaGreat
open Go.RowKit

def headL (ep sq : Nat) (l : List UInt8) : List UInt8 := be4 ep ++ be4 sq ++ be4 (l.length % 4294967296) ++ l
def frameL (ep sq : Nat) (l : List UInt8) : List UInt8 := headL ep sq l ++ be4 (sumK (headL ep sq l))
theorem headL_len (ep sq : Nat) (l : List UInt8) : (headL ep sq l).length = 12 + l.length := by simp only [headL, List.length_append, be4_len]
theorem frameL_len (ep sq : Nat) (l : List UInt8) : (frameL ep sq l).length = 16 + l.length := by simp only [frameL, List.length_append, be4_len, headL_len]; omega

end Go.Proofs.YtddjgncdjdjgeaaGreat
namespace Go.Proofs.YtddjgncdjdjgeaaGreat
open Go.RowKit

/-- What Read answers. -/
def readOk (l : List UInt8) (ep sq : Nat) : Prop := 16 ≤ l.length ∧ getI l 0 = ep ∧ getI l 4 = sq ∧ getI l 8 ≤ l.length - 16 ∧ getI l ((12 + getI l 8 : Nat) : Int) = sumK (l.take (12 + getI l 8))
def recL (l : List UInt8) : List UInt8 := (l.drop 12).take (getI l 8)
def ReadPost (w : World) (l : List UInt8) (ep sq : Nat) (e : Ending) (w' : World) : Prop :=
  (readOk l ep sq ∧ ∃ v, e = .returned (.tuple #[v, .int .i64 ((16 + getI l 8 : Nat) : Int), .bool true]) ∧ w'.ownsRow w.heap.size 5 1 v (recL l).length (bts (recL l)) ∧ Chg [] w w') ∨
  (¬ readOk l ep sq ∧ e = .returned (.tuple #[.slice none 0 0, .int .i64 0, .bool false]) ∧ Chg [] w w')
theorem make_u32 (q : Nat) (hq : q ≤ 281474976710656) (W : World) :
    (Instr.makeSlice 30 (.int .u32 (q : Int)) (.int .u32 (q : Int))).run Tryz.prog W = .ok (.slice (some ⟨W.heap.size, 0, none⟩) q q) (W.alloc (.cells (bts (zeros q)).toArray 5)) := by
  obtain ⟨i, hi, hz, hs1, hb⟩ := info_parts info_byte
  have hb' : (i.bytes : Int) * (q : Int) ≤ 281474976710656 := by rw [hb]; omega
  have h := run_make (P := Tryz.prog) W 30 5 i _ Tryz.underlying30 hi hz .u32 .u32 (q : Int) (q : Int) (by omega) (Int.le_refl _) hb' (by omega)
  have h1 : (Value.int .u8 0).cells = #[Value.int .u8 0] := rfl
  rw [h, hs1, h1, made_one, bts_zeros]
  simp
theorem size_byte : (Tryz.prog.info? 5).map (·.size) = some 1 := by kernel_rfl
theorem bne_f {a b : Int} (h : a = b) : (a != b) = false := by simpa using h
theorem bne_t {a b : Int} (h : a ≠ b) : (a != b) = true := by simpa using h

section
variable {w : World} {A : Option Addr} {n c : Nat} {l : List UInt8}
set_option maxHeartbeats 2000000 in
set_option maxRecDepth 100000 in
theorem read_any' (h : Bs w A n c l) (ep sq : Nat) (hn : n ≤ 140737488355328) :
    Calls Tryz.prog 121 #[.slice A n c, .int .u32 (ep : Int), .int .u32 (sq : Int)] w (ReadPost w l ep sq) := by
  have hl := h.len
  by_cases h16 : n < 16
  · have hno : ¬ readOk l ep sq := fun hr => by have := hr.1; omega
    have HNO := Lib.hid hno
    clear hno hl
    go_enter Tryz.func121, Tryz.ntmps121
    go_wp2_with fail
    go_ret3
    exact .inr ⟨HNO.out, rfl, Chg.refl _ _⟩
  have hd16 : decide ((n : Int) < 16) = false := by simp; omega
  have HL := Lib.hid hl
  clear hl
  by_cases h0 : getI l 0 = ep
  rotate_left
  · have HNO := Lib.hid (show ¬ readOk l ep sq from fun hr => h0 hr.2.1)
    have hb := bne_t (show ((getI l 0 : Nat) : Int) ≠ (ep : Int) by omega)
    clear h0
    go_enter Tryz.func121, Tryz.ntmps121
    go_wp2_with fail
    refine (get_b h 0 (by omega)).mono ?_
    rintro e w' ⟨rfl, rfl⟩
    go_wp2_with fail
    go_ret3
    exact .inr ⟨HNO.out, rfl, Chg.refl _ _⟩
  by_cases h4 : getI l 4 = sq
  rotate_left
  · have HNO := Lib.hid (show ¬ readOk l ep sq from fun hr => h4 hr.2.2.1)
    have hb := bne_t (show ((getI l 4 : Nat) : Int) ≠ (sq : Int) by omega)
    have hb0 := bne_f (show ((getI l 0 : Nat) : Int) = (ep : Int) by omega)
    clear h4 h0
    go_enter Tryz.func121, Tryz.ntmps121
    go_wp2_with fail
    refine (get_b h 0 (by omega)).mono ?_
    rintro e w' ⟨rfl, rfl⟩
    go_wp2_with fail
    refine (get_b h 4 (by omega)).mono ?_
    rintro e w' ⟨rfl, rfl⟩
    go_wp2_with fail
    go_ret3
    exact .inr ⟨HNO.out, rfl, Chg.refl _ _⟩
  have hb0 := bne_f (show ((getI l 0 : Nat) : Int) = (ep : Int) by omega)
  have hb4 := bne_f (show ((getI l 4 : Nat) : Int) = (sq : Int) by omega)
  have H0 := Lib.hid h0
  have H4 := Lib.hid h4
  clear h0 h4
  have hq := getI_lt l 8
  by_cases h8 : getI l 8 ≤ n - 16
  rotate_left
  · have HNO := Lib.hid (show ¬ readOk l ep sq from fun hr => h8 (by have := hr.2.2.2.1; rw [HL.out] at this; exact this))
    have hgt : (n : Int) - 16 < ((getI l 8 : Nat) : Int) := by omega
    go_enter Tryz.func121, Tryz.ntmps121
    go_wp2_with fail
    refine (get_b h 0 (by omega)).mono ?_
    rintro e w' ⟨rfl, rfl⟩
    go_wp2_with fail
    refine (get_b h 4 (by omega)).mono ?_
    rintro e w' ⟨rfl, rfl⟩
    go_wp2_with fail
    refine (get_b h 8 (by omega)).mono ?_
    rintro e w' ⟨rfl, rfl⟩
    go_wp2_with fail
    go_ret3
    exact .inr ⟨HNO.out, rfl, Chg.refl _ _⟩
  have hle : ((getI l 8 : Nat) : Int) ≤ (n : Int) - 16 := by omega
  go_enter Tryz.func121, Tryz.ntmps121
  go_wp2_with fail
  refine (get_b h 0 (by omega)).mono ?_
  rintro e w' ⟨rfl, rfl⟩
  go_wp2_with fail
  refine (get_b h 4 (by omega)).mono ?_
  rintro e w' ⟨rfl, rfl⟩
  go_wp2_with fail
  refine (get_b h 8 (by omega)).mono ?_
  rintro e w' ⟨rfl, rfl⟩
  go_wp2_with fail
  obtain ⟨q, hqe⟩ : ∃ q, q = getI l 8 := ⟨_, rfl⟩
  rw [← hqe] at hq h8 hle ⊢
  have ECAST := Lib.hid (show (12 : Int) + (q : Int) = ((12 + q : Nat) : Int) by omega)
  have e1 : ((12 : Int) + (q : Int)).toNat = 12 + q := by omega
  have e2 : (0 : Int) ≤ 12 + (q : Int) := by omega
  have hcap := h.cap
  have e3 : ¬ (c : Int) < 12 + (q : Int) := by omega
  have e4 : ¬ c < 12 + q := by omega
  have hA0 : Option.map (fun x : Addr => x.add 0) A = A := by cases A <;> simp [Addr.add]
  have HE := Lib.hid hqe
  have hT := h.take (m := 12 + q) (by omega)
  clear hqe
  have kp : ∀ W, Chg [] w.drew W → Chg [] w W := fun W hW => (Chg.refl [] w).drew.new hW
  obtain ⟨b, hbt⟩ : ∃ b : Bool, b = (((getI l (12 + (q : Int)) : Nat) : Int) != ((sumK (l.take (12 + q)) : Nat) : Int)) := ⟨_, rfl⟩
  refine wp_flow (by kernel_rfl) plainT plainT_ok (by kernel_rfl) ?_
  refine flow_move_out plainT_ok rfl rfl rfl ?_
  refine flow_move_out plainT_ok rfl rfl rfl ?_
  refine flow_callv (.int .u32 ((getI l (12 + (q : Int)) : Nat) : Int)) (by kernel_rfl) rfl (.cons (.inn rfl) (.cons (.inn rfl) .nil)) (fun W hW => (get_b (h.keep (kp W hW)) (12 + (q : Int)) (by omega)).mono ?_) ?_
  · rintro e w' ⟨rfl, rfl⟩; exact ⟨rfl, Chg.refl _ _⟩
  refine flow_move_out plainT_ok rfl rfl rfl ?_
  refine flow_move_out plainT_ok rfl rfl rfl ?_
  refine flow_slice_hi (r := .slice A (12 + q) c) plainT_ok (.inn rfl) (.inn rfl) (fun ev W he e1 e2 => by go_simp) rfl ?_
  refine flow_callv (.int .u32 ((sumK (l.take (12 + q)) : Nat) : Int)) (by kernel_rfl) rfl (.cons (.inn rfl) .nil) (fun W hW => (sumk_b (hT.keep (kp W hW))).mono ?_) ?_
  · rintro e w' ⟨rfl, rfl⟩; exact ⟨rfl, Chg.refl _ _⟩
  refine flow2 (r := .bool b) plainT_ok rfl (.inn rfl) (.inn rfl) rfl (fun ev W he e1 e2 => by rw [hbt]; go_simp) ?_
  intro vs W hW hF
  have e46 : vs 46 = .bool b := hF 46 _ rfl rfl
  have hcW := kp W hW
  simp only [putAll, Act.put, List.setIfInBounds_toArray, List.set_cons_zero, List.set_cons_succ, e46]
  cases b with
  | true =>
    have hne : getI l (12 + (q : Int)) ≠ sumK (l.take (12 + q)) := fun hc => by rw [hc] at hbt; simp at hbt
    have HNO := Lib.hid (show ¬ readOk l ep sq from fun hr => hne (by have := hr.2.2.2.2; rw [← HE.out, ← ECAST.out] at this; exact this))
    clear hbt hne
    go_wp2_with fail
    go_ret3
    exact .inr ⟨HNO.out, rfl, hcW⟩
  | false =>
    have heq : getI l (12 + (q : Int)) = sumK (l.take (12 + q)) := by
      have h2 := hbt.symm
      simp only [bne_eq_false_iff_eq] at h2
      omega
    have HOK := Lib.hid (show readOk l ep sq from ⟨by rw [HL.out]; omega, H0.out, H4.out, by rw [← HE.out, HL.out]; exact h8, by rw [← HE.out, ← ECAST.out]; exact heq⟩)
    clear hbt heq
    have hmk := make_u32 q (by omega)
    have hC := (h.keep hcW).cut (lo := 12) (hi := 12 + q) (by omega) (by omega)
    have hc12 : ¬ c = 12 := by omega
    rw [if_neg hc12, show 12 + q - 12 = q by omega] at hC
    have e5 : ¬ 12 + q < 12 := by omega
    have e6 : 12 + q - 12 = q := by omega
    obtain ⟨⟨b0, o0, s0⟩, rfl, _, _⟩ := h.src (by rw [bts_len, HL.out]; omega)
    obtain rfl : s0 = none := h.spot (by omega) _ rfl
    simp only [Option.map_some, add_plain] at hC
    obtain ⟨X, hX⟩ : ∃ X, X = (l.drop 12).take q := ⟨_, rfl⟩
    rw [← hX] at hC
    have hXl := Lib.hid (show (bts X).length = Nat.min q q by rw [bts_len, hC.len]; simp)
    have hsp := Lib.hid (show splice (bts (zeros q)) 0 (bts X) = bts X by rw [splice_all]; rw [bts_len, bts_len, zeros_len, hC.len])
    have hfit : 0 + (bts X).length ≤ (bts (zeros q)).length := by rw [bts_len, bts_len, zeros_len, hC.len]; omega
    have HX := Lib.hid hX
    have hXq := Lib.hid hC.len
    clear hX
    have HFIT := Lib.hid hfit
    clear hfit
    have hsX := hC.src
    clear hC
    go_wp2_with (with_reducible refine wpList_copy_chg rfl (.tmp 49) (.tmp 52) _ _ rfl 5 Tryz.underlying30 size_byte (some ⟨W.heap.size, 0, none⟩) (some ⟨b0, o0 + 12, none⟩) q q q (c - 12) rfl rfl W.heap.size 0 5 (bts (zeros q)) (bts X) (Whole.new W _ _) hXl.out (fun _ => rfl) (hsX.keep ((Chg.refl _ _).alloc _)) HFIT.out (bts_one X) ?_
                 intro w1 HG HC
                 rw [hsp.out] at HG)
    go_ret3
    refine .inl ⟨HOK.out, .slice (some ⟨W.heap.size, 0, none⟩) q q, ?_, ?_, ?_⟩
    · rw [← HE.out]
      have e7 : (16 : Int) + (q : Int) = ((16 + q : Nat) : Int) := by omega
      rw [← e7]; rfl
    · have hr : recL l = X := by rw [recL, ← HE.out, HX.out]
      rw [hr, hXq.out]
      have := own_of_whole (B := w.heap.size) (n := q) (c := q) HG hcW.size (by rw [bts_len, hXq.out]) (Nat.le_refl _) (by unfold maxLen; omega)
      rwa [List.take_of_length_le (by rw [bts_len, hXq.out]; exact Nat.le_refl _)] at this
    · exact (hcW.alloc (.cells (bts (zeros q)).toArray 5)).then_ HC (by have := hcW.size; simp; omega)
end
end Go.Proofs.YtddjgncdjdjgeaaGreat
namespace Go.Proofs.YtddjgncdjdjgeaaGreat
open Go.RowKit
/-- The state behind the first k sectors. -/
def bestK (n : Nat) (S : List UInt8) : Nat → RV
  | 0 => RV.zero
  | k + 1 => bestStep n (bestK n S k) (sectL S n k)
theorem bestK_lt (n : Nat) (S : List UInt8) : ∀ k, (bestK n S k).log < 4294967296 ∧ (bestK n S k).pages < 4294967296 ∧ (bestK n S k).epoch < 4294967296
  | 0 => ⟨by show 0 < _; omega, by show 0 < _; omega, by show 0 < _; omega⟩
  | k + 1 => bestStep_lt (bestK_lt n S k)
theorem sect_same {S x : List UInt8} {n k : Nat} (hS : S.length = 64 * n) (hk : k < n) (hx : x.length = 64) : sectL (splice S (k * 64) x) n k = x := by
  unfold sectL splice
  rw [if_pos hk, List.drop_left' (by rw [List.length_take]; omega), List.take_left' hx]
theorem sect_other {S x : List UInt8} {n k j : Nat} (hS : S.length = 64 * n) (hk : k < n) (hx : x.length = 64) (hj : j ≠ k) : sectL (splice S (k * 64) x) n j = sectL S n j := by
  unfold sectL splice
  split
  · rcases Nat.lt_or_ge j k with h | h
    · rw [List.drop_append_of_le_length (by rw [List.length_take]; omega), List.take_append_of_le_length (by rw [List.length_drop, List.length_take]; omega), List.drop_take, List.take_take, Nat.min_eq_left (by omega)]
    · have hl : (S.take (k * 64) ++ x).length = k * 64 + 64 := by rw [List.length_append, List.length_take, hx]; omega
      rw [← List.append_assoc, List.drop_append, List.drop_eq_nil_of_le (by omega), List.nil_append, hl, hx, List.drop_drop]
      congr 2
      omega
  · rfl
theorem sect_zeros (n k j : Nat) (h : 64 * n = k) : sectL (zeros k) n j = if j < n then zeros 64 else [] := by
  subst h
  unfold sectL zeros
  split
  · rw [List.drop_replicate, List.take_replicate]
    congr 1
    omega
  · rfl
end Go.Proofs.YtddjgncdjdjgeaaGreat
