/-
  T: BEq, RootFn, ShadeC, KeepCh, DeltaSame.
-/
import Derived.Test.YtddjgncdjdjgeaaZT1
import Derived.Test.YtddjgncdjdjgeaaZT2
import Derived.Test.YtddjgncdjdjgeaaZT3
import Derived.Test.YtddjgncdjdjgeaaZT5
import Derived.Test.YtddjgncdjdjgeaaZT6
import Derived.Test.YtddjgncdjdjgeaaZT8
import Derived.Test.YtddjgncdjdjgeaaZT9
import Derived.Test.YtddjgncdjdjgeaaChecked
import Derived.Deep.QuietTactic
import Derived.BigQuiet
import Derived.IntWalk
import Derived.Laws.BitsLemmas
import Derived.BigRegion
import Derived.Deep.RegionWith
namespace Go.Proofs.Ytddjgncdjdjgeaa
open Go.RowKit
theorem str_ne {l m : List UInt8} : ((strOf l).toList == (strOf m).toList) = decide (l = m) := by
  rw [ByteArray.toList_eq, ByteArray.toList_eq]
  show (l == m) = decide (l = m)
  by_cases h : l = m
  · subst h; simp
  · rw [decide_eq_false h, beq_eq_false_iff_ne]; exact h
section
variable {w : World} {A A2 : Option Addr} {n c n2 c2 : Nat}
set_option maxHeartbeats 1000000 in
set_option maxRecDepth 100000 in
theorem bequal_any {l m : List UInt8} (h : Bs w A n c l) (h2 : Bs w A2 n2 c2 m) :
    Calls Try.prog 103 #[.slice A n c, .slice A2 n2 c2] w fun e w' => e = .returned (.bool (decide (l = m))) ∧ w = w' := by
  have v1 := h.str (P := Try.prog) 44 5 9 Try.underlying44 Try.underlying5 Try.underlying9
  have v2 := h2.str (P := Try.prog) 44 5 9 Try.underlying44 Try.underlying5 Try.underlying9
  have HE := Lib.hid (str_ne (l := l) (m := m))
  go_enter Try.func103, Try.ntmps103
  go_wp2_with fail
  go_ret
  exact ⟨by rw [← HE.out]; rfl, rfl⟩
end
end Go.Proofs.Ytddjgncdjdjgeaa
namespace Go.Proofs.Ytddjgncdjdjgeaa
open Go.RowKit
theorem root_cells {W : World} {g : Nat} {x y z : Value} (h : Whole W g 61 [x, y, z]) : W.cell? ⟨g, 0, none⟩ = some x ∧ W.cell? ⟨g, 1, none⟩ = some y ∧ W.cell? ⟨g, 2, none⟩ = some z ∧ W.frozen? ⟨g, 0, none⟩ = false ∧ W.frozen? ⟨g, 1, none⟩ = false ∧ W.frozen? ⟨g, 2, none⟩ = false :=
  ⟨h.cell 0, h.cell 1, h.cell 2, h.frozen 0, h.frozen 1, h.frozen 2⟩
def homeI (L P page : Int) : Int := if page < 0 ∨ P ≤ page then -1 else wrap64 (wrap64 (2 + L) + page)
section
variable {w : World}
set_option maxHeartbeats 1000000 in
set_option maxRecDepth 100000 in
theorem rright_any (L P E s : Int) : Calls Try.prog 27 #[rootV L P E, .int .i64 s] w (BoolPost (rightR L P E s) w) := by
  unfold rootV
  by_cases h1 : L < 1
  · have HF := Lib.hid (show rightR L P E s = false from rightR_false.2 (by omega))
    have hd : decide (L < 1) = true := by simpa using h1
    go_enter Try.func27, Try.ntmps27
    go_wp2_with fail
    go_ret
    exact ⟨by rw [HF.out]; rfl, (Chg.refl _ _).alloc _⟩
  have hd1 : decide (L < 1) = false := by simpa using h1
  by_cases h2 : 64 < L
  · have HF := Lib.hid (show rightR L P E s = false from rightR_false.2 (by omega))
    go_enter Try.func27, Try.ntmps27
    go_wp2_with fail
    go_ret
    exact ⟨by rw [HF.out]; rfl, (Chg.refl _ _).alloc _⟩
  have hd2 : decide (64 < L) = false := by simpa using h2
  by_cases h3 : P < 1
  · have HF := Lib.hid (show rightR L P E s = false from rightR_false.2 (by omega))
    go_enter Try.func27, Try.ntmps27
    go_wp2_with fail
    go_ret
    exact ⟨by rw [HF.out]; rfl, (Chg.refl _ _).alloc _⟩
  have hd3 : decide (P < 1) = false := by simpa using h3
  by_cases h4 : 64 < P
  · have HF := Lib.hid (show rightR L P E s = false from rightR_false.2 (by omega))
    go_enter Try.func27, Try.ntmps27
    go_wp2_with fail
    go_ret
    exact ⟨by rw [HF.out]; rfl, (Chg.refl _ _).alloc _⟩
  have hd4 : decide (64 < P) = false := by simpa using h4
  have b1 : 1 ≤ L := by omega
  have b2 : L ≤ 64 := by omega
  have b3 : 1 ≤ P := by omega
  have b4 : P ≤ 64 := by omega
  by_cases h5 : 2 + L + P ≤ s
  · have hd5 : decide (2 + L + P ≤ s) = true := by simpa using h5
    have HF := Lib.hid (show rightR L P E s = decide (1 ≤ E) from by unfold rightR; congr 1; apply propext; omega)
    go_enter Try.func27, Try.ntmps27
    go_wp2_with fail
    go_ret
    exact ⟨by rw [HF.out]; rfl, (Chg.refl _ _).alloc _⟩
  · have hd5 : decide (2 + L + P ≤ s) = false := by simpa using h5
    have HF := Lib.hid (show rightR L P E s = false from rightR_false.2 (by omega))
    go_enter Try.func27, Try.ntmps27
    go_wp2_with fail
    go_ret
    exact ⟨by rw [HF.out]; rfl, (Chg.refl _ _).alloc _⟩
set_option maxHeartbeats 1000000 in
set_option maxRecDepth 100000 in
theorem rrright_any (L P E s : Int) : Calls Try.prog 83 #[rootV L P E, .int .i64 s] w (BoolPost (rightR L P E s) w) := by
  unfold rootV
  by_cases h1 : 1 ≤ L
  rotate_left
  · have HF := Lib.hid (show rightR L P E s = false from rightR_false.2 (by omega))
    have hd : decide (1 ≤ L) = false := by simpa using h1
    go_enter Try.func83, Try.ntmps83
    go_wp2_with fail
    go_ret
    exact ⟨by rw [HF.out]; rfl, (Chg.refl _ _).alloc _⟩
  by_cases h2 : L ≤ 64
  rotate_left
  · have HF := Lib.hid (show rightR L P E s = false from rightR_false.2 (by omega))
    have hd : decide (L ≤ 64) = false := by simpa using h2
    go_enter Try.func83, Try.ntmps83
    go_wp2_with fail
    go_ret
    exact ⟨by rw [HF.out]; rfl, (Chg.refl _ _).alloc _⟩
  by_cases h3 : 1 ≤ P
  rotate_left
  · have HF := Lib.hid (show rightR L P E s = false from rightR_false.2 (by omega))
    have hd : decide (1 ≤ P) = false := by simpa using h3
    go_enter Try.func83, Try.ntmps83
    go_wp2_with fail
    go_ret
    exact ⟨by rw [HF.out]; rfl, (Chg.refl _ _).alloc _⟩
  by_cases h4 : P ≤ 64
  rotate_left
  · have HF := Lib.hid (show rightR L P E s = false from rightR_false.2 (by omega))
    have hd : decide (P ≤ 64) = false := by simpa using h4
    go_enter Try.func83, Try.ntmps83
    go_wp2_with fail
    go_ret
    exact ⟨by rw [HF.out]; rfl, (Chg.refl _ _).alloc _⟩
  by_cases h5 : 2 + L + P ≤ s
  · have hd5 : decide (2 + L + P ≤ s) = true := by simpa using h5
    have HF := Lib.hid (show rightR L P E s = decide (1 ≤ E) from by unfold rightR; congr 1; apply propext; omega)
    go_enter Try.func83, Try.ntmps83
    go_wp2_with fail
    go_ret
    exact ⟨by rw [HF.out]; rfl, (Chg.refl _ _).alloc _⟩
  · have hd5 : decide (2 + L + P ≤ s) = false := by simpa using h5
    have HF := Lib.hid (show rightR L P E s = false from rightR_false.2 (by omega))
    go_enter Try.func83, Try.ntmps83
    go_wp2_with fail
    go_ret
    exact ⟨by rw [HF.out]; rfl, (Chg.refl _ _).alloc _⟩
set_option maxHeartbeats 1000000 in
set_option maxRecDepth 100000 in
theorem home_any (L P E page : Int) : Calls Try.prog 100 #[rootV L P E, .int .i64 page] w fun e w' => e = .returned (.int .i64 (homeI L P page)) ∧ Chg [] w w' := by
  unfold rootV
  by_cases h1 : page < 0
  · have HF := Lib.hid (show homeI L P page = -1 by unfold homeI; rw [if_pos (.inl h1)])
    go_enter Try.func100, Try.ntmps100
    go_wp2_with fail
    go_ret
    exact ⟨ret_int' HF.out.symm, (Chg.refl _ _).alloc _⟩
  have hd1 : decide (page < 0) = false := by simpa using h1
  by_cases h2 : P ≤ page
  · have HF := Lib.hid (show homeI L P page = -1 by unfold homeI; rw [if_pos (.inr h2)])
    go_enter Try.func100, Try.ntmps100
    go_wp2_with fail
    go_ret
    exact ⟨ret_int' HF.out.symm, (Chg.refl _ _).alloc _⟩
  · have hd2 : decide (P ≤ page) = false := by simpa using h2
    have HF := Lib.hid (show homeI L P page = wrap64 (wrap64 (2 + L) + page) by unfold homeI; rw [if_neg (by omega)])
    go_enter Try.func100, Try.ntmps100
    go_wp2_with fail
    go_ret
    exact ⟨ret_int' HF.out.symm, (Chg.refl _ _).alloc _⟩
set_option maxHeartbeats 1000000 in
set_option maxRecDepth 100000 in
theorem rhome_any (L P E page : Int) : Calls Try.prog 111 #[rootV L P E, .int .i64 page] w fun e w' => e = .returned (.int .i64 (homeI L P page)) ∧ Chg [] w w' := by
  unfold rootV
  by_cases h1 : page < 0
  · have HF := Lib.hid (show homeI L P page = -1 by unfold homeI; rw [if_pos (.inl h1)])
    go_enter Try.func111, Try.ntmps111
    go_wp2_with fail
    go_ret
    exact ⟨ret_int' HF.out.symm, (Chg.refl _ _).alloc _⟩
  have hd1 : decide (page < 0) = false := by simpa using h1
  by_cases h2 : P ≤ page
  · have HF := Lib.hid (show homeI L P page = -1 by unfold homeI; rw [if_pos (.inr h2)])
    go_enter Try.func111, Try.ntmps111
    go_wp2_with fail
    go_ret
    exact ⟨ret_int' HF.out.symm, (Chg.refl _ _).alloc _⟩
  · have hd2 : decide (P ≤ page) = false := by simpa using h2
    have HF := Lib.hid (show homeI L P page = wrap64 (wrap64 (2 + L) + page) by unfold homeI; rw [if_neg (by omega)])
    go_enter Try.func111, Try.ntmps111
    go_wp2_with fail
    go_ret
    exact ⟨ret_int' HF.out.symm, (Chg.refl _ _).alloc _⟩
end
end Go.Proofs.Ytddjgncdjdjgeaa
namespace Go.Proofs.Ytddjgncdjdjgeaa
open Go.RowKit
/-- Page i of bytes. -/
def pg (L : List UInt8) (i : Nat) : List UInt8 := (L.drop (i * 64)).take 64
def Chs2 (ls : List ChV) (cs : List (Nat × List UInt8)) : Prop := ls.map (fun a => (a.page, a.B)) = cs.map (fun c => ((c.1 : Int), c.2))
theorem Chs2.len {ls : List ChV} {cs : List (Nat × List UInt8)} (h : Chs2 ls cs) : ls.length = cs.length := by
  have := congrArg List.length h; simpa using this
theorem Chs2.snoc {ls : List ChV} {cs : List (Nat × List UInt8)} (h : Chs2 ls cs) {a : ChV} {p : Nat} (hp : a.page = (p : Int)) : Chs2 (ls ++ [a]) (cs ++ [(p, a.B)]) := by
  unfold Chs2 at *
  rw [List.map_append, List.map_append, h]; simp [hp]
theorem Chs2.at {ls : List ChV} {cs : List (Nat × List UInt8)} (h : Chs2 ls cs) {k : Nat} {a : ChV} {c : Nat × List UInt8} (ha : ls[k]? = some a) (hc : cs[k]? = some c) : a.page = (c.1 : Int) ∧ a.B = c.2 := by
  have := congrArg (fun l : List (Int × List UInt8) => l[k]?) h
  simp only [List.getElem?_map, ha, hc, Option.map_some] at this
  injection this with this
  injection this with h1 h2
  exact ⟨h1, h2⟩
theorem MadeCh.more {w : World} {B0 B1 : Nat} {a : ChV} (h : MadeCh w B0 a) (hB : B1 ≤ B0) : MadeCh w B1 a := by
  obtain ⟨g, hg, hb, hW⟩ := h.b
  exact { h with b := ⟨g, hg, Nat.le_trans hB hb, hW⟩ }
section
variable {w : World} {A : Option Addr} {n c : Nat} {l : List UInt8}
set_option maxHeartbeats 400000 in
set_option maxRecDepth 100000 in
theorem shfresh_any (h : Bs w A n c l) (hn : n ≤ 1000000) :
    Calls Try.prog 72 #[.slice A n c] w fun e w' => e = .returned (.slice (some ⟨w.heap.size, 0, none⟩) n n) ∧ Whole w' w.heap.size 5 (bts l) ∧ Chg [] w w' := by
  have hl : (bts l).length = n := by rw [bts_len, h.len]
  have hs := h.src
  have h1 := bts_one l
  generalize bts l = xs at hl hs h1
  have hmk := make_u8 n hn
  go_enter Try.func72, Try.ntmps72
  go_wp2_with (first
    | (with_reducible refine wpList_copy_splice rfl (.tmp 7) (.tmp 8) _ _ rfl 5 Try.underlying44 size_u8 (some ⟨w.heap.size, 0, none⟩) A n n n c rfl rfl w.heap.size 0 (bts (zeros n)) 5 ?c1 xs ?c2 ?c3 ?c4 h1 w.heap.size w ?c5 (Nat.le_refl _) ?_
       case c1 => exact heap_alloc_new w _
       case c2 => simp [hl]
       case c3 =>
         intro hp
         obtain ⟨ad, e, _, hx⟩ := (hs.keep ((Chg.refl [] w).alloc _)) hp
         exact ⟨rfl, ad, e, hx⟩
       case c4 => simp [hl, bts_len, zeros_len]
       case c5 => exact (Below.refl _ _).alloc (Nat.le_refl _) _
       intro w1 HG hB))
  go_ret
  have HG' := HG.out
  rw [splice_all _ _ (by simp [hl, bts_len, zeros_len])] at HG'
  exact ⟨rfl, HG', Chg.of_below hB⟩
end
end Go.Proofs.Ytddjgncdjdjgeaa
namespace Go.Proofs.Ytddjgncdjdjgeaa
open Go.RowKit
theorem rightS_snoc : ∀ (l : List ChV) (last P : Int) (a : ChV), rightS last P l = true → (∀ b ∈ l, b.page < a.page) → last < a.page → a.page < P → a.bn = 64 → rightS last P (l ++ [a]) = true
  | [], last, P, a, _, _, h1, h2, h3 => by
    simp only [List.nil_append, rightS]
    rw [decide_eq_false (by omega), decide_eq_false (by omega), decide_eq_false (by simpa using h3)]
    rfl
  | b :: l, last, P, a, h, hb, h1, h2, h3 => by
    simp only [rightS, List.cons_append, Bool.and_eq_true] at h ⊢
    exact ⟨h.1, rightS_snoc l b.page P a h.2 (fun c hc => hb c (List.mem_cons_of_mem _ hc)) (hb b (List.mem_cons_self ..)) h2 h3⟩
theorem make_page (W : World) : (Instr.makeSlice 44 (.int .i64 64) (.int .i64 64)).run Try.prog W = .ok (.slice (some ⟨W.heap.size, 0, none⟩) 64 64) (W.alloc (.cells (bts (zeros 64)).toArray 5)) := by
  obtain ⟨i, hi, hz, hs1, hb⟩ := info_parts info_byte
  rw [bts_zeros]
  exact run_make1 44 5 i (.int .u8 0) rfl Try.underlying44 hi hz hs1 64 (by rw [hb]; omega) (by omega) W
/-- What Changes has made so far. -/
def ChSo (w : World) (p : Nat) (At : Option Addr) (nt ct : Nat) (lt : List Int) (wr : World) (v : Value) (k : Nat) : Prop :=
  ∃ (ls : List ChV) (a' : Nat), wr.ownsRow w.heap.size 78 2 v ls.length (chCs ls) ∧ (∀ a ∈ ls, MadeCh wr w.heap.size a) ∧ (∀ a ∈ ls, a.page < k) ∧ ls.length ≤ k ∧ (∀ P : Int, (k : Int) ≤ P → rightS (-1) P ls = true) ∧ Tp wr p At nt ct lt a' ∧ Chg [p] w wr
section
variable {w : World} {p nt ct at_ : Nat} {At : Option Addr} {lt : List Int}
set_option maxHeartbeats 8000000 in
set_option maxRecDepth 100000 in
theorem changes_any (h : Tp w p At nt ct lt at_) (P : Nat) (hP : P ≤ 64) :
    Calls Try.prog 14 #[.pointer (some ⟨p, 0, none⟩), .int .i64 (P : Int)] w fun e w' => ∃ v, e = .returned v ∧ ChSo w p At nt ct lt w' v P := by
  obtain ⟨i0, hi, hz0, hz1, hz2⟩ := info_parts info_change
  have hpw := h.lt
  have H := Lib.hid h
  have hmk := make_page
  clear h
  go_enter Try.func14, Try.ntmps14
  go_wp2_with fail
  go_loopw [5, 6] (fun v i wr => ∃ k : Nat, k ≤ P ∧ i = .int .i64 (k : Int) ∧ ChSo w p At nt ct lt wr v k) (fun _ i _ => P - (intOf i).toNat)
  case atStart => exact ⟨0, Nat.zero_le _, rfl, [], at_, World.ownsRow_nil _ _ _ _, fun a ha => by simp at ha, fun a ha => by simp at ha, Nat.le_refl _, fun _ _ => rfl, H.out, Chg.refl _ _⟩
  case round =>
    obtain ⟨k, hk, rfl, ls, a', hown, hmade, hpg, hlen, hrise, hT, hcr⟩ := hrel
    have hwr := hcr.size
    have HM := Lib.hid hmade
    have HG := Lib.hid hpg
    have HRI := Lib.hid hrise
    have HC := Lib.hid hcr
    clear hmade hpg hrise hcr
    by_cases hlt : k < P
    · have hkI : (k : Int) < (P : Int) := by omega
      go_wp2_with fail
      refine (next_any hT 3 (by omega) (by omega)).mono ?_
      rintro e w1 ⟨r1, a1, hr1, rfl, hT1, hc1⟩
      have hown1 := rown_chg hown hc1 (fun i hm => by simp only [List.mem_cons, List.not_mem_nil, or_false] at hm; omega)
      have HM1 := Lib.hid (show ∀ a ∈ ls, MadeCh w1 w.heap.size a from fun a ha => (HM.out a ha).chg hc1 (fun i hm => by simp only [List.mem_cons, List.not_mem_nil, or_false] at hm; omega))
      have HC1 := Lib.hid (HC.out.trans hc1)
      have hw1 := hc1.size
      clear hown hc1 hT
      by_cases h0 : r1 = 0
      · subst h0
        go_wp2_with fail
        have hG := Whole.new w1 5 (bts (zeros 64))
        have hal : Chg [] w1 (w1.alloc (.cells (bts (zeros 64)).toArray 5)) := (Chg.refl [] w1).alloc _
        obtain ⟨g, hg⟩ : ∃ g, g = w1.heap.size := ⟨_, rfl⟩
        rw [← hg] at hG
        have hT2 := hT1.keep hal
        have HAL := Lib.hid (hal.sub (T' := [p, g]) (by simp))
        have HGE := Lib.hid hg
        rw [← hg]
        have hgw : w.heap.size ≤ g := by rw [hg]; omega
        clear hal hg hT1
        go_loopw [8] (fun i wx => ∃ q : Nat, q ≤ 4 ∧ i = .int .i64 (q : Int) ∧ (∃ B : List UInt8, B.length = 64 ∧ Whole wx g 5 (bts B)) ∧ (∃ a2, Tp wx p At nt ct lt a2) ∧ Chg [p, g] w1 wx) (fun i _ => 4 - (intOf i).toNat)
        case atStart => exact ⟨0, by omega, rfl, ⟨zeros 64, zeros_len _, hG⟩, ⟨_, hT2⟩, HAL.out⟩
        case round =>
          obtain ⟨q, hq, rfl, ⟨B, hBl, hWB⟩, ⟨a2, hTx⟩, hcx⟩ := hrel
          clear hG hT2
          have HBL := Lib.hid hBl
          have HCX := Lib.hid hcx
          clear hBl hcx
          by_cases hltq : q < 4
          · have hqI : (q : Int) < 4 := by omega
            go_wp2_with fail
            refine (next_any hTx 64 (by omega) (by omega)).mono ?_
            rintro e w3 ⟨r3, a3, hr3, rfl, hT3, hc3⟩
            have hW3 := hWB.chg hc3 (by simp; omega)
            go_wp2_with fail
            refine (next_any hT3 256 (by omega) (by omega)).mono ?_
            rintro e w4 ⟨r4, a4, hr4, rfl, hT4, hc4⟩
            have hW4 := hW3.chg hc4 (by simp; omega)
            have c5 := (hW4.cell r3).trans (bts_get B r3 (by rw [HBL.out]; exact hr3))
            have f5 := hW4.frozen r3
            have hb8 : B8 (UInt8.ofNat r4) = .int .u8 (r4 : Int) := by
              unfold B8; rw [UInt8.toNat_ofNat', Nat.mod_eq_of_lt (by simpa using hr4)]
            have hW5 := hW4.set_ r3 (.int .u8 (r4 : Int))
            rw [← hb8, bts_set, hb8] at hW5
            have hc45 : Chg [p, g] w1 (w4.setCell ⟨g, r3, none⟩ (.int .u8 (r4 : Int))) := ((HCX.out.trans (hc3.sub (by simp))).trans (hc4.sub (by simp))).setCell (by simp) _
            have hT5 : Tp (w4.setCell ⟨g, r3, none⟩ (.int .u8 (r4 : Int))) p At nt ct lt a4 := hT4.other (by show g ≠ p; omega) (fun ad e h0 => by have := hT4.spot h0 ad e; show ad.block ≠ g; omega) _
            have HW5 := Lib.hid hW5
            have HC5 := Lib.hid hc45
            have HT5 := Lib.hid hT5
            have HLB := Lib.hid (show (B.set r3 (UInt8.ofNat r4)).length = 64 by rw [List.length_set]; exact HBL.out)
            clear hW5 hc45 hT5 hc3 hc4 hb8 hW3 hT3 hTx hWB
            go_wp2_with fail
            go_roundw
            case rel => exact ⟨q + 1, by omega, by go_num, ⟨_, HLB.out, HW5.out⟩, ⟨_, HT5.out⟩, HC5.out⟩
            case measure => simp [intOf]; omega
          · have hqI : (4 : Int) ≤ (q : Int) := by omega
            have hex : ∀ i ∈ [p, g], i < w.heap.size ∨ w1.heap.size ≤ i := fun i hm => by
              have := HGE.out
              simp only [List.mem_cons, List.not_mem_nil, or_false] at hm; omega
            have hown2 := rown_chg hown1 HCX.out hex
            have HM2 := Lib.hid (show ∀ a ∈ ls, MadeCh wr w.heap.size a from fun a ha => (HM1.out a ha).chg HCX.out hex)
            have HC2 : Chg [p] w wr := HC1.out.then_ HCX.out (fun i hm hlt => by
              simp only [List.mem_cons, List.not_mem_nil, or_false] at hm ⊢; omega)
            have hnew : MadeCh wr w.heap.size ⟨(k : Int), some ⟨g, 0, none⟩, 64, 64, B⟩ := ⟨⟨g, rfl, hgw, hWB⟩, HBL.out, rfl, rfl, by simp only; omega⟩
            have HNEW := Lib.hid hnew
            have HC3 := Lib.hid HC2
            have HTX := Lib.hid hTx
            obtain ⟨X, hX⟩ : ∃ X, X = chCs ls := ⟨_, rfl⟩
            obtain ⟨N, hN⟩ : ∃ N, N = ls.length := ⟨_, rfl⟩
            rw [← hX, ← hN] at hown2
            rw [← hN] at hlen
            have HX := Lib.hid hX
            have HN := Lib.hid hN
            have hw2 := HC2.size
            clear hX hN HC2 hnew hown1 hWB hTx
            go_wp2_with (first
              | (at_builtin
                 refine wpList_append_own _ rfl (.tmp 29) (.tmp 33) _ rfl w.heap.size 78 i0 _ 2 32 Try.underlying39 hi hz0 hz1 hz2 rfl (by decide) _ N X rfl (rown_chg hown2 ((Chg.refl [] wr).alloc _) (by simp)) ⟨wr.heap.size, 0, none⟩ 1 1 [.int .i64 (k : Int), .slice (some ⟨g, 0, none⟩) 64 64] rfl rfl ?c1 ?c2 ?c3 ?c4 ?c5 ?_
                 case c1 => exact cells_page _ _ _
                 case c2 => simp [Value.oneCell']
                 case c3 => simp only [maxLen]; omega
                 case c4 => omega
                 case c5 => simp; omega
                 intro v' w6 hown' hg' _))
            have HAL6 := Lib.hid (rown_chg hown2 ((Chg.refl [] wr).alloc (.cells #[.int .i64 (k : Int), .slice (some ⟨g, 0, none⟩) 64 64] 78)) (by simp))
            go_roundw
            case rel =>
              refine ⟨k + 1, by omega, by go_num, ls ++ [⟨(k : Int), some ⟨g, 0, none⟩, 64, 64, B⟩], a2, ?_, ?_, ?_, ?_, ?_, ?_, ?_⟩
              · rw [chCs_app, chCs_one, ← HX.out, List.length_append, ← HN.out]
                exact hown'
              · intro a ha
                rcases List.mem_append.1 ha with h | h
                · exact ((HM2.out a h).chg ((Chg.refl [] wr).alloc _) (by simp)).grown HAL6.out hg'
                · simp only [List.mem_cons, List.not_mem_nil, or_false] at h
                  subst h
                  exact (HNEW.out.chg ((Chg.refl [] wr).alloc _) (by simp)).grown HAL6.out hg'
              · intro a ha
                rcases List.mem_append.1 ha with h | h
                · have := HG.out a h; omega
                · simp only [List.mem_cons, List.not_mem_nil, or_false] at h
                  subst h
                  show (k : Int) < ((k + 1 : Nat) : Int)
                  omega
              · rw [List.length_append, ← HN.out]; simp only [List.length_cons, List.length_nil]; omega
              · intro P2 hP2
                exact rightS_snoc ls (-1) P2 _ (HRI.out P2 (by omega)) (fun b hb => HG.out b hb) (by show (-1 : Int) < (k : Int); omega) (by show (k : Int) < P2; omega) rfl
              · exact (HTX.out.keep ((Chg.refl [] wr).alloc _)).grown HAL6.out hg' (by decide) (by omega)
              · exact chg_grown2 (HC3.out.alloc _) hg' fun g hgg => (HAL6.out.lt g hgg).1
            case measure => simp [intOf]; omega
      · have h0I : ((r1 : Int) == 0) = false := by simp; omega
        have HO1 := Lib.hid hown1
        have HT1 := Lib.hid hT1
        clear hown1 hT1
        go_wp2_with fail
        go_roundw
        case rel => exact ⟨k + 1, by omega, by go_num, ls, a1, HO1.out, HM1.out, fun a ha => by have := HG.out a ha; omega, by omega, fun P2 hP2 => HRI.out P2 (by omega), HT1.out, HC1.out⟩
        case measure => simp [intOf]; omega
    · obtain rfl : P = k := by omega
      go_wp2_with fail
      go_ret
      exact ⟨_, rfl, ls, a', hown, HM.out, HG.out, hlen, HRI.out, hT, HC.out⟩
end
end Go.Proofs.Ytddjgncdjdjgeaa
namespace Go.Proofs.Ytddjgncdjdjgeaa
open Go.RowKit
/-- The same pages, with the same bytes. -/
def keyC (a : ChV) : Int × List UInt8 := (a.page, a.B)
end Go.Proofs.Ytddjgncdjdjgeaa
