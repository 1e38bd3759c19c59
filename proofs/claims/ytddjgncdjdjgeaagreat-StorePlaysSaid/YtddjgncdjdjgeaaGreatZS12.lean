/-
  S: BEq, RootFn, ShadeC, DeltaSame, Home.
-/
import Derived.Test.YtddjgncdjdjgeaaGreatZS1
import Derived.Test.YtddjgncdjdjgeaaGreatZS2
import Derived.Test.YtddjgncdjdjgeaaGreatZS3
import Derived.Test.YtddjgncdjdjgeaaGreatZS4
import Derived.Test.YtddjgncdjdjgeaaGreatZS5
import Derived.Test.YtddjgncdjdjgeaaGreatZS7
import Derived.Test.YtddjgncdjdjgeaaGreatZS10
import Derived.Test.YtddjgncdjdjgeaaGreatZS11
import Derived.Test.YtddjgncdjdjgeaaGreatChecked
import Derived.Deep.QuietTactic
import Derived.BigQuiet
import Derived.IntWalk
import Derived.Laws.BitsLemmas
import Derived.BigRegion
import Derived.Deep.RegionWith
namespace Go.Proofs.YtddjgncdjdjgeaaGreat
open Go.RowKit
theorem str_ne {l m : List UInt8} : ((strOf l).toList == (strOf m).toList) = decide (l = m) := by
  rw [ByteArray.toList_eq, ByteArray.toList_eq]
  show (l == m) = decide (l = m)
  by_cases h : l = m
  · subst h; simp
  · rw [decide_eq_false h, beq_eq_false_iff_ne]; exact h
section
variable {w : World} {A A2 : Option Addr} {n c n2 c2 : Nat}
set_option maxHeartbeats 1000000 in
set_option maxRecDepth 100000 in
theorem bequal_any {l m : List UInt8} (h : Bs w A n c l) (h2 : Bs w A2 n2 c2 m) :
    Calls Tryz.prog 120 #[.slice A n c, .slice A2 n2 c2] w fun e w' => e = .returned (.bool (decide (l = m))) ∧ w = w' := by
  have v1 := h.str (P := Tryz.prog) 30 5 9 Tryz.underlying30 Tryz.underlying5 Tryz.underlying9
  have v2 := h2.str (P := Tryz.prog) 30 5 9 Tryz.underlying30 Tryz.underlying5 Tryz.underlying9
  have HE := Lib.hid (str_ne (l := l) (m := m))
  go_enter Tryz.func120, Tryz.ntmps120
  go_wp2_with fail
  go_ret
  exact ⟨by rw [← HE.out]; rfl, rfl⟩
end
end Go.Proofs.YtddjgncdjdjgeaaGreat
namespace Go.Proofs.YtddjgncdjdjgeaaGreat
open Go.RowKit
theorem root_cells {W : World} {g : Nat} {x y z : Value} (h : Whole W g 58 [x, y, z]) : W.cell? ⟨g, 0, none⟩ = some x ∧ W.cell? ⟨g, 1, none⟩ = some y ∧ W.cell? ⟨g, 2, none⟩ = some z ∧ W.frozen? ⟨g, 0, none⟩ = false ∧ W.frozen? ⟨g, 1, none⟩ = false ∧ W.frozen? ⟨g, 2, none⟩ = false :=
  ⟨h.cell 0, h.cell 1, h.cell 2, h.frozen 0, h.frozen 1, h.frozen 2⟩
def homeI (L P page : Int) : Int := if page < 0 ∨ P ≤ page then -1 else wrap64 (wrap64 (2 + L) + page)
section
variable {w : World}
set_option maxHeartbeats 1000000 in
set_option maxRecDepth 100000 in
theorem rright_any (L P E s : Int) : Calls Tryz.prog 48 #[rootV L P E, .int .i64 s] w (BoolPost (rightR L P E s) w) := by
  unfold rootV
  by_cases h1 : L < 1
  · have HF := Lib.hid (show rightR L P E s = false from rightR_false.2 (by omega))
    have hd : decide (L < 1) = true := by simpa using h1
    go_enter Tryz.func48, Tryz.ntmps48
    go_wp2_with fail
    go_ret
    exact ⟨by rw [HF.out]; rfl, (Chg.refl _ _).alloc _⟩
  have hd1 : decide (L < 1) = false := by simpa using h1
  by_cases h2 : 64 < L
  · have HF := Lib.hid (show rightR L P E s = false from rightR_false.2 (by omega))
    go_enter Tryz.func48, Tryz.ntmps48
    go_wp2_with fail
    go_ret
    exact ⟨by rw [HF.out]; rfl, (Chg.refl _ _).alloc _⟩
  have hd2 : decide (64 < L) = false := by simpa using h2
  by_cases h3 : P < 1
  · have HF := Lib.hid (show rightR L P E s = false from rightR_false.2 (by omega))
    go_enter Tryz.func48, Tryz.ntmps48
    go_wp2_with fail
    go_ret
    exact ⟨by rw [HF.out]; rfl, (Chg.refl _ _).alloc _⟩
  have hd3 : decide (P < 1) = false := by simpa using h3
  by_cases h4 : 64 < P
  · have HF := Lib.hid (show rightR L P E s = false from rightR_false.2 (by omega))
    go_enter Tryz.func48, Tryz.ntmps48
    go_wp2_with fail
    go_ret
    exact ⟨by rw [HF.out]; rfl, (Chg.refl _ _).alloc _⟩
  have hd4 : decide (64 < P) = false := by simpa using h4
  have b1 : 1 ≤ L := by omega
  have b2 : L ≤ 64 := by omega
  have b3 : 1 ≤ P := by omega
  have b4 : P ≤ 64 := by omega
  by_cases h5 : 2 + L + P ≤ s
  · have hd5 : decide (2 + L + P ≤ s) = true := by simpa using h5
    have HF := Lib.hid (show rightR L P E s = decide (1 ≤ E) from by unfold rightR; congr 1; apply propext; omega)
    go_enter Tryz.func48, Tryz.ntmps48
    go_wp2_with fail
    go_ret
    exact ⟨by rw [HF.out]; rfl, (Chg.refl _ _).alloc _⟩
  · have hd5 : decide (2 + L + P ≤ s) = false := by simpa using h5
    have HF := Lib.hid (show rightR L P E s = false from rightR_false.2 (by omega))
    go_enter Tryz.func48, Tryz.ntmps48
    go_wp2_with fail
    go_ret
    exact ⟨by rw [HF.out]; rfl, (Chg.refl _ _).alloc _⟩
set_option maxHeartbeats 1000000 in
set_option maxRecDepth 100000 in
theorem rrright_any (L P E s : Int) : Calls Tryz.prog 52 #[rootV L P E, .int .i64 s] w (BoolPost (rightR L P E s) w) := by
  unfold rootV
  by_cases h1 : 1 ≤ L
  rotate_left
  · have HF := Lib.hid (show rightR L P E s = false from rightR_false.2 (by omega))
    have hd : decide (1 ≤ L) = false := by simpa using h1
    go_enter Tryz.func52, Tryz.ntmps52
    go_wp2_with fail
    go_ret
    exact ⟨by rw [HF.out]; rfl, (Chg.refl _ _).alloc _⟩
  by_cases h2 : L ≤ 64
  rotate_left
  · have HF := Lib.hid (show rightR L P E s = false from rightR_false.2 (by omega))
    have hd : decide (L ≤ 64) = false := by simpa using h2
    go_enter Tryz.func52, Tryz.ntmps52
    go_wp2_with fail
    go_ret
    exact ⟨by rw [HF.out]; rfl, (Chg.refl _ _).alloc _⟩
  by_cases h3 : 1 ≤ P
  rotate_left
  · have HF := Lib.hid (show rightR L P E s = false from rightR_false.2 (by omega))
    have hd : decide (1 ≤ P) = false := by simpa using h3
    go_enter Tryz.func52, Tryz.ntmps52
    go_wp2_with fail
    go_ret
    exact ⟨by rw [HF.out]; rfl, (Chg.refl _ _).alloc _⟩
  by_cases h4 : P ≤ 64
  rotate_left
  · have HF := Lib.hid (show rightR L P E s = false from rightR_false.2 (by omega))
    have hd : decide (P ≤ 64) = false := by simpa using h4
    go_enter Tryz.func52, Tryz.ntmps52
    go_wp2_with fail
    go_ret
    exact ⟨by rw [HF.out]; rfl, (Chg.refl _ _).alloc _⟩
  by_cases h5 : 2 + L + P ≤ s
  · have hd5 : decide (2 + L + P ≤ s) = true := by simpa using h5
    have HF := Lib.hid (show rightR L P E s = decide (1 ≤ E) from by unfold rightR; congr 1; apply propext; omega)
    go_enter Tryz.func52, Tryz.ntmps52
    go_wp2_with fail
    go_ret
    exact ⟨by rw [HF.out]; rfl, (Chg.refl _ _).alloc _⟩
  · have hd5 : decide (2 + L + P ≤ s) = false := by simpa using h5
    have HF := Lib.hid (show rightR L P E s = false from rightR_false.2 (by omega))
    go_enter Tryz.func52, Tryz.ntmps52
    go_wp2_with fail
    go_ret
    exact ⟨by rw [HF.out]; rfl, (Chg.refl _ _).alloc _⟩
set_option maxHeartbeats 1000000 in
set_option maxRecDepth 100000 in
theorem home_any (L P E page : Int) : Calls Tryz.prog 116 #[rootV L P E, .int .i64 page] w fun e w' => e = .returned (.int .i64 (homeI L P page)) ∧ Chg [] w w' := by
  unfold rootV
  by_cases h1 : page < 0
  · have HF := Lib.hid (show homeI L P page = -1 by unfold homeI; rw [if_pos (.inl h1)])
    go_enter Tryz.func116, Tryz.ntmps116
    go_wp2_with fail
    go_ret
    exact ⟨ret_int' HF.out.symm, (Chg.refl _ _).alloc _⟩
  have hd1 : decide (page < 0) = false := by simpa using h1
  by_cases h2 : P ≤ page
  · have HF := Lib.hid (show homeI L P page = -1 by unfold homeI; rw [if_pos (.inr h2)])
    go_enter Tryz.func116, Tryz.ntmps116
    go_wp2_with fail
    go_ret
    exact ⟨ret_int' HF.out.symm, (Chg.refl _ _).alloc _⟩
  · have hd2 : decide (P ≤ page) = false := by simpa using h2
    have HF := Lib.hid (show homeI L P page = wrap64 (wrap64 (2 + L) + page) by unfold homeI; rw [if_neg (by omega)])
    go_enter Tryz.func116, Tryz.ntmps116
    go_wp2_with fail
    go_ret
    exact ⟨ret_int' HF.out.symm, (Chg.refl _ _).alloc _⟩
set_option maxHeartbeats 1000000 in
set_option maxRecDepth 100000 in
theorem rhome_any (L P E page : Int) : Calls Tryz.prog 90 #[rootV L P E, .int .i64 page] w fun e w' => e = .returned (.int .i64 (homeI L P page)) ∧ Chg [] w w' := by
  unfold rootV
  by_cases h1 : page < 0
  · have HF := Lib.hid (show homeI L P page = -1 by unfold homeI; rw [if_pos (.inl h1)])
    go_enter Tryz.func90, Tryz.ntmps90
    go_wp2_with fail
    go_ret
    exact ⟨ret_int' HF.out.symm, (Chg.refl _ _).alloc _⟩
  have hd1 : decide (page < 0) = false := by simpa using h1
  by_cases h2 : P ≤ page
  · have HF := Lib.hid (show homeI L P page = -1 by unfold homeI; rw [if_pos (.inr h2)])
    go_enter Tryz.func90, Tryz.ntmps90
    go_wp2_with fail
    go_ret
    exact ⟨ret_int' HF.out.symm, (Chg.refl _ _).alloc _⟩
  · have hd2 : decide (P ≤ page) = false := by simpa using h2
    have HF := Lib.hid (show homeI L P page = wrap64 (wrap64 (2 + L) + page) by unfold homeI; rw [if_neg (by omega)])
    go_enter Tryz.func90, Tryz.ntmps90
    go_wp2_with fail
    go_ret
    exact ⟨ret_int' HF.out.symm, (Chg.refl _ _).alloc _⟩
end
end Go.Proofs.YtddjgncdjdjgeaaGreat
namespace Go.Proofs.YtddjgncdjdjgeaaGreat
open Go.RowKit
/-- Page i of bytes. -/
def pg (L : List UInt8) (i : Nat) : List UInt8 := (L.drop (i * 64)).take 64
def Chs2 (ls : List ChV) (cs : List (Nat × List UInt8)) : Prop := ls.map (fun a => (a.page, a.B)) = cs.map (fun c => ((c.1 : Int), c.2))
theorem Chs2.len {ls : List ChV} {cs : List (Nat × List UInt8)} (h : Chs2 ls cs) : ls.length = cs.length := by
  have := congrArg List.length h; simpa using this
theorem Chs2.snoc {ls : List ChV} {cs : List (Nat × List UInt8)} (h : Chs2 ls cs) {a : ChV} {p : Nat} (hp : a.page = (p : Int)) : Chs2 (ls ++ [a]) (cs ++ [(p, a.B)]) := by
  unfold Chs2 at *
  rw [List.map_append, List.map_append, h]; simp [hp]
theorem Chs2.at {ls : List ChV} {cs : List (Nat × List UInt8)} (h : Chs2 ls cs) {k : Nat} {a : ChV} {c : Nat × List UInt8} (ha : ls[k]? = some a) (hc : cs[k]? = some c) : a.page = (c.1 : Int) ∧ a.B = c.2 := by
  have := congrArg (fun l : List (Int × List UInt8) => l[k]?) h
  simp only [List.getElem?_map, ha, hc, Option.map_some] at this
  injection this with this
  injection this with h1 h2
  exact ⟨h1, h2⟩
theorem MadeCh.more {w : World} {B0 B1 : Nat} {a : ChV} (h : MadeCh w B0 a) (hB : B1 ≤ B0) : MadeCh w B1 a := by
  obtain ⟨g, hg, hb, hW⟩ := h.b
  exact { h with b := ⟨g, hg, Nat.le_trans hB hb, hW⟩ }
section
variable {w : World} {A : Option Addr} {n c : Nat} {l : List UInt8}
set_option maxHeartbeats 400000 in
set_option maxRecDepth 100000 in
theorem shfresh_any (h : Bs w A n c l) (hn : n ≤ 1000000) :
    Calls Tryz.prog 123 #[.slice A n c] w fun e w' => e = .returned (.slice (some ⟨w.heap.size, 0, none⟩) n n) ∧ Whole w' w.heap.size 5 (bts l) ∧ Chg [] w w' := by
  have hl : (bts l).length = n := by rw [bts_len, h.len]
  have hs := h.src
  have h1 := bts_one l
  generalize bts l = xs at hl hs h1
  have hmk := make_u8 n hn
  go_enter Tryz.func123, Tryz.ntmps123
  go_wp2_with (first
    | (with_reducible refine wpList_copy_splice rfl (.tmp 7) (.tmp 8) _ _ rfl 5 Tryz.underlying30 size_u8 (some ⟨w.heap.size, 0, none⟩) A n n n c rfl rfl w.heap.size 0 (bts (zeros n)) 5 ?c1 xs ?c2 ?c3 ?c4 h1 w.heap.size w ?c5 (Nat.le_refl _) ?_
       case c1 => exact heap_alloc_new w _
       case c2 => simp [hl]
       case c3 =>
         intro hp
         obtain ⟨ad, e, _, hx⟩ := (hs.keep ((Chg.refl [] w).alloc _)) hp
         exact ⟨rfl, ad, e, hx⟩
       case c4 => simp [hl, bts_len, zeros_len]
       case c5 => exact (Below.refl _ _).alloc (Nat.le_refl _) _
       intro w1 HG hB))
  go_ret
  have HG' := HG.out
  rw [splice_all _ _ (by simp [hl, bts_len, zeros_len])] at HG'
  exact ⟨rfl, HG', Chg.of_below hB⟩
end
end Go.Proofs.YtddjgncdjdjgeaaGreat
namespace Go.Proofs.YtddjgncdjdjgeaaGreat
open Go.RowKit
/-- The same pages, with the same bytes. -/
def keyC (a : ChV) : Int × List UInt8 := (a.page, a.B)
end Go.Proofs.YtddjgncdjdjgeaaGreat
namespace Go.Proofs.YtddjgncdjdjgeaaGreat
open Go.RowKit
/-- Is i a page of a root that parts n sectors? -/
def hasR (L P E i : Int) (n : Nat) : Bool := rightR L P E n && decide (0 ≤ homeI L P i)
theorem homeI_in {L P i : Int} (h1 : 1 ≤ L) (h2 : L ≤ 64) (h3 : P ≤ 64) (h4 : 0 ≤ i) (h5 : i < P) : homeI L P i = 2 + L + i := by
  unfold homeI
  rw [if_neg (by omega)]; unfold wrap64; omega
theorem homeI_out {L P i : Int} (h : i < 0 ∨ P ≤ i) : homeI L P i = -1 := by unfold homeI; rw [if_pos h]
theorem hasR_yes {L P E i : Int} {n : Nat} (h : hasR L P E i n = true) : rightR L P E n = true ∧ ∃ k : Nat, homeI L P i = (k : Int) ∧ k < n ∧ (k : Int) = 2 + L + i ∧ 0 ≤ i ∧ i < P := by
  unfold hasR at h
  rw [Bool.and_eq_true, decide_eq_true_iff] at h
  obtain ⟨h1, h2⟩ := h
  refine ⟨h1, ?_⟩
  obtain ⟨a, b, c, d, e, f⟩ := rightR_true.1 h1
  by_cases hi : i < 0 ∨ P ≤ i
  · rw [homeI_out hi] at h2; omega
  · have := homeI_in (L := L) (P := P) (i := i) a b d (by omega) (by omega)
    exact ⟨(2 + L + i).toNat, by rw [this]; omega, by omega, by omega, by omega, by omega⟩
theorem hasR_in {L P E i : Int} {n : Nat} (h : rightR L P E n = true) (h4 : 0 ≤ i) (h5 : i < P) : hasR L P E i n = true := by
  obtain ⟨a, b, c, d, e, f⟩ := rightR_true.1 h
  unfold hasR
  rw [h, homeI_in a b d h4 h5]
  simp; omega
theorem hasR_wrong {L P E i : Int} {n : Nat} (h : rightR L P E n = false) : hasR L P E i n = false := by
  unfold hasR
  rw [h]; rfl
section
variable {w : World} {p bL bS bW : Nat} {s : St}
set_option maxHeartbeats 400000 in
set_option maxRecDepth 100000 in
theorem hhas_any (h : DskS w p bL bS bW s) (L P E i : Int) :
    Calls Tryz.prog 117 #[.pointer (some ⟨p, 0, none⟩), rootV L P E, .int .i64 i] w (BoolPost (hasR L P E i s.V.length) w) := by
  have hr0 : rootV L P E = .agg #[.int .i64 L, .int .i64 P, .int .u32 E] := rfl
  rw [hr0]
  go_enter Tryz.func117, Tryz.ntmps117
  go_wp2_with fail
  have hR := Whole.new w 58 [.int .i64 L, .int .i64 P, .int .u32 E]
  have hc1 : Chg [] w (w.alloc (.cells #[.int .i64 L, .int .i64 P, .int .u32 E] 58)) := (Chg.refl [] w).alloc _
  obtain ⟨g, hg⟩ : ∃ g, g = w.heap.size := ⟨_, rfl⟩
  rw [← hg] at hR ⊢
  generalize w.alloc (.cells #[.int .i64 L, .int .i64 P, .int .u32 E] 58) = w1 at hc1 hR ⊢
  clear hg
  have hld := fun (W : World) (hW : Chg [] w1.drew W) => root_cells (hR.drew.keep hW)
  have kd : ∀ W, Chg [] w1.drew W → DskS W p bL bS bW s := fun W hW => (Dsk.keep h hc1.drew).keep hW
  cases hrr : rightR L P E s.V.length with
  | false =>
    have HF := Lib.hid (hasR_wrong (i := i) hrr)
    refine wp_flow (by kernel_rfl) plainT plainT_ok (by kernel_rfl) ?_
    refine flow_move_out plainT_ok rfl rfl rfl ?_
    refine flow2 (r := .bool true) plainT_ok rfl (.inn rfl) (.const _) rfl (fun ev W he e1 e2 => by go_simp) ?_
    refine flow_move plainT_ok rfl (keeps_isV _) (.inr (keeps_isV _)) rfl ?_
    refine flow1h (r := rootV L P E) plainT_ok rfl (.out rfl rfl) rfl (fun ev W he hW e1 => by obtain ⟨c0, c1, c2, _, _, _⟩ := hld W hW; go_simp) ?_
    refine flow_move_out plainT_ok rfl rfl rfl ?_
    refine flow_callv (.int .i64 (s.V.length : Int)) (by kernel_rfl) rfl (.cons (.inn rfl) .nil) (fun W hW => (len_any (kd W hW)).mono ?_) ?_
    · rintro e w' ⟨rfl, rfl⟩; exact ⟨rfl, Chg.refl _ _⟩
    refine flow_callv (.bool false) (by kernel_rfl) rfl (.cons (.inn rfl) (.cons (.inn rfl) .nil)) (fun W hW => (rright_any _ _ _ _).mono ?_) ?_
    · rintro e w' ⟨rfl, hc⟩; exact ⟨by rw [hrr], hc⟩
    refine flow_and plainT_ok rfl rfl rfl ?_
    refine flow_move plainT_ok rfl (keeps_isV _) (.inr (keeps_isV _)) rfl ?_
    refine flow_skip rfl ?_
    refine flow_skip rfl ?_
    refine flow_skip rfl ?_
    refine flow_skip rfl ?_
    refine flow_and_false plainT_ok rfl rfl rfl ?_
    refine flow_assign plainT_ok rfl (keeps_isV _) (.inr (keeps_isV _)) rfl ?_
    intro vs W hW hF
    have e40 : vs 6 = .bool false := hF 6 _ rfl rfl
    simp only [putAll, Act.put, List.setIfInBounds_toArray, List.set_cons_zero, List.set_cons_succ, e40]
    have HCW := Lib.hid (hc1.drew.new hW)
    clear hW hF hld hR hc1 kd
    go_wp2_with fail
    go_ret
    exact ⟨by rw [HF.out]; rfl, HCW.out⟩
  | true =>
    have HF := Lib.hid (show decide (0 ≤ homeI L P i) = hasR L P E i s.V.length by unfold hasR; rw [hrr]; rfl)
    refine wp_flow (by kernel_rfl) plainT plainT_ok (by kernel_rfl) ?_
    refine flow_move_out plainT_ok rfl rfl rfl ?_
    refine flow2 (r := .bool true) plainT_ok rfl (.inn rfl) (.const _) rfl (fun ev W he e1 e2 => by go_simp) ?_
    refine flow_move plainT_ok rfl (keeps_isV _) (.inr (keeps_isV _)) rfl ?_
    refine flow1h (r := rootV L P E) plainT_ok rfl (.out rfl rfl) rfl (fun ev W he hW e1 => by obtain ⟨c0, c1, c2, _, _, _⟩ := hld W hW; go_simp) ?_
    refine flow_move_out plainT_ok rfl rfl rfl ?_
    refine flow_callv (.int .i64 (s.V.length : Int)) (by kernel_rfl) rfl (.cons (.inn rfl) .nil) (fun W hW => (len_any (kd W hW)).mono ?_) ?_
    · rintro e w' ⟨rfl, rfl⟩; exact ⟨rfl, Chg.refl _ _⟩
    refine flow_callv (.bool true) (by kernel_rfl) rfl (.cons (.inn rfl) (.cons (.inn rfl) .nil)) (fun W hW => (rright_any _ _ _ _).mono ?_) ?_
    · rintro e w' ⟨rfl, hc⟩; exact ⟨by rw [hrr], hc⟩
    refine flow_and plainT_ok rfl rfl rfl ?_
    refine flow_move plainT_ok rfl (keeps_isV _) (.inr (keeps_isV _)) rfl ?_
    refine flow1h (r := rootV L P E) plainT_ok rfl (.out rfl rfl) rfl (fun ev W he hW e1 => by obtain ⟨c0, c1, c2, _, _, _⟩ := hld W hW; go_simp) ?_
    refine flow_move_out plainT_ok rfl rfl rfl ?_
    refine flow_callv (.int .i64 (homeI L P i)) (by kernel_rfl) rfl (.cons (.inn rfl) (.cons (.inn rfl) .nil)) (fun W hW => (home_any _ _ _ _).mono ?_) ?_
    · rintro e w' ⟨rfl, hc⟩; exact ⟨rfl, hc⟩
    refine flow2 (r := .bool (decide (0 ≤ homeI L P i))) plainT_ok rfl (.inn rfl) (.const _) rfl (fun ev W he e1 e2 => by go_simp) ?_
    refine flow_and plainT_ok rfl rfl rfl ?_
    refine flow_assign plainT_ok rfl (keeps_isV _) (.inr (keeps_isV _)) rfl ?_
    intro vs W hW hF
    have e40 : vs 6 = .bool (decide (0 ≤ homeI L P i)) := hF 6 _ rfl rfl
    simp only [putAll, Act.put, List.setIfInBounds_toArray, List.set_cons_zero, List.set_cons_succ, e40]
    have HCW := Lib.hid (hc1.drew.new hW)
    clear hW hF hld hR hc1 kd
    go_wp2_with fail
    go_ret
    exact ⟨by rw [HF.out]; rfl, HCW.out⟩
/-- What Page answers. -/
def PagePost (w : World) (s : St) (L P E i : Int) (e : Ending) (w' : World) : Prop :=
  (hasR L P E i s.V.length = true ∧ ∃ v, e = .returned (.tuple #[v, .bool true]) ∧ w'.ownsRow w.heap.size 5 1 v 64 (bts (sectL s.S s.V.length (homeI L P i).toNat)) ∧ Chg [] w w') ∨
  (hasR L P E i s.V.length = false ∧ e = .returned (.tuple #[.slice none 0 0, .bool false]) ∧ Chg [] w w')
theorem sectL_len {S : List UInt8} {n k : Nat} (h : S.length = 64 * n) (hk : k < n) : (sectL S n k).length = 64 := by
  unfold sectL
  rw [if_pos hk, List.length_take, List.length_drop]; omega
set_option maxHeartbeats 400000 in
set_option maxRecDepth 100000 in
theorem hpage_any (h : DskS w p bL bS bW s) (L P E i : Int) :
    Calls Tryz.prog 95 #[.pointer (some ⟨p, 0, none⟩), rootV L P E, .int .i64 i] w (PagePost w s L P E i) := by
  have hr0 : rootV L P E = .agg #[.int .i64 L, .int .i64 P, .int .u32 E] := rfl
  have H := Lib.hid h
  have hlS := h.lenS
  clear h
  rw [hr0]
  go_enter Tryz.func95, Tryz.ntmps95
  go_wp2_with fail
  have hR := Whole.new w 58 [.int .i64 L, .int .i64 P, .int .u32 E]
  have hc1 : Chg [] w (w.alloc (.cells #[.int .i64 L, .int .i64 P, .int .u32 E] 58)) := (Chg.refl [] w).alloc _
  obtain ⟨g, hg⟩ : ∃ g, g = w.heap.size := ⟨_, rfl⟩
  rw [← hg] at hR ⊢
  have hgw : w.heap.size ≤ g := by omega
  generalize w.alloc (.cells #[.int .i64 L, .int .i64 P, .int .u32 E] 58) = w1 at hc1 hR ⊢
  clear hg
  obtain ⟨c0, c1, c2, _, _, _⟩ := root_cells hR
  go_wp2_with fail
  refine (hhas_any (Dsk.keep H.out hc1) L P E i).mono ?_
  rintro e w2 ⟨rfl, hc2⟩
  have HC2 := Lib.hid (hc1.new hc2)
  have HR2 := Lib.hid (hR.keep hc2)
  clear hc1 hc2 hR c0 c1 c2
  cases hh : hasR L P E i s.V.length with
  | false =>
    go_wp2_with fail
    go_ret2
    exact .inr ⟨hh, rfl, HC2.out⟩
  | true =>
    obtain ⟨-, k, hk, hkn, -⟩ := hasR_yes hh
    obtain ⟨c0, c1, c2, _, _, _⟩ := root_cells HR2.out
    go_wp2_with fail
    refine (home_any L P E i).mono ?_
    rintro e w3 ⟨rfl, hc3⟩
    rw [hk]
    have HC3 := Lib.hid (HC2.out.new hc3)
    have HH := Lib.hid hk
    clear hc3 hk c0 c1 c2
    go_wp2_with fail
    refine (read_yes (Dsk.keep H.out HC3.out) k hkn).mono ?_
    rintro e w4 ⟨rfl, hW4, hc4⟩
    have hs : sectL s.S s.V.length k = (s.S.drop (k * 64)).take 64 := by unfold sectL; rw [if_pos hkn]
    rw [← hs] at hW4
    have hl := sectL_len (k := k) hlS hkn
    have ho := own_of_whole (B := w3.heap.size) (n := 64) (c := 64) hW4 (Nat.le_refl _) (by rw [bts_len]; exact hl) (by omega) (by unfold maxLen; omega)
    rw [List.take_of_length_le (by rw [bts_len]; omega)] at ho
    have HO := Lib.hid (own_more ho HC3.out.size)
    have HC4 := Lib.hid (HC3.out.new hc4)
    clear hW4 hc4 ho hs hl
    go_wp2_with fail
    go_ret2
    refine .inl ⟨hh, _, rfl, ?_, HC4.out⟩
    rw [HH.out, Int.toNat_natCast]
    exact HO.out
/-- What Put does. -/
def PutPost (w : World) (p bL bS bW : Nat) (s : St) (L P E i : Int) (x : List UInt8) (e : Ending) (w' : World) : Prop :=
  (hasR L P E i s.V.length = true ∧ x.length = 64 ∧ e = .returned (.bool true) ∧ DskS w' p bL bS bW (s.write (homeI L P i).toNat x) ∧ Chg [bS, bW] w w') ∨
  (¬ (hasR L P E i s.V.length = true ∧ x.length = 64) ∧ e = .returned (.bool false) ∧ Chg [] w w')
set_option maxHeartbeats 400000 in
set_option maxRecDepth 100000 in
theorem hput_any (h : DskS w p bL bS bW s) (L P E i : Int) {A : Option Addr} {n c : Nat} {x : List UInt8} (hx : Bs w A n c x) :
    Calls Tryz.prog 89 #[.pointer (some ⟨p, 0, none⟩), rootV L P E, .int .i64 i, .slice A n c] w (PutPost w p bL bS bW s L P E i x) := by
  have hr0 : rootV L P E = .agg #[.int .i64 L, .int .i64 P, .int .u32 E] := rfl
  have H := Lib.hid h
  have HX := Lib.hid hx
  clear h hx
  rw [hr0]
  go_enter Tryz.func89, Tryz.ntmps89
  go_wp2_with fail
  have hR := Whole.new w 58 [.int .i64 L, .int .i64 P, .int .u32 E]
  have hc1 : Chg [] w (w.alloc (.cells #[.int .i64 L, .int .i64 P, .int .u32 E] 58)) := (Chg.refl [] w).alloc _
  obtain ⟨g, hg⟩ : ∃ g, g = w.heap.size := ⟨_, rfl⟩
  rw [← hg] at hR ⊢
  generalize w.alloc (.cells #[.int .i64 L, .int .i64 P, .int .u32 E] 58) = w1 at hc1 hR ⊢
  clear hg
  obtain ⟨c0, c1, c2, _, _, _⟩ := root_cells hR
  go_wp2_with fail
  refine (hhas_any (Dsk.keep H.out hc1) L P E i).mono ?_
  rintro e w2 ⟨rfl, hc2⟩
  have HC2 := Lib.hid (hc1.new hc2)
  have HR2 := Lib.hid (hR.keep hc2)
  clear hc1 hc2 hR c0 c1 c2
  cases hh : hasR L P E i s.V.length with
  | false =>
    go_wp2_with fail
    go_ret
    exact .inr ⟨by rw [hh]; simp, rfl, HC2.out⟩
  | true =>
    obtain ⟨-, k, hk, hkn, -⟩ := hasR_yes hh
    obtain ⟨c0, c1, c2, _, _, _⟩ := root_cells HR2.out
    go_wp2_with fail
    refine (home_any L P E i).mono ?_
    rintro e w3 ⟨rfl, hc3⟩
    rw [hk]
    have HC3 := Lib.hid (HC2.out.new hc3)
    have HH := Lib.hid hk
    clear hc3 hk c0 c1 c2
    have hxl := HX.out.len
    by_cases hn : n = 64
    · subst hn
      go_wp2_with fail
      refine (write_yes (Dsk.keep H.out HC3.out) k hkn hxl (HX.out.src.keep HC3.out)).mono ?_
      rintro e w4 ⟨rfl, hD4, hc4⟩
      have HC4 := Lib.hid ((HC3.out.sub (T' := [bS, bW]) (by simp)).trans hc4)
      have HD := Lib.hid hD4
      clear hD4 hc4
      go_wp2_with fail
      go_ret
      refine .inl ⟨hh, hxl, rfl, ?_, ?_⟩
      · rw [HH.out, Int.toNat_natCast]; exact HD.out
      · exact HC4.out
    · go_wp2_with fail
      refine (write_no (Dsk.keep H.out HC3.out) k A n c (.inr (.inr hn))).mono ?_
      rintro e w4 ⟨rfl, rfl⟩
      go_wp2_with fail
      go_ret
      exact .inr ⟨by rw [hh]; simp; omega, rfl, HC3.out⟩
end
end Go.Proofs.YtddjgncdjdjgeaaGreat
