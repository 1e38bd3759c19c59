/-
  N: RootRead, RootUn.
-/
import Derived.Test.YtddjgncdjdjgeaaGreatZN12
import Derived.Outline
namespace Go.Proofs.YtddjgncdjdjgeaaGreat
open Go.RowKit
/-- What Read answers. -/
def ReadRPost (l : List UInt8) (w : World) (e : Ending) (w' : World) : Prop :=
  (isRoot l ∧ e = .returned (.tuple #[rootV (getI l 4 : Nat) (getI l 8 : Nat) (getI l 12 : Nat), .bool true]) ∧ Chg [] w w') ∨
  (¬ isRoot l ∧ e = .returned (.tuple #[rootV 0 0 0, .bool false]) ∧ Chg [] w w')
/-- A root that is stored whole into a block of the call's own. -/
theorem root_set {w W : World} {g : Nat} {x y z : Value} (hc : Chg [] w W) (hg : w.heap.size ≤ g) (h : Whole W g 58 [x, y, z]) (a b c : Value) :
    Whole (((W.setCell ⟨g, 0, none⟩ a).setCell ⟨g, 1, none⟩ b).setCell ⟨g, 2, none⟩ c) g 58 [a, b, c] ∧ Chg [] w (((W.setCell ⟨g, 0, none⟩ a).setCell ⟨g, 1, none⟩ b).setCell ⟨g, 2, none⟩ c) := by
  have hx : ∀ o : Nat, (⟨g, o, none⟩ : Addr).block < w.heap.size → (⟨g, o, none⟩ : Addr).block ∈ ([] : List Nat) := fun o h => absurd h (by simp only; omega)
  exact ⟨((h.set_ 0 a).set_ 1 b).set_ 2 c, ((hc.setCell (hx 0) _).setCell (hx 1) _).setCell (hx 2) _⟩
section
variable {w : World} {A : Option Addr} {n c : Nat} {l : List UInt8}
set_option maxHeartbeats 4000000 in
set_option maxRecDepth 100000 in
theorem rootread_any (h : Bs w A n c l) : Calls Tryz.prog 94 #[.slice A n c] w (ReadRPost l w) := by
  have H := Lib.hid h
  have h4 := getI_lt l 4
  have h8 := getI_lt l 8
  have h12 := getI_lt l 12
  clear h
  go_enter Tryz.func94, Tryz.ntmps94
  go_wp2_with fail
  have hc1 : Chg [] w (w.alloc (.cells #[.int .i64 0, .int .i64 0, .int .u32 0] 58)) := (Chg.refl [] w).alloc _
  have hR := Whole.new w 58 [.int .i64 0, .int .i64 0, .int .u32 0]
  obtain ⟨g, hg⟩ : ∃ g, g = w.heap.size := ⟨_, rfl⟩
  rw [← hg] at hR ⊢
  generalize w.alloc (.cells #[.int .i64 0, .int .i64 0, .int .u32 0] 58) = w1 at hc1 hR ⊢
  have hwg : w.heap.size ≤ g := by omega
  clear hg
  refine (get_b (H.out.keep hc1) 4 (by omega)).mono ?_
  rintro e w' ⟨rfl, rfl⟩
  go_wp2_with fail
  refine (get_b (H.out.keep hc1) 8 (by omega)).mono ?_
  rintro e w' ⟨rfl, rfl⟩
  have HC1 := Lib.hid hc1
  have HR := Lib.hid hR
  by_cases hab : 2147483647 < getI l 4 ∨ 2147483647 < getI l 8
  · have HNO := Lib.hid (show ¬ isRoot l from fun h => by have := h.1; have := h.2.1; omega)
    obtain ⟨c0, c1, c2, f0, f1, f2⟩ := root_cells hR
    clear hR hc1
    rcases hab with ha | ha
    · have hd : decide ((2147483647 : Int) < ((getI l 4 : Nat) : Int)) = true := by simp; omega
      go_wp2_with fail
      obtain ⟨hS, hCS⟩ := root_set HC1.out hwg HR.out (.int .i64 0) (.int .i64 0) (.int .u32 0)
      generalize ((w1.setCell ⟨g, 0, none⟩ (.int .i64 0)).setCell ⟨g, 1, none⟩ (.int .i64 0)).setCell ⟨g, 2, none⟩ (.int .u32 0) = w9 at hS hCS ⊢
      obtain ⟨k0, k1, k2, _, _, _⟩ := root_cells hS
      exact bodyPost_ret (v := .tuple #[rootV 0 0 0, .bool false]) (by simp [results, Tryz.results94, go_sem, rootV, k0, k1, k2]) rfl (.inr ⟨HNO.out, rfl, hCS⟩)
    · by_cases ha4 : 2147483647 < getI l 4
      · have hd : decide ((2147483647 : Int) < ((getI l 4 : Nat) : Int)) = true := by simp; omega
        go_wp2_with fail
        obtain ⟨hS, hCS⟩ := root_set HC1.out hwg HR.out (.int .i64 0) (.int .i64 0) (.int .u32 0)
        generalize ((w1.setCell ⟨g, 0, none⟩ (.int .i64 0)).setCell ⟨g, 1, none⟩ (.int .i64 0)).setCell ⟨g, 2, none⟩ (.int .u32 0) = w9 at hS hCS ⊢
        obtain ⟨k0, k1, k2, _, _, _⟩ := root_cells hS
        exact bodyPost_ret (v := .tuple #[rootV 0 0 0, .bool false]) (by simp [results, Tryz.results94, go_sem, rootV, k0, k1, k2]) rfl (.inr ⟨HNO.out, rfl, hCS⟩)
      · have hd : decide ((2147483647 : Int) < ((getI l 4 : Nat) : Int)) = false := by simp; omega
        have hd2 : decide ((2147483647 : Int) < ((getI l 8 : Nat) : Int)) = true := by simp; omega
        go_wp2_with fail
        obtain ⟨hS, hCS⟩ := root_set HC1.out hwg HR.out (.int .i64 0) (.int .i64 0) (.int .u32 0)
        generalize ((w1.setCell ⟨g, 0, none⟩ (.int .i64 0)).setCell ⟨g, 1, none⟩ (.int .i64 0)).setCell ⟨g, 2, none⟩ (.int .u32 0) = w9 at hS hCS ⊢
        obtain ⟨k0, k1, k2, _, _, _⟩ := root_cells hS
        exact bodyPost_ret (v := .tuple #[rootV 0 0 0, .bool false]) (by simp [results, Tryz.results94, go_sem, rootV, k0, k1, k2]) rfl (.inr ⟨HNO.out, rfl, hCS⟩)
  · have hd : decide ((2147483647 : Int) < ((getI l 4 : Nat) : Int)) = false := by simp; omega
    have hd2 : decide ((2147483647 : Int) < ((getI l 8 : Nat) : Int)) = false := by simp; omega
    have hle4 : getI l 4 ≤ 2147483647 := by omega
    have hle8 : getI l 8 ≤ 2147483647 := by omega
    have HI := Lib.hid (show isRoot l ↔ l = rootL (getI l 4) (getI l 8) (getI l 12) from ⟨fun h => h.2.2, fun h => ⟨hle4, hle8, h⟩⟩)
    have m4 : IntKind.i64.wrap ((getI l 4 : Nat) : Int) = ((getI l 4 : Nat) : Int) := IntWalk.i64_in _ (by omega)
    have m8 : IntKind.i64.wrap ((getI l 8 : Nat) : Int) = ((getI l 8 : Nat) : Int) := IntWalk.i64_in _ (by omega)
    clear hab
    generalize hq4 : getI l 4 = a at *
    generalize hq8 : getI l 8 = b at *
    generalize hq12 : getI l 12 = d at *
    have HQ := Lib.hid (And.intro hq4 (And.intro hq8 hq12))
    clear hq4 hq8 hq12 hR hc1
    go_wp2_with fail
    refine (get_b (H.out.keep HC1.out) 12 (by omega)).mono ?_
    rintro e w' ⟨rfl, rfl⟩
    rw [HQ.out.2.2]
    go_wp2_with fail
    have hN := Whole.new w1 58 [.int .i64 (a : Int), .int .i64 (b : Int), .int .u32 (d : Int)]
    have hc2 : Chg [] w (w1.alloc (.cells #[.int .i64 (a : Int), .int .i64 (b : Int), .int .u32 (d : Int)] 58)) := HC1.out.alloc _
    have hR2 := HR.out.keep ((Chg.refl [] w1).alloc (.cells #[.int .i64 (a : Int), .int .i64 (b : Int), .int .u32 (d : Int)] 58))
    generalize w1.alloc (.cells #[.int .i64 (a : Int), .int .i64 (b : Int), .int .u32 (d : Int)] 58) = w2 at hN hc2 hR2 ⊢
    generalize w1.heap.size = g6 at hN ⊢
    refine (rootbytes_any a b d hle4 hle8 h12).mono ?_
    rintro e w3 ⟨v3, rfl, ho3, hc3⟩
    obtain ⟨A3, c3, rfl, hB3, _⟩ := Bs.of_own ho3
    rw [rootL_len] at hB3 ⊢
    have HC3 := Lib.hid (hc2.new hc3)
    have HR3 := Lib.hid (hR2.keep hc3)
    have hN3 := hN.keep hc3
    have HB3 := Lib.hid hB3
    clear hN hc2 hR2 ho3 hc3 hB3
    go_wp2_with fail
    refine (bequal_any (H.out.keep HC3.out) HB3.out).mono ?_
    rintro e w' ⟨rfl, rfl⟩
    obtain ⟨c0, c1, c2, f0, f1, f2⟩ := root_cells HR3.out
    obtain ⟨e0, e1, e2, _, _, _⟩ := root_cells hN3
    clear hN3
    by_cases hl : l = rootL a b d
    · have HYES := Lib.hid (HI.out.2 hl)
      have hdl : decide (l = rootL a b d) = true := by simpa using hl
      rw [hdl]
      clear hdl hl
      go_wp2_with fail
      obtain ⟨hS, hCS⟩ := root_set HC3.out hwg HR3.out (.int .i64 (a : Int)) (.int .i64 (b : Int)) (.int .u32 (d : Int))
      generalize ((w3.setCell ⟨g, 0, none⟩ (.int .i64 (a : Int))).setCell ⟨g, 1, none⟩ (.int .i64 (b : Int))).setCell ⟨g, 2, none⟩ (.int .u32 (d : Int)) = w9 at hS hCS ⊢
      obtain ⟨k0, k1, k2, _, _, _⟩ := root_cells hS
      exact bodyPost_ret (v := .tuple #[rootV a b d, .bool true]) (by simp [results, Tryz.results94, go_sem, rootV, k0, k1, k2]) rfl (.inl ⟨HYES.out, by rw [HQ.out.1, HQ.out.2.1, HQ.out.2.2], hCS⟩)
    · have HNO := Lib.hid (fun h => hl (HI.out.1 h))
      have hdl : decide (l = rootL a b d) = false := by simpa using hl
      rw [hdl]
      clear hdl hl
      go_wp2_with fail
      obtain ⟨hS, hCS⟩ := root_set HC3.out hwg HR3.out (.int .i64 0) (.int .i64 0) (.int .u32 0)
      generalize ((w3.setCell ⟨g, 0, none⟩ (.int .i64 0)).setCell ⟨g, 1, none⟩ (.int .i64 0)).setCell ⟨g, 2, none⟩ (.int .u32 0) = w9 at hS hCS ⊢
      obtain ⟨k0, k1, k2, _, _, _⟩ := root_cells hS
      exact bodyPost_ret (v := .tuple #[rootV 0 0 0, .bool false]) (by simp [results, Tryz.results94, go_sem, rootV, k0, k1, k2]) rfl (.inr ⟨HNO.out, rfl, hCS⟩)
end
end Go.Proofs.YtddjgncdjdjgeaaGreat
namespace Go.Proofs.YtddjgncdjdjgeaaGreat
open Go.RowKit
section
variable {w : World} {A : Option Addr} {n c : Nat} {l : List UInt8}
set_option maxHeartbeats 4000000 in
set_option maxRecDepth 100000 in
theorem unroot_any (h : Bs w A n c l) : Calls Tryz.prog 101 #[.slice A n c] w (ReadRPost l w) := by
  have H := Lib.hid h
  have h4 := getI_lt l 4
  have h8 := getI_lt l 8
  have h12 := getI_lt l 12
  have hlen := h.len
  have hcap := h.cap
  have hA0 := add0 A
  clear h
  by_cases hn : n = 64
  rotate_left
  · have HNO := Lib.hid (show ¬ isRoot l from fun h => hn (by rw [← hlen]; exact isRoot_len h))
    have hb1 : ((n : Int) == 64) = false := by simp; omega
    have hb2 : ((n : Int) != 64) = true := by simp; omega
    have hb3 : (!((n : Int) == 64)) = true := by simp; omega
    clear hn hlen
    go_enter Tryz.func101, Tryz.ntmps101
    go_wp2_with fail
    exact bodyPost_ret (v := .tuple #[rootV 0 0 0, .bool false]) (by simp [results, Tryz.results101, go_sem, rootV]) rfl (.inr ⟨HNO.out, rfl, (Chg.refl _ _).alloc _⟩)
  subst hn
  have HLN := Lib.hid hlen
  clear hlen
  have hb1 : (((64 : Nat) : Int) != 64) = false := by simp
  have hc1 : Chg [] w (w.alloc (.cells #[.int .i64 0, .int .i64 0, .int .u32 0] 58)) := (Chg.refl [] w).alloc _
  have hT := ((H.out.keep hc1).take (m := 4) (by omega)).str (P := Tryz.prog) 30 5 9 Tryz.underlying30 Tryz.underlying5 Tryz.underlying9
  have hcc : ¬ c < 4 := by omega
  have hccI : (4 : Int) ≤ (c : Int) := by omega
  by_cases hm : l.take 4 = markL
  rotate_left
  · have HNO := Lib.hid (show ¬ isRoot l from fun h => hm (isRoot_mark h))
    have hs0 : ((strOf (l.take 4)).toList == (strOf markL).toList) = false := by
      rw [ByteArray.toList_eq, ByteArray.toList_eq]
      show (l.take 4 == markL) = false
      simpa using hm
    have hs1 : ((strOf (l.take 4)).toList == [69, 78, 71, 49]) = false := by
      rw [show ([69, 78, 71, 49] : List UInt8) = (strOf markL).toList by rw [ByteArray.toList_eq]; rfl]
      exact hs0
    generalize strOf (l.take 4) = S at hT hs1
    have hs2 : (!(S.toList == [69, 78, 71, 49])) = true := by rw [hs1]; rfl
    clear hm hs0
    go_enter Tryz.func101, Tryz.ntmps101
    go_wp2_with fail
    exact bodyPost_ret (v := .tuple #[rootV 0 0 0, .bool false]) (by simp [results, Tryz.results101, go_sem, rootV]) rfl (.inr ⟨HNO.out, rfl, (Chg.refl _ _).alloc _⟩)
  · rw [hm, show strOf markL = ⟨#[69, 78, 71, 49]⟩ from rfl] at hT
    clear hm
    go_enter Tryz.func101, Tryz.ntmps101
    go_wp2_with fail
    clear hT
    have hR := Whole.new w 58 [.int .i64 0, .int .i64 0, .int .u32 0]
    obtain ⟨g, hg⟩ : ∃ g, g = w.heap.size := ⟨_, rfl⟩
    rw [← hg] at hR ⊢
    generalize w.alloc (.cells #[.int .i64 0, .int .i64 0, .int .u32 0] 58) = w1 at hc1 hR ⊢
    have hwg : w.heap.size ≤ g := by omega
    clear hg
    refine (rget_b (H.out.keep hc1) 4 (by omega)).mono ?_
    rintro e w2 ⟨rfl, hc2⟩
    have hB2 := H.out.keep (hc1.new hc2)
    go_wp2_with fail
    refine (rget_b hB2 8 (by omega)).mono ?_
    rintro e w3 ⟨rfl, hc3⟩
    go_wp2_with fail
    refine (rget_b (hB2.keep hc3) 12 (by omega)).mono ?_
    rintro e w4 ⟨rfl, hc4⟩
    have HC4 := Lib.hid (((hc1.new hc2).new hc3).new hc4)
    have HR4 := Lib.hid (((hR.keep hc2).keep hc3).keep hc4)
    clear hB2 hc1 hc2 hc3 hc4 hR
    have HI := Lib.hid (show isRoot l ↔ (getI l 4 ≤ 2147483647 ∧ getI l 8 ≤ 2147483647 ∧ l = rootL (getI l 4) (getI l 8) (getI l 12)) from Iff.rfl)
    generalize hq4 : getI l 4 = a at *
    generalize hq8 : getI l 8 = b at *
    generalize hq12 : getI l 12 = d at *
    have HQ := Lib.hid (And.intro hq4 (And.intro hq8 hq12))
    clear hq4 hq8 hq12
    have m4 : IntKind.i64.wrap (a : Int) = (a : Int) := IntWalk.i64_in _ (by omega)
    have m8 : IntKind.i64.wrap (b : Int) = (b : Int) := IntWalk.i64_in _ (by omega)
    go_wp2_with fail
    have hN := Whole.new w4 58 [.int .i64 (a : Int), .int .i64 (b : Int), .int .u32 (d : Int)]
    have hc5 : Chg [] w (w4.alloc (.cells #[.int .i64 (a : Int), .int .i64 (b : Int), .int .u32 (d : Int)] 58)) := HC4.out.alloc _
    have hR5 := HR4.out.keep ((Chg.refl [] w4).alloc (.cells #[.int .i64 (a : Int), .int .i64 (b : Int), .int .u32 (d : Int)] 58))
    generalize w4.alloc (.cells #[.int .i64 (a : Int), .int .i64 (b : Int), .int .u32 (d : Int)] 58) = w5 at hN hc5 hR5 ⊢
    generalize w4.heap.size = g6 at hN ⊢
    have hld : ∀ W, Chg [] w5.drew W → W.cell? ⟨g6, 0, none⟩ = some (.int .i64 (a : Int)) ∧ W.cell? ⟨g6, 1, none⟩ = some (.int .i64 (b : Int)) ∧ W.cell? ⟨g6, 2, none⟩ = some (.int .u32 (d : Int)) := fun W hW => by
      obtain ⟨c0, c1, c2, _⟩ := root_cells (hN.drew.keep hW)
      exact ⟨c0, c1, c2⟩
    by_cases ha : 2147483647 < a
    · have hd : decide ((2147483647 : Int) < (a : Int)) = true := by simp; omega
      have HNO := Lib.hid (show ¬ isRoot l from fun hh => by have := (HI.out.1 hh).1; omega)
      refine wp_flow (by kernel_rfl) plainT plainT_ok (by kernel_rfl) ?_
      refine flow1 (r := .pointer (some ⟨g6, 0, none⟩)) plainT_ok rfl (.out rfl rfl) rfl (fun ev W he e1 => by go_simp) ?_
      refine flow1h (r := .int .i64 (a : Int)) plainT_ok rfl (.inn rfl) rfl (fun ev W he hW e1 => by obtain ⟨c0, c1, c2⟩ := hld W hW; go_simp) ?_
      refine flow2 (r := .bool true) plainT_ok rfl (.inn rfl) (.const _) rfl (fun ev W he e1 e2 => by go_simp) ?_
      refine flow_move plainT_ok rfl (keeps_isV _) (.inr (keeps_isV _)) rfl ?_
      refine flow_skip rfl ?_
      refine flow_skip rfl ?_
      refine flow_skip rfl ?_
      refine flow_or_true plainT_ok rfl rfl rfl ?_
      refine flow_move plainT_ok rfl (keeps_isV _) (.inr (keeps_isV _)) rfl ?_
      refine flow_skip rfl ?_
      refine flow_skip rfl ?_
      refine flow_skip rfl ?_
      refine flow_skip rfl ?_
      refine flow_skip rfl ?_
      refine flow_skip rfl ?_
      refine flow_or_true plainT_ok rfl rfl rfl ?_
      intro vs W hW hF
      have e39 : vs 39 = .bool true := hF 39 _ rfl rfl
      simp only [putAll, Act.put, List.setIfInBounds_toArray, List.set_cons_zero, List.set_cons_succ, e39]
      have HC9 := Lib.hid (hc5.drew.new hW)
      have HR9 := Lib.hid (hR5.drew.keep hW)
      obtain ⟨c0, c1, c2, f0, f1, f2⟩ := root_cells HR9.out
      clear hW hF hld hN hc5 hR5
      go_wp2_with fail
      obtain ⟨hS, hCS⟩ := root_set HC9.out hwg HR9.out (.int .i64 0) (.int .i64 0) (.int .u32 0)
      generalize ((W.setCell ⟨g, 0, none⟩ (.int .i64 0)).setCell ⟨g, 1, none⟩ (.int .i64 0)).setCell ⟨g, 2, none⟩ (.int .u32 0) = w9 at hS hCS ⊢
      obtain ⟨k0, k1, k2, _, _, _⟩ := root_cells hS
      exact bodyPost_ret (v := .tuple #[rootV 0 0 0, .bool false]) (by simp [results, Tryz.results101, go_sem, rootV, k0, k1, k2]) rfl (.inr ⟨HNO.out, rfl, hCS⟩)
    have hd : decide ((2147483647 : Int) < (a : Int)) = false := by simp; omega
    by_cases hb : 2147483647 < b
    · have hd2 : decide ((2147483647 : Int) < (b : Int)) = true := by simp; omega
      have HNO := Lib.hid (show ¬ isRoot l from fun hh => by have := (HI.out.1 hh).2.1; omega)
      refine wp_flow (by kernel_rfl) plainT plainT_ok (by kernel_rfl) ?_
      refine flow1 (r := .pointer (some ⟨g6, 0, none⟩)) plainT_ok rfl (.out rfl rfl) rfl (fun ev W he e1 => by go_simp) ?_
      refine flow1h (r := .int .i64 (a : Int)) plainT_ok rfl (.inn rfl) rfl (fun ev W he hW e1 => by obtain ⟨c0, c1, c2⟩ := hld W hW; go_simp) ?_
      refine flow2 (r := .bool false) plainT_ok rfl (.inn rfl) (.const _) rfl (fun ev W he e1 e2 => by go_simp) ?_
      refine flow_move plainT_ok rfl (keeps_isV _) (.inr (keeps_isV _)) rfl ?_
      refine flow1 (r := .pointer (some ⟨g6, 1, none⟩)) plainT_ok rfl (.out rfl rfl) rfl (fun ev W he e1 => by go_simp) ?_
      refine flow1h (r := .int .i64 (b : Int)) plainT_ok rfl (.inn rfl) rfl (fun ev W he hW e1 => by obtain ⟨c0, c1, c2⟩ := hld W hW; go_simp) ?_
      refine flow2 (r := .bool true) plainT_ok rfl (.inn rfl) (.const _) rfl (fun ev W he e1 e2 => by go_simp) ?_
      refine flow_or_false plainT_ok rfl rfl rfl ?_
      refine flow_move plainT_ok rfl (keeps_isV _) (.inr (keeps_isV _)) rfl ?_
      refine flow_skip rfl ?_
      refine flow_skip rfl ?_
      refine flow_skip rfl ?_
      refine flow_skip rfl ?_
      refine flow_skip rfl ?_
      refine flow_skip rfl ?_
      refine flow_or_true plainT_ok rfl rfl rfl ?_
      intro vs W hW hF
      have e39 : vs 39 = .bool true := hF 39 _ rfl rfl
      simp only [putAll, Act.put, List.setIfInBounds_toArray, List.set_cons_zero, List.set_cons_succ, e39]
      have HC9 := Lib.hid (hc5.drew.new hW)
      have HR9 := Lib.hid (hR5.drew.keep hW)
      obtain ⟨c0, c1, c2, f0, f1, f2⟩ := root_cells HR9.out
      clear hW hF hld hN hc5 hR5
      go_wp2_with fail
      obtain ⟨hS, hCS⟩ := root_set HC9.out hwg HR9.out (.int .i64 0) (.int .i64 0) (.int .u32 0)
      generalize ((W.setCell ⟨g, 0, none⟩ (.int .i64 0)).setCell ⟨g, 1, none⟩ (.int .i64 0)).setCell ⟨g, 2, none⟩ (.int .u32 0) = w9 at hS hCS ⊢
      obtain ⟨k0, k1, k2, _, _, _⟩ := root_cells hS
      exact bodyPost_ret (v := .tuple #[rootV 0 0 0, .bool false]) (by simp [results, Tryz.results101, go_sem, rootV, k0, k1, k2]) rfl (.inr ⟨HNO.out, rfl, hCS⟩)
    have hd2 : decide ((2147483647 : Int) < (b : Int)) = false := by simp; omega
    have hB5 := H.out.keep hc5
    obtain ⟨bb, hbb⟩ : ∃ bb : Bool, bb = !((strOf (rootL a b d)).toList == (strOf l).toList) := ⟨_, rfl⟩
    refine wp_flow (by kernel_rfl) plainT plainT_ok (by kernel_rfl) ?_
    refine flow1 (r := .pointer (some ⟨g6, 0, none⟩)) plainT_ok rfl (.out rfl rfl) rfl (fun ev W he e1 => by go_simp) ?_
    refine flow1h (r := .int .i64 (a : Int)) plainT_ok rfl (.inn rfl) rfl (fun ev W he hW e1 => by obtain ⟨c0, c1, c2⟩ := hld W hW; go_simp) ?_
    refine flow2 (r := .bool false) plainT_ok rfl (.inn rfl) (.const _) rfl (fun ev W he e1 e2 => by go_simp) ?_
    refine flow_move plainT_ok rfl (keeps_isV _) (.inr (keeps_isV _)) rfl ?_
    refine flow1 (r := .pointer (some ⟨g6, 1, none⟩)) plainT_ok rfl (.out rfl rfl) rfl (fun ev W he e1 => by go_simp) ?_
    refine flow1h (r := .int .i64 (b : Int)) plainT_ok rfl (.inn rfl) rfl (fun ev W he hW e1 => by obtain ⟨c0, c1, c2⟩ := hld W hW; go_simp) ?_
    refine flow2 (r := .bool false) plainT_ok rfl (.inn rfl) (.const _) rfl (fun ev W he e1 e2 => by go_simp) ?_
    refine flow_or_false plainT_ok rfl rfl rfl ?_
    refine flow_move plainT_ok rfl (keeps_isV _) (.inr (keeps_isV _)) rfl ?_
    refine flow1h (r := rootV a b d) plainT_ok rfl (.out rfl rfl) rfl (fun ev W he hW e1 => by obtain ⟨c0, c1, c2⟩ := hld W hW; go_simp; rfl) ?_
    refine flow_calld (ownF 0 5 (bts (rootL a b d))) (keeps_own _ _ _) (.inr (keeps_own _ _ _)) (by kernel_rfl) rfl (.cons (.inn rfl) .nil) (fun W hW => (rroot_any a b d (by omega) (by omega) h12).mono ?_) ?_
    · rintro e w' ⟨v, rfl, ho, hc'⟩
      exact ⟨v, rfl, hc', by rw [ownF, bts_len]; exact own_more ho (Nat.zero_le _)⟩
    refine flow_str plainT_ok rfl Tryz.underlying30 Tryz.underlying5 Tryz.underlying9 rfl ?_
    refine flow_move_out plainT_ok rfl rfl rfl ?_
    refine flow_strd plainT_ok (.inn rfl) (fun W hW => hB5.drew.keep hW) Tryz.underlying30 Tryz.underlying5 Tryz.underlying9 rfl ?_
    refine flow2 (r := .bool bb) plainT_ok rfl (.inn rfl) (.inn rfl) rfl (fun ev W he e1 e2 => by rw [hbb]; go_simp) ?_
    refine flow_or_false plainT_ok rfl rfl rfl ?_
    intro vs W hW hF
    have e39 : vs 39 = .bool bb := hF 39 _ rfl rfl
    simp only [putAll, Act.put, List.setIfInBounds_toArray, List.set_cons_zero, List.set_cons_succ, e39]
    have HC9 := Lib.hid (hc5.drew.new hW)
    have HR9 := Lib.hid (hR5.drew.keep hW)
    obtain ⟨c0, c1, c2, f0, f1, f2⟩ := root_cells HR9.out
    obtain ⟨e0, e1, e2⟩ := hld W hW
    have HBB := Lib.hid hbb
    have hcmp : ((strOf (rootL a b d)).toList == (strOf l).toList) = decide (rootL a b d = l) := str_ne
    have HCM := Lib.hid hcmp
    clear hW hF hld hN hc5 hR5 hB5 hbb hcmp
    cases bb with
    | true =>
      have HNO := Lib.hid (show ¬ isRoot l from fun hh => by
        have h1 := HBB.out
        rw [HCM.out, decide_eq_true ((HI.out.1 hh).2.2).symm] at h1
        cases h1)
      go_wp2_with fail
      obtain ⟨hS, hCS⟩ := root_set HC9.out hwg HR9.out (.int .i64 0) (.int .i64 0) (.int .u32 0)
      generalize ((W.setCell ⟨g, 0, none⟩ (.int .i64 0)).setCell ⟨g, 1, none⟩ (.int .i64 0)).setCell ⟨g, 2, none⟩ (.int .u32 0) = w9 at hS hCS ⊢
      obtain ⟨k0, k1, k2, _, _, _⟩ := root_cells hS
      exact bodyPost_ret (v := .tuple #[rootV 0 0 0, .bool false]) (by simp [results, Tryz.results101, go_sem, rootV, k0, k1, k2]) rfl (.inr ⟨HNO.out, rfl, hCS⟩)
    | false =>
      have HYES := Lib.hid (HI.out.2 ⟨by omega, by omega, by
        have h1 := HBB.out
        rw [HCM.out] at h1
        have h2 : decide (rootL a b d = l) = true := by simpa using h1
        exact (of_decide_eq_true h2).symm⟩)
      go_wp2_with fail
      obtain ⟨hS, hCS⟩ := root_set HC9.out hwg HR9.out (.int .i64 (a : Int)) (.int .i64 (b : Int)) (.int .u32 (d : Int))
      generalize ((W.setCell ⟨g, 0, none⟩ (.int .i64 (a : Int))).setCell ⟨g, 1, none⟩ (.int .i64 (b : Int))).setCell ⟨g, 2, none⟩ (.int .u32 (d : Int)) = w9 at hS hCS ⊢
      obtain ⟨k0, k1, k2, _, _, _⟩ := root_cells hS
      exact bodyPost_ret (v := .tuple #[rootV a b d, .bool true]) (by simp [results, Tryz.results101, go_sem, rootV, k0, k1, k2]) rfl (.inl ⟨HYES.out, by rw [HQ.out.1, HQ.out.2.1, HQ.out.2.2], hCS⟩)
end
end Go.Proofs.YtddjgncdjdjgeaaGreat
