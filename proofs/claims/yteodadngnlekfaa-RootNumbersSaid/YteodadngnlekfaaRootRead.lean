/-
  Layer 5: Read, and the reference's Unroot.
-/
import Derived.Test.YteodadngnlekfaaRootRef
import Derived.Outline
namespace Go.Proofs.Yteodadngnlekfaa
open Go.RowKit
/-- What Read answers. -/
def ReadRPost (l : List UInt8) (w : World) (e : Ending) (w' : World) : Prop :=
  (isRoot l ∧ e = .returned (.tuple #[rootV (getI l 4 : Nat) (getI l 8 : Nat) (getI l 12 : Nat), .bool true]) ∧ Chg [] w w') ∨
  (¬ isRoot l ∧ e = .returned (.tuple #[rootV 0 0 0, .bool false]) ∧ Chg [] w w')
/-- A root that is stored whole into a block of the call's own. -/
theorem root_set {w W : World} {g : Nat} {x y z : Value} (hc : Chg [] w W) (hg : w.heap.size ≤ g) (h : Whole W g 46 [x, y, z]) (a b c : Value) :
    Whole (((W.setCell ⟨g, 0, none⟩ a).setCell ⟨g, 1, none⟩ b).setCell ⟨g, 2, none⟩ c) g 46 [a, b, c] ∧ Chg [] w (((W.setCell ⟨g, 0, none⟩ a).setCell ⟨g, 1, none⟩ b).setCell ⟨g, 2, none⟩ c) := by
  have hx : ∀ o : Nat, (⟨g, o, none⟩ : Addr).block < w.heap.size → (⟨g, o, none⟩ : Addr).block ∈ ([] : List Nat) := fun o h => absurd h (by simp only; omega)
  exact ⟨((h.set_ 0 a).set_ 1 b).set_ 2 c, ((hc.setCell (hx 0) _).setCell (hx 1) _).setCell (hx 2) _⟩
theorem root_cells {W : World} {g : Nat} {x y z : Value} (h : Whole W g 46 [x, y, z]) : W.cell? ⟨g, 0, none⟩ = some x ∧ W.cell? ⟨g, 1, none⟩ = some y ∧ W.cell? ⟨g, 2, none⟩ = some z ∧ W.frozen? ⟨g, 0, none⟩ = false ∧ W.frozen? ⟨g, 1, none⟩ = false ∧ W.frozen? ⟨g, 2, none⟩ = false :=
  ⟨h.cell 0, h.cell 1, h.cell 2, h.frozen 0, h.frozen 1, h.frozen 2⟩
section
variable {w : World} {A : Option Addr} {n c : Nat} {l : List UInt8}
set_option maxHeartbeats 4000000 in
set_option maxRecDepth 100000 in
theorem rootread_any (h : Bs w A n c l) : Calls Try.prog 28 #[.slice A n c] w (ReadRPost l w) := by
  have H := Lib.hid h
  have h4 := getI_lt l 4
  have h8 := getI_lt l 8
  have h12 := getI_lt l 12
  clear h
  go_enter Try.func28, Try.ntmps28
  go_wp2_with fail
  have hc1 : Chg [] w (w.alloc (.cells #[.int .i64 0, .int .i64 0, .int .u32 0] 46)) := (Chg.refl [] w).alloc _
  have hR := Whole.new w 46 [.int .i64 0, .int .i64 0, .int .u32 0]
  obtain ⟨g, hg⟩ : ∃ g, g = w.heap.size := ⟨_, rfl⟩
  rw [← hg] at hR ⊢
  generalize w.alloc (.cells #[.int .i64 0, .int .i64 0, .int .u32 0] 46) = w1 at hc1 hR ⊢
  have hwg : w.heap.size ≤ g := by omega
  clear hg
  refine (get_b (H.out.keep hc1) 4 (by omega)).mono ?_
  rintro e w' ⟨rfl, rfl⟩
  go_wp2_with fail
  refine (get_b (H.out.keep hc1) 8 (by omega)).mono ?_
  rintro e w' ⟨rfl, rfl⟩
  have HC1 := Lib.hid hc1
  have HR := Lib.hid hR
  by_cases hab : 2147483647 < getI l 4 ∨ 2147483647 < getI l 8
  · have HNO := Lib.hid (show ¬ isRoot l from fun h => by have := h.1; have := h.2.1; omega)
    obtain ⟨c0, c1, c2, f0, f1, f2⟩ := root_cells hR
    clear hR hc1
    rcases hab with ha | ha
    · have hd : decide ((2147483647 : Int) < ((getI l 4 : Nat) : Int)) = true := by simp; omega
      go_wp2_with fail
      obtain ⟨hS, hCS⟩ := root_set HC1.out hwg HR.out (.int .i64 0) (.int .i64 0) (.int .u32 0)
      generalize ((w1.setCell ⟨g, 0, none⟩ (.int .i64 0)).setCell ⟨g, 1, none⟩ (.int .i64 0)).setCell ⟨g, 2, none⟩ (.int .u32 0) = w9 at hS hCS ⊢
      obtain ⟨k0, k1, k2, _, _, _⟩ := root_cells hS
      exact bodyPost_ret (v := .tuple #[rootV 0 0 0, .bool false]) (by simp [results, Try.results28, go_sem, rootV, k0, k1, k2]) rfl (.inr ⟨HNO.out, rfl, hCS⟩)
    · by_cases ha4 : 2147483647 < getI l 4
      · have hd : decide ((2147483647 : Int) < ((getI l 4 : Nat) : Int)) = true := by simp; omega
        go_wp2_with fail
        obtain ⟨hS, hCS⟩ := root_set HC1.out hwg HR.out (.int .i64 0) (.int .i64 0) (.int .u32 0)
        generalize ((w1.setCell ⟨g, 0, none⟩ (.int .i64 0)).setCell ⟨g, 1, none⟩ (.int .i64 0)).setCell ⟨g, 2, none⟩ (.int .u32 0) = w9 at hS hCS ⊢
        obtain ⟨k0, k1, k2, _, _, _⟩ := root_cells hS
        exact bodyPost_ret (v := .tuple #[rootV 0 0 0, .bool false]) (by simp [results, Try.results28, go_sem, rootV, k0, k1, k2]) rfl (.inr ⟨HNO.out, rfl, hCS⟩)
      · have hd : decide ((2147483647 : Int) < ((getI l 4 : Nat) : Int)) = false := by simp; omega
        have hd2 : decide ((2147483647 : Int) < ((getI l 8 : Nat) : Int)) = true := by simp; omega
        go_wp2_with fail
        obtain ⟨hS, hCS⟩ := root_set HC1.out hwg HR.out (.int .i64 0) (.int .i64 0) (.int .u32 0)
        generalize ((w1.setCell ⟨g, 0, none⟩ (.int .i64 0)).setCell ⟨g, 1, none⟩ (.int .i64 0)).setCell ⟨g, 2, none⟩ (.int .u32 0) = w9 at hS hCS ⊢
        obtain ⟨k0, k1, k2, _, _, _⟩ := root_cells hS
        exact bodyPost_ret (v := .tuple #[rootV 0 0 0, .bool false]) (by simp [results, Try.results28, go_sem, rootV, k0, k1, k2]) rfl (.inr ⟨HNO.out, rfl, hCS⟩)
  · have hd : decide ((2147483647 : Int) < ((getI l 4 : Nat) : Int)) = false := by simp; omega
    have hd2 : decide ((2147483647 : Int) < ((getI l 8 : Nat) : Int)) = false := by simp; omega
    have hle4 : getI l 4 ≤ 2147483647 := by omega
    have hle8 : getI l 8 ≤ 2147483647 := by omega
    have HI := Lib.hid (show isRoot l ↔ l = rootL (getI l 4) (getI l 8) (getI l 12) from ⟨fun h => h.2.2, fun h => ⟨hle4, hle8, h⟩⟩)
    have m4 : IntKind.i64.wrap ((getI l 4 : Nat) : Int) = ((getI l 4 : Nat) : Int) := IntWalk.i64_in _ (by omega)
    have m8 : IntKind.i64.wrap ((getI l 8 : Nat) : Int) = ((getI l 8 : Nat) : Int) := IntWalk.i64_in _ (by omega)
    clear hab
    generalize hq4 : getI l 4 = a at *
    generalize hq8 : getI l 8 = b at *
    generalize hq12 : getI l 12 = d at *
    have HQ := Lib.hid (And.intro hq4 (And.intro hq8 hq12))
    clear hq4 hq8 hq12 hR hc1
    go_wp2_with fail
    refine (get_b (H.out.keep HC1.out) 12 (by omega)).mono ?_
    rintro e w' ⟨rfl, rfl⟩
    rw [HQ.out.2.2]
    go_wp2_with fail
    have hN := Whole.new w1 46 [.int .i64 (a : Int), .int .i64 (b : Int), .int .u32 (d : Int)]
    have hc2 : Chg [] w (w1.alloc (.cells #[.int .i64 (a : Int), .int .i64 (b : Int), .int .u32 (d : Int)] 46)) := HC1.out.alloc _
    have hR2 := HR.out.keep ((Chg.refl [] w1).alloc (.cells #[.int .i64 (a : Int), .int .i64 (b : Int), .int .u32 (d : Int)] 46))
    generalize w1.alloc (.cells #[.int .i64 (a : Int), .int .i64 (b : Int), .int .u32 (d : Int)] 46) = w2 at hN hc2 hR2 ⊢
    generalize w1.heap.size = g6 at hN ⊢
    refine (rootbytes_any a b d hle4 hle8 h12).mono ?_
    rintro e w3 ⟨v3, rfl, ho3, hc3⟩
    obtain ⟨A3, c3, rfl, hB3, _⟩ := Bs.of_own ho3
    rw [rootL_len] at hB3 ⊢
    have HC3 := Lib.hid (hc2.new hc3)
    have HR3 := Lib.hid (hR2.keep hc3)
    have hN3 := hN.keep hc3
    have HB3 := Lib.hid hB3
    clear hN hc2 hR2 ho3 hc3 hB3
    go_wp2_with fail
    refine (bequal_any (H.out.keep HC3.out) HB3.out).mono ?_
    rintro e w' ⟨rfl, rfl⟩
    obtain ⟨c0, c1, c2, f0, f1, f2⟩ := root_cells HR3.out
    obtain ⟨e0, e1, e2, _, _, _⟩ := root_cells hN3
    clear hN3
    by_cases hl : l = rootL a b d
    · have HYES := Lib.hid (HI.out.2 hl)
      have hdl : decide (l = rootL a b d) = true := by simpa using hl
      rw [hdl]
      clear hdl hl
      go_wp2_with fail
      obtain ⟨hS, hCS⟩ := root_set HC3.out hwg HR3.out (.int .i64 (a : Int)) (.int .i64 (b : Int)) (.int .u32 (d : Int))
      generalize ((w3.setCell ⟨g, 0, none⟩ (.int .i64 (a : Int))).setCell ⟨g, 1, none⟩ (.int .i64 (b : Int))).setCell ⟨g, 2, none⟩ (.int .u32 (d : Int)) = w9 at hS hCS ⊢
      obtain ⟨k0, k1, k2, _, _, _⟩ := root_cells hS
      exact bodyPost_ret (v := .tuple #[rootV a b d, .bool true]) (by simp [results, Try.results28, go_sem, rootV, k0, k1, k2]) rfl (.inl ⟨HYES.out, by rw [HQ.out.1, HQ.out.2.1, HQ.out.2.2], hCS⟩)
    · have HNO := Lib.hid (fun h => hl (HI.out.1 h))
      have hdl : decide (l = rootL a b d) = false := by simpa using hl
      rw [hdl]
      clear hdl hl
      go_wp2_with fail
      obtain ⟨hS, hCS⟩ := root_set HC3.out hwg HR3.out (.int .i64 0) (.int .i64 0) (.int .u32 0)
      generalize ((w3.setCell ⟨g, 0, none⟩ (.int .i64 0)).setCell ⟨g, 1, none⟩ (.int .i64 0)).setCell ⟨g, 2, none⟩ (.int .u32 0) = w9 at hS hCS ⊢
      obtain ⟨k0, k1, k2, _, _, _⟩ := root_cells hS
      exact bodyPost_ret (v := .tuple #[rootV 0 0 0, .bool false]) (by simp [results, Try.results28, go_sem, rootV, k0, k1, k2]) rfl (.inr ⟨HNO.out, rfl, hCS⟩)
end
end Go.Proofs.Yteodadngnlekfaa
