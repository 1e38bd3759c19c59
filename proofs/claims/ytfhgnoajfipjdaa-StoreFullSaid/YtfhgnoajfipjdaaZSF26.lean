/-
  SF: DeltaPure, RootRead.
-/
import Derived.Test.YtfhgnoajfipjdaaZSF15
import Derived.Test.YtfhgnoajfipjdaaZSF17
import Derived.Outline
namespace Go.Proofs.Ytfhgnoajfipjdaa
open Go.RowKit
/-- A change that is a page. -/
def Page (a : ChV) : Prop := Small a ∧ a.B.length = 64
theorem be2_len (k : Nat) : (be2 k).length = 2 := rfl
theorem num2_be2 (k : Nat) (h : k < 65536) (x : List UInt8) : num2 (be2 k ++ x) = k := by
  show (UInt8.ofNat (k / 256)).toNat * 256 + (UInt8.ofNat k).toNat = k
  rw [UInt8.toNat_ofNat', UInt8.toNat_ofNat']
  omega
theorem chB_len {a : ChV} (h : Page a) : (chB a).length = 66 := by unfold chB; rw [List.length_append, be2_len, h.2]
theorem chsB_len : ∀ {l : List ChV}, (∀ a ∈ l, Page a) → (chsB l).length = l.length * 66
  | [], _ => rfl
  | a :: l, h => by
    rw [chsB, List.length_append, chB_len (h a (List.mem_cons_self ..)), chsB_len (fun b hb => h b (List.mem_cons_of_mem _ hb)), List.length_cons]
    omega
theorem chsB_drop : ∀ {l : List ChV}, (∀ a ∈ l, Page a) → ∀ k, k ≤ l.length → (chsB l).drop (k * 66) = chsB (l.drop k)
  | l, _, 0, _ => by simp
  | [], _, k + 1, h => by simp at h
  | a :: l, h, k + 1, hk => by
    rw [chsB, show (k + 1) * 66 = (chB a).length + k * 66 by rw [chB_len (h a (List.mem_cons_self ..))]; omega, ← List.drop_drop, List.drop_left, List.drop_succ_cons]
    exact chsB_drop (fun b hb => h b (List.mem_cons_of_mem _ hb)) k (by simpa using hk)
section
variable {l : List ChV}
theorem back_num (hn : l.length < 65536) : num2 (bytesD l) = l.length := num2_be2 _ hn _
theorem back_len (h : ∀ a ∈ l, Page a) : (bytesD l).length = 2 + l.length * 66 := by unfold bytesD; rw [List.length_append, be2_len, chsB_len h]
theorem back_at (h : ∀ a ∈ l, Page a) (k : Nat) (a : ChV) (ha : l[k]? = some a) : keyC (chOf (bytesD l) k) = keyC a := by
  obtain ⟨hk, rfl⟩ := List.getElem?_eq_some_iff.1 ha
  have hp := h _ (List.getElem_mem hk)
  have e0 : (bytesD l).drop (2 + k * 66) = chB l[k] ++ chsB (l.drop (k + 1)) := by
    unfold bytesD
    rw [← List.drop_drop, List.drop_left' (be2_len _), chsB_drop h k (by omega), List.drop_eq_getElem_cons hk]
    rfl
  have e1 : (bytesD l).drop (2 + k * 66 + 2) = l[k].B ++ chsB (l.drop (k + 1)) := by
    rw [← List.drop_drop, e0]
    unfold chB
    rw [List.append_assoc, List.drop_left' (be2_len _)]
  unfold keyC chOf
  rw [e0, e1]
  unfold chB
  rw [List.append_assoc, num2_be2 _ (by have := hp.1; have := this.2.1; have := hp.1.1; omega), List.take_left' hp.2]
  have := hp.1.1
  simp only [Prod.mk.injEq, and_true]
  omega
theorem back_as (h : ∀ a ∈ l, Page a) (hn : l.length < 65536) : asC (chsOf (bytesD l) (num2 (bytesD l))) l := by
  rw [back_num hn]
  refine ⟨?_, fun i a b ha hb => ?_⟩
  · apply List.ext_getElem?
    intro i
    simp only [List.getElem?_map, chsOf]
    rcases Nat.lt_or_ge i l.length with hi | hi
    · rw [List.getElem?_range hi, List.getElem?_eq_getElem hi]
      simp only [Option.map_some]
      rw [back_at h i _ (List.getElem?_eq_getElem hi)]
    · rw [List.getElem?_eq_none (by simpa using hi), List.getElem?_eq_none hi]
      rfl
  · have hi := (List.getElem?_eq_some_iff.1 hb).1
    simp [chsOf, List.getElem?_range hi] at ha
    subst ha
    have := back_at h i b hb
    exact ⟨by injection this, ((h b (List.mem_of_getElem? hb)).1.2.2).symm⟩
end
end Go.Proofs.Ytfhgnoajfipjdaa
namespace Go.Proofs.Ytfhgnoajfipjdaa
open Go.RowKit
/-- What Read answers. -/
def ReadRPost (l : List UInt8) (w : World) (e : Ending) (w' : World) : Prop :=
  (isRoot l ∧ e = .returned (.tuple #[rootV (getI l 4 : Nat) (getI l 8 : Nat) (getI l 12 : Nat), .bool true]) ∧ Chg [] w w') ∨
  (¬ isRoot l ∧ e = .returned (.tuple #[rootV 0 0 0, .bool false]) ∧ Chg [] w w')
/-- A root that is stored whole into a block of the call's own. -/
theorem root_set {w W : World} {g : Nat} {x y z : Value} (hc : Chg [] w W) (hg : w.heap.size ≤ g) (h : Whole W g 89 [x, y, z]) (a b c : Value) :
    Whole (((W.setCell ⟨g, 0, none⟩ a).setCell ⟨g, 1, none⟩ b).setCell ⟨g, 2, none⟩ c) g 89 [a, b, c] ∧ Chg [] w (((W.setCell ⟨g, 0, none⟩ a).setCell ⟨g, 1, none⟩ b).setCell ⟨g, 2, none⟩ c) := by
  have hx : ∀ o : Nat, (⟨g, o, none⟩ : Addr).block < w.heap.size → (⟨g, o, none⟩ : Addr).block ∈ ([] : List Nat) := fun o h => absurd h (by simp only; omega)
  exact ⟨((h.set_ 0 a).set_ 1 b).set_ 2 c, ((hc.setCell (hx 0) _).setCell (hx 1) _).setCell (hx 2) _⟩
section
variable {w : World} {A : Option Addr} {n c : Nat} {l : List UInt8}
set_option maxHeartbeats 4000000 in
set_option maxRecDepth 100000 in
theorem rootread_any (h : Bs w A n c l) : Calls Try.prog 108 #[.slice A n c] w (ReadRPost l w) := by
  have H := Lib.hid h
  have h4 := getI_lt l 4
  have h8 := getI_lt l 8
  have h12 := getI_lt l 12
  clear h
  go_enter Try.func108, Try.ntmps108
  go_wp2_with fail
  have hc1 : Chg [] w (w.alloc (.cells #[.int .i64 0, .int .i64 0, .int .u32 0] 89)) := (Chg.refl [] w).alloc _
  have hR := Whole.new w 89 [.int .i64 0, .int .i64 0, .int .u32 0]
  obtain ⟨g, hg⟩ : ∃ g, g = w.heap.size := ⟨_, rfl⟩
  rw [← hg] at hR ⊢
  generalize w.alloc (.cells #[.int .i64 0, .int .i64 0, .int .u32 0] 89) = w1 at hc1 hR ⊢
  have hwg : w.heap.size ≤ g := by omega
  clear hg
  refine (get_b (H.out.keep hc1) 4 (by omega)).mono ?_
  rintro e w' ⟨rfl, rfl⟩
  go_wp2_with fail
  refine (get_b (H.out.keep hc1) 8 (by omega)).mono ?_
  rintro e w' ⟨rfl, rfl⟩
  have HC1 := Lib.hid hc1
  have HR := Lib.hid hR
  by_cases hab : 2147483647 < getI l 4 ∨ 2147483647 < getI l 8
  · have HNO := Lib.hid (show ¬ isRoot l from fun h => by have := h.1; have := h.2.1; omega)
    obtain ⟨c0, c1, c2, f0, f1, f2⟩ := root_cells hR
    clear hR hc1
    rcases hab with ha | ha
    · have hd : decide ((2147483647 : Int) < ((getI l 4 : Nat) : Int)) = true := by simp; omega
      go_wp2_with fail
      obtain ⟨hS, hCS⟩ := root_set HC1.out hwg HR.out (.int .i64 0) (.int .i64 0) (.int .u32 0)
      generalize ((w1.setCell ⟨g, 0, none⟩ (.int .i64 0)).setCell ⟨g, 1, none⟩ (.int .i64 0)).setCell ⟨g, 2, none⟩ (.int .u32 0) = w9 at hS hCS ⊢
      obtain ⟨k0, k1, k2, _, _, _⟩ := root_cells hS
      exact bodyPost_ret (v := .tuple #[rootV 0 0 0, .bool false]) (by simp [results, Try.results108, go_sem, rootV, k0, k1, k2]) rfl (.inr ⟨HNO.out, rfl, hCS⟩)
    · by_cases ha4 : 2147483647 < getI l 4
      · have hd : decide ((2147483647 : Int) < ((getI l 4 : Nat) : Int)) = true := by simp; omega
        go_wp2_with fail
        obtain ⟨hS, hCS⟩ := root_set HC1.out hwg HR.out (.int .i64 0) (.int .i64 0) (.int .u32 0)
        generalize ((w1.setCell ⟨g, 0, none⟩ (.int .i64 0)).setCell ⟨g, 1, none⟩ (.int .i64 0)).setCell ⟨g, 2, none⟩ (.int .u32 0) = w9 at hS hCS ⊢
        obtain ⟨k0, k1, k2, _, _, _⟩ := root_cells hS
        exact bodyPost_ret (v := .tuple #[rootV 0 0 0, .bool false]) (by simp [results, Try.results108, go_sem, rootV, k0, k1, k2]) rfl (.inr ⟨HNO.out, rfl, hCS⟩)
      · have hd : decide ((2147483647 : Int) < ((getI l 4 : Nat) : Int)) = false := by simp; omega
        have hd2 : decide ((2147483647 : Int) < ((getI l 8 : Nat) : Int)) = true := by simp; omega
        go_wp2_with fail
        obtain ⟨hS, hCS⟩ := root_set HC1.out hwg HR.out (.int .i64 0) (.int .i64 0) (.int .u32 0)
        generalize ((w1.setCell ⟨g, 0, none⟩ (.int .i64 0)).setCell ⟨g, 1, none⟩ (.int .i64 0)).setCell ⟨g, 2, none⟩ (.int .u32 0) = w9 at hS hCS ⊢
        obtain ⟨k0, k1, k2, _, _, _⟩ := root_cells hS
        exact bodyPost_ret (v := .tuple #[rootV 0 0 0, .bool false]) (by simp [results, Try.results108, go_sem, rootV, k0, k1, k2]) rfl (.inr ⟨HNO.out, rfl, hCS⟩)
  · have hd : decide ((2147483647 : Int) < ((getI l 4 : Nat) : Int)) = false := by simp; omega
    have hd2 : decide ((2147483647 : Int) < ((getI l 8 : Nat) : Int)) = false := by simp; omega
    have hle4 : getI l 4 ≤ 2147483647 := by omega
    have hle8 : getI l 8 ≤ 2147483647 := by omega
    have HI := Lib.hid (show isRoot l ↔ l = rootL (getI l 4) (getI l 8) (getI l 12) from ⟨fun h => h.2.2, fun h => ⟨hle4, hle8, h⟩⟩)
    have m4 : IntKind.i64.wrap ((getI l 4 : Nat) : Int) = ((getI l 4 : Nat) : Int) := IntWalk.i64_in _ (by omega)
    have m8 : IntKind.i64.wrap ((getI l 8 : Nat) : Int) = ((getI l 8 : Nat) : Int) := IntWalk.i64_in _ (by omega)
    clear hab
    generalize hq4 : getI l 4 = a at *
    generalize hq8 : getI l 8 = b at *
    generalize hq12 : getI l 12 = d at *
    have HQ := Lib.hid (And.intro hq4 (And.intro hq8 hq12))
    clear hq4 hq8 hq12 hR hc1
    go_wp2_with fail
    refine (get_b (H.out.keep HC1.out) 12 (by omega)).mono ?_
    rintro e w' ⟨rfl, rfl⟩
    rw [HQ.out.2.2]
    go_wp2_with fail
    have hN := Whole.new w1 89 [.int .i64 (a : Int), .int .i64 (b : Int), .int .u32 (d : Int)]
    have hc2 : Chg [] w (w1.alloc (.cells #[.int .i64 (a : Int), .int .i64 (b : Int), .int .u32 (d : Int)] 89)) := HC1.out.alloc _
    have hR2 := HR.out.keep ((Chg.refl [] w1).alloc (.cells #[.int .i64 (a : Int), .int .i64 (b : Int), .int .u32 (d : Int)] 89))
    generalize w1.alloc (.cells #[.int .i64 (a : Int), .int .i64 (b : Int), .int .u32 (d : Int)] 89) = w2 at hN hc2 hR2 ⊢
    generalize w1.heap.size = g6 at hN ⊢
    refine (rootbytes_any a b d hle4 hle8 h12).mono ?_
    rintro e w3 ⟨v3, rfl, ho3, hc3⟩
    obtain ⟨A3, c3, rfl, hB3, _⟩ := Bs.of_own ho3
    rw [rootL_len] at hB3 ⊢
    have HC3 := Lib.hid (hc2.new hc3)
    have HR3 := Lib.hid (hR2.keep hc3)
    have hN3 := hN.keep hc3
    have HB3 := Lib.hid hB3
    clear hN hc2 hR2 ho3 hc3 hB3
    go_wp2_with fail
    refine (bequal_any (H.out.keep HC3.out) HB3.out).mono ?_
    rintro e w' ⟨rfl, rfl⟩
    obtain ⟨c0, c1, c2, f0, f1, f2⟩ := root_cells HR3.out
    obtain ⟨e0, e1, e2, _, _, _⟩ := root_cells hN3
    clear hN3
    by_cases hl : l = rootL a b d
    · have HYES := Lib.hid (HI.out.2 hl)
      have hdl : decide (l = rootL a b d) = true := by simpa using hl
      rw [hdl]
      clear hdl hl
      go_wp2_with fail
      obtain ⟨hS, hCS⟩ := root_set HC3.out hwg HR3.out (.int .i64 (a : Int)) (.int .i64 (b : Int)) (.int .u32 (d : Int))
      generalize ((w3.setCell ⟨g, 0, none⟩ (.int .i64 (a : Int))).setCell ⟨g, 1, none⟩ (.int .i64 (b : Int))).setCell ⟨g, 2, none⟩ (.int .u32 (d : Int)) = w9 at hS hCS ⊢
      obtain ⟨k0, k1, k2, _, _, _⟩ := root_cells hS
      exact bodyPost_ret (v := .tuple #[rootV a b d, .bool true]) (by simp [results, Try.results108, go_sem, rootV, k0, k1, k2]) rfl (.inl ⟨HYES.out, by rw [HQ.out.1, HQ.out.2.1, HQ.out.2.2], hCS⟩)
    · have HNO := Lib.hid (fun h => hl (HI.out.1 h))
      have hdl : decide (l = rootL a b d) = false := by simpa using hl
      rw [hdl]
      clear hdl hl
      go_wp2_with fail
      obtain ⟨hS, hCS⟩ := root_set HC3.out hwg HR3.out (.int .i64 0) (.int .i64 0) (.int .u32 0)
      generalize ((w3.setCell ⟨g, 0, none⟩ (.int .i64 0)).setCell ⟨g, 1, none⟩ (.int .i64 0)).setCell ⟨g, 2, none⟩ (.int .u32 0) = w9 at hS hCS ⊢
      obtain ⟨k0, k1, k2, _, _, _⟩ := root_cells hS
      exact bodyPost_ret (v := .tuple #[rootV 0 0 0, .bool false]) (by simp [results, Try.results108, go_sem, rootV, k0, k1, k2]) rfl (.inr ⟨HNO.out, rfl, hCS⟩)
end
end Go.Proofs.Ytfhgnoajfipjdaa
