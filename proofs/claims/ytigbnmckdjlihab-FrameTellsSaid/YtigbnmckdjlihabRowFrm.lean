/-
  The law's row of layer 3.
-/
import Derived.Test.YtigbnmckdjlihabLawFrm
namespace Go.Proofs.Ytigbnmckdjlihab
open Go.RowKit
def rowB (ep : Nat) (ls : List (List UInt8)) : Nat → List UInt8
  | 0 => []
  | k + 1 => rowB ep ls k ++ frameL ep k ((ls.getD k []).take 40)
theorem rowB_len (ep : Nat) (ls : List (List UInt8)) (k : Nat) : (rowB ep ls k).length ≤ 56 * k := by
  induction k with
  | zero => simp [rowB]
  | succ k ih => rw [rowB, List.length_append, frameL_len, List.length_take]; omega
/-- The slices vs hold the lists ls. -/
def Lists (w : World) (vs : List Value) (ls : List (List UInt8)) : Prop :=
  vs.length = ls.length ∧ ∀ (i : Nat) (v : Value) (X : List UInt8), vs[i]? = some v → ls[i]? = some X → ∃ A n c, v = .slice A n c ∧ Bs w A n c X
theorem Lists.keep {w w' : World} {vs : List Value} {ls : List (List UInt8)} (h : Lists w vs ls) (hc : Chg [] w w') : Lists w' vs ls :=
  ⟨h.1, fun i v X hv hX => by obtain ⟨A, n, c, e, hB⟩ := h.2 i v X hv hX; exact ⟨A, n, c, e, hB.keep hc⟩⟩
section
variable {w : World} {A : Option Addr} {n c : Nat} {vs : List Value} {ls : List (List UInt8)}
set_option maxHeartbeats 2000000 in
theorem row_any (hA : Src w A vs) (hsp : 0 < n → ∀ ad, A = some ad → ad.spot = none) (hn : vs.length = n) (hnm : n ≤ 9223372036854775807) (hL : Lists w vs ls) (ep : Nat) (he : ep < 4294967296) :
    Calls Try.prog 11 #[.int .u32 (ep : Int), .slice A n c] w (BytesPost w (rowB ep ls (min n 6))) := by
  obtain ⟨i0, hi, hz, hs1, hb⟩ := info_parts info_byte
  go_enter Try.func11, Try.ntmps11
  go_wp2_with fail
  go_loopw [5, 6] (fun v i wr => ∃ k : Nat, k ≤ min n 6 ∧ i = .int .i64 (k : Int) ∧ (∃ m, Hid (m ≤ 56 * k) ∧ wr.ownsRow w.heap.size 5 1 v m (bts (rowB ep ls k))) ∧ Chg [] w wr) (fun _ i _ => 6 - (intOf i).toNat)
  case atStart => exact ⟨0, by omega, rfl, ⟨0, Lib.hid (by omega), own_nil _ _ _⟩, Chg.refl _ _⟩
  case round =>
    obtain ⟨k, hk, rfl, ⟨m, HM, hown⟩, hcr⟩ := hrel
    have hkn : k ≤ n := by omega
    have hk6 : k ≤ 6 := by omega
    clear hk
    obtain ⟨Av, cv, rfl, hBv, _⟩ := Bs.of_own hown
    by_cases hlt : k < n ∧ k < 6
    · have hl1 : (k : Int) < (n : Int) := by omega
      have hl2 : (k : Int) < 6 := by omega
      have hm336 : m ≤ 336 := by have := HM.out; omega
      have e32 : (k : Int) % 4294967296 = (k : Int) := by omega
      obtain ⟨⟨b3, o3, s3⟩, rfl, _, hx3⟩ := (hA.keep hcr) (by omega)
      obtain rfl : s3 = none := hsp (by omega) _ rfl
      obtain ⟨x, hx⟩ : ∃ x, vs[k]? = some x := ⟨_, List.getElem?_eq_getElem (by omega)⟩
      obtain ⟨X, hX⟩ : ∃ X, ls[k]? = some X := ⟨_, List.getElem?_eq_getElem (by have := hL.1; omega)⟩
      obtain ⟨A5, n5, c5, rfl, hB5⟩ := hL.2 k x X hx hX
      have ck := hx3 k _ hx
      rw [add_plain] at ck
      have hBr := hB5.keep hcr
      have hA5 := add0 A5
      clear hx3 hx
      by_cases h40 : 40 < n5
      · have hb1 : (40 : Int) < (n5 : Int) := by omega
        have hcc : ¬ c5 < 40 := by have := hBr.cap; omega
        have hB40 := hBr.take (m := 40) (by omega)
        have hXk : (ls.getD k []).take 40 = X.take 40 := by rw [List.getD_eq_getElem?_getD, hX]; rfl
        have HXK := Lib.hid hXk
        clear hXk
        go_wp2_with fail
        refine (rframe_any hB40 ep k he (by omega) (by omega)).mono ?_
        rintro e w2 ⟨v2, rfl, ho2, hc2⟩
        obtain ⟨A2, c2, rfl, hB2, _⟩ := Bs.of_own ho2
        have hfl : (frameL ep k (X.take 40)).length ≤ 56 := by rw [frameL_len, hB40.len]; omega
        have how := own_keep hown hc2
        have hx1 := Lib.hid (show m + (frameL ep k (X.take 40)).length ≤ maxLen by unfold maxLen; omega)
        have hx2 := Lib.hid (show (m + (frameL ep k (X.take 40)).length) * 1 ≤ 140737488355328 by omega)
        have hx3 := Lib.hid (show w.heap.size ≤ w2.heap.size from Nat.le_trans hcr.size hc2.size)
        have hnx := Lib.hid (show rowB ep ls (k + 1) = rowB ep ls k ++ frameL ep k (X.take 40) by rw [rowB, HXK.out])
        have HFL := Lib.hid hfl
        clear hfl
        go_wp2_with (at_builtin
                     refine wpList_append_src rfl (.tmp 27) (.tmp 32) 23 rfl w.heap.size 5 i0 _ 1 Try.underlying23 hi hz hs1 hb cells_u8 (.slice Av m cv) m (bts (rowB ep ls k)) rfl how A2 (frameL ep k (X.take 40)).length c2 (bts (frameL ep k (X.take 40))) rfl (bts_len _) hB2.src (bts_one _) hx1.out hx2.out hx3.out ?_
                     intro v4 w4 ho4 hg4 _
                     have hc4 : Chg [] w w4 := (hcr.new hc2).own how (Nat.le_refl _) hg4
                     clear hg4
                     rw [← bts_app, ← hnx.out] at ho4)
        go_roundw
        case rel => exact ⟨k + 1, by omega, by go_num, ⟨_, Lib.hid (by have h1 := HM.out; have h2 := HFL.out; omega), ho4⟩, hc4⟩
        case measure => simp [intOf]; omega
      · have hb1 : ¬ (40 : Int) < (n5 : Int) := by omega
        have hB40 := hBr
        have hXk : (ls.getD k []).take 40 = X := by rw [List.getD_eq_getElem?_getD, hX]; show X.take 40 = X; exact List.take_of_length_le (by rw [hB5.len]; omega)
        have HXK := Lib.hid hXk
        clear hXk
        go_wp2_with fail
        refine (rframe_any hB40 ep k he (by omega) (by omega)).mono ?_
        rintro e w2 ⟨v2, rfl, ho2, hc2⟩
        obtain ⟨A2, c2, rfl, hB2, _⟩ := Bs.of_own ho2
        have hfl : (frameL ep k (X)).length ≤ 56 := by rw [frameL_len, hB40.len]; omega
        have how := own_keep hown hc2
        have hx1 := Lib.hid (show m + (frameL ep k (X)).length ≤ maxLen by unfold maxLen; omega)
        have hx2 := Lib.hid (show (m + (frameL ep k (X)).length) * 1 ≤ 140737488355328 by omega)
        have hx3 := Lib.hid (show w.heap.size ≤ w2.heap.size from Nat.le_trans hcr.size hc2.size)
        have hnx := Lib.hid (show rowB ep ls (k + 1) = rowB ep ls k ++ frameL ep k (X) by rw [rowB, HXK.out])
        have HFL := Lib.hid hfl
        clear hfl
        go_wp2_with (at_builtin
                     refine wpList_append_src rfl (.tmp 27) (.tmp 32) 23 rfl w.heap.size 5 i0 _ 1 Try.underlying23 hi hz hs1 hb cells_u8 (.slice Av m cv) m (bts (rowB ep ls k)) rfl how A2 (frameL ep k (X)).length c2 (bts (frameL ep k (X))) rfl (bts_len _) hB2.src (bts_one _) hx1.out hx2.out hx3.out ?_
                     intro v4 w4 ho4 hg4 _
                     have hc4 : Chg [] w w4 := (hcr.new hc2).own how (Nat.le_refl _) hg4
                     clear hg4
                     rw [← bts_app, ← hnx.out] at ho4)
        go_roundw
        case rel => exact ⟨k + 1, by omega, by go_num, ⟨_, Lib.hid (by have h1 := HM.out; have h2 := HFL.out; omega), ho4⟩, hc4⟩
        case measure => simp [intOf]; omega
    · have hkm : k = min n 6 := by omega
      have HK := Lib.hid hkm
      clear hkm
      rcases Nat.lt_or_ge k n with hkn2 | hkn2
      · obtain rfl : k = 6 := by omega
        have hl1 : (6 : Int) < (n : Int) := by omega
        go_wp2_with fail
        go_ret
        rw [← HK.out]
        exact ⟨_, rfl, by have := hBv.len; rw [this]; exact hown, hcr⟩
      · obtain rfl : k = n := by omega
        go_wp2_with fail
        go_ret
        rw [← HK.out]
        exact ⟨_, rfl, by have := hBv.len; rw [this]; exact hown, hcr⟩
end
end Go.Proofs.Ytigbnmckdjlihab
