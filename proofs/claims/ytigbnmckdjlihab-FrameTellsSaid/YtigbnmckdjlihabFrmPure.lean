/-
  Frames as lists of bytes: what is read of one; cut short, of another epoch or number, with a byte turned.
-/
import Derived.Test.YtigbnmckdjlihabFrmScan
namespace Go.Proofs.Ytigbnmckdjlihab
open Go.RowKit

theorem numB_of_be4 (k : Nat) (hk : k < 4294967296) : numB (be4 k) = k := by
  simp only [numB, be4, List.foldl_cons, List.foldl_nil, UInt8.toNat_ofNat']
  omega
theorem be4_of_numB (l : List UInt8) (h : l.length = 4) : be4 (numB l) = l := by
  match l, h with
  | [a, b, c, d], _ =>
    have h1 := a.toNat_lt
    have h2 := b.toNat_lt
    have h3 := c.toNat_lt
    have h4 := d.toNat_lt
    simp only [numB, List.foldl_cons, List.foldl_nil, be4, List.cons.injEq, and_true]
    refine ⟨?_, ?_, ?_, ?_⟩ <;> apply UInt8.toNat_inj.1 <;> rw [UInt8.toNat_ofNat'] <;> omega
theorem getI_put (l m : List UInt8) (k : Nat) (hk : k < 4294967296) (i : Int) (hi : i = l.length) : getI (l ++ (be4 k ++ m)) i = k := by
  subst hi
  unfold getI
  rw [if_pos ⟨by omega, by simp only [List.length_append, be4_len]; omega⟩, Int.toNat_natCast, List.drop_left, List.take_left' (be4_len k), numB_of_be4 k hk]
theorem getI_is {l : List UInt8} {i : Nat} (h : i + 4 ≤ l.length) : getI l (i : Int) = numB ((l.drop i).take 4) := by
  unfold getI
  rw [if_pos ⟨by omega, by omega⟩, Int.toNat_natCast]
theorem getI_take {l : List UInt8} {i k : Nat} (h : i + 4 ≤ k) (hk : k ≤ l.length) : getI (l.take k) (i : Int) = getI l (i : Int) := by
  rw [getI_is (by rw [List.length_take]; omega), getI_is (by omega), List.drop_take, List.take_take, Nat.min_eq_left (by omega)]
theorem getI_same {l m : List UInt8} {i : Nat} (hl : i + 4 ≤ l.length) (hm : i + 4 ≤ m.length) (h : getI l (i : Int) = getI m (i : Int)) (k : Nat) (h1 : i ≤ k) (h2 : k < i + 4) : l[k]? = m[k]? := by
  rw [getI_is hl, getI_is hm] at h
  have h3 := congrArg be4 h
  rw [be4_of_numB _ (by rw [List.length_take, List.length_drop]; omega), be4_of_numB _ (by rw [List.length_take, List.length_drop]; omega)] at h3
  have h4 := congrArg (fun x : List UInt8 => x[k - i]?) h3
  simp only [List.getElem?_take, List.getElem?_drop] at h4
  rw [if_pos (by omega), if_pos (by omega), show i + (k - i) = k by omega] at h4
  exact h4
theorem getI_set {l : List UInt8} {i k : Nat} {d : UInt8} (h : i + 4 ≤ l.length) (hk : k < i ∨ i + 4 ≤ k) : getI (l.set k d) (i : Int) = getI l (i : Int) := by
  rw [getI_is (by rw [List.length_set]; exact h), getI_is h]
  congr 1
  apply List.ext_getElem?
  intro j
  simp only [List.getElem?_take, List.getElem?_drop]
  split
  · rw [List.getElem?_set_ne (by omega)]
  · rfl

section
variable (ep sq : Nat) (r m : List UInt8)
theorem frame_head (he : ep < 4294967296) (hs : sq < 4294967296) (hr : r.length < 4294967296) :
    getI (frameL ep sq r ++ m) ((0 : Nat) : Int) = ep ∧ getI (frameL ep sq r ++ m) ((4 : Nat) : Int) = sq ∧ getI (frameL ep sq r ++ m) ((8 : Nat) : Int) = r.length ∧
    getI (frameL ep sq r ++ m) ((12 + r.length : Nat) : Int) = sumK (headL ep sq r) ∧ (frameL ep sq r ++ m).take (12 + r.length) = headL ep sq r := by
  have hm : r.length % 4294967296 = r.length := Nat.mod_eq_of_lt hr
  refine ⟨?_, ?_, ?_, ?_, ?_⟩
  · have e : frameL ep sq r ++ m = [] ++ (be4 ep ++ (be4 sq ++ be4 (r.length % 4294967296) ++ r ++ be4 (sumK (headL ep sq r)) ++ m)) := by
      simp only [frameL, headL, List.append_assoc, List.nil_append]
    rw [e]; exact getI_put _ _ ep he _ rfl
  · have e : frameL ep sq r ++ m = be4 ep ++ (be4 sq ++ (be4 (r.length % 4294967296) ++ r ++ be4 (sumK (headL ep sq r)) ++ m)) := by
      simp only [frameL, headL, List.append_assoc]
    rw [e]; exact getI_put _ _ sq hs _ rfl
  · have e : frameL ep sq r ++ m = (be4 ep ++ be4 sq) ++ (be4 (r.length % 4294967296) ++ (r ++ be4 (sumK (headL ep sq r)) ++ m)) := by
      simp only [frameL, headL, List.append_assoc]
    rw [e, hm]; exact getI_put _ _ _ hr _ rfl
  · have e : frameL ep sq r ++ m = headL ep sq r ++ (be4 (sumK (headL ep sq r)) ++ m) := by
      simp only [frameL, List.append_assoc]
    rw [e]; exact getI_put _ _ _ (sumK_lt _) _ (by rw [headL_len])
  · have e : frameL ep sq r ++ m = headL ep sq r ++ (be4 (sumK (headL ep sq r)) ++ m) := by
      simp only [frameL, List.append_assoc]
    rw [e]; exact List.take_left' (headL_len _ _ _)
theorem frame_ok (he : ep < 4294967296) (hs : sq < 4294967296) (hr : r.length < 4294967296) : readOk (frameL ep sq r ++ m) ep sq := by
  obtain ⟨h0, h4, h8, h12, ht⟩ := frame_head ep sq r m he hs hr
  have e8 : getI (frameL ep sq r ++ m) 8 = r.length := h8
  refine ⟨by rw [List.length_append, frameL_len]; omega, h0, h4, ?_, ?_⟩
  · rw [e8, List.length_append, frameL_len]; omega
  · rw [e8, h12, ht]
theorem frame_len (he : ep < 4294967296) (hs : sq < 4294967296) (hr : r.length < 4294967296) : getI (frameL ep sq r ++ m) 8 = r.length := (frame_head ep sq r m he hs hr).2.2.1
theorem frame_rec (he : ep < 4294967296) (hs : sq < 4294967296) (hr : r.length < 4294967296) : recL (frameL ep sq r ++ m) = r := by
  unfold recL
  rw [frame_len ep sq r m he hs hr]
  have e : frameL ep sq r ++ m = (be4 ep ++ be4 sq ++ be4 (r.length % 4294967296)) ++ (r ++ (be4 (sumK (headL ep sq r)) ++ m)) := by
    simp only [frameL, headL, List.append_assoc]
  rw [e, List.drop_left' (by simp only [List.length_append, be4_len]), List.take_left' rfl]
theorem frame_short (he : ep < 4294967296) (hs : sq < 4294967296) (hr : r.length < 4294967296) (k : Nat) (hk : k < (frameL ep sq r).length) (ep' sq' : Nat) : ¬ readOk ((frameL ep sq r).take k) ep' sq' := by
  intro h
  have hl := frameL_len ep sq r
  have h16 := h.1
  rw [List.length_take] at h16
  have h8 := h.2.2.2.1
  have e : getI ((frameL ep sq r).take k) 8 = r.length := by
    have e1 := getI_take (l := frameL ep sq r) (i := 8) (k := k) (by omega) (by omega)
    have e2 := frame_len ep sq r [] he hs hr
    rw [List.append_nil] at e2
    exact e1.trans e2
  rw [e, List.length_take] at h8
  omega
theorem frame_other (he : ep < 4294967296) (hs : sq < 4294967296) (hr : r.length < 4294967296) (ep' sq' : Nat) (hne : ep ≠ ep' ∨ sq ≠ sq') : ¬ readOk (frameL ep sq r ++ m) ep' sq' := by
  intro h
  obtain ⟨h0, h4, _⟩ := frame_head ep sq r m he hs hr
  rcases hne with hn | hn
  · exact hn (h0.symm.trans h.2.1)
  · exact hn (h4.symm.trans h.2.2.1)
theorem sumK_turn (l : List UInt8) (k : Nat) (hk : k < l.length) (d : UInt8) (hd : d ≠ l[k]) : sumK (l.set k d) ≠ sumK l := by
  intro h
  have := sum_turn l k hk d hd
  rw [sumL_K, sumL_K, h] at this
  exact this rfl
theorem frame_turned (he : ep < 4294967296) (hs : sq < 4294967296) (hr : r.length < 4294967296) (k : Nat) (hk : k < (frameL ep sq r).length) (h8 : ¬ (8 ≤ k ∧ k < 12)) (d : UInt8) (hd : d ≠ (frameL ep sq r)[k]) : ¬ readOk ((frameL ep sq r).set k d) ep sq := by
  intro h
  obtain ⟨f0, f4, f8, f12, ft⟩ := frame_head ep sq r [] he hs hr
  simp only [List.append_nil] at f0 f4 f8 f12 ft
  have hl := frameL_len ep sq r
  generalize frameL ep sq r = f at *
  have hne : (f.set k d)[k]? ≠ f[k]? := by
    rw [List.getElem?_set_self hk, List.getElem?_eq_getElem hk]
    intro hc
    injection hc with hc
    exact hd hc
  have hls : (f.set k d).length = f.length := List.length_set
  rcases Nat.lt_or_ge k 4 with h4 | h4
  · exact hne (getI_same (i := 0) (by omega) (by omega) (h.2.1.trans f0.symm) k (by omega) (by omega))
  rcases Nat.lt_or_ge k 8 with h5 | h5
  · exact hne (getI_same (i := 4) (by omega) (by omega) (h.2.2.1.trans f4.symm) k (by omega) (by omega))
  have g8 : getI (f.set k d) 8 = r.length := (getI_set (i := 8) (by omega) (by omega)).trans f8
  have hsum := h.2.2.2.2
  rw [g8] at hsum
  rcases Nat.lt_or_ge k (12 + r.length) with h6 | h6
  · have g12 : getI (f.set k d) ((12 + r.length : Nat) : Int) = getI f ((12 + r.length : Nat) : Int) := getI_set (by omega) (by omega)
    rw [g12, f12, List.take_set, ← ft] at hsum
    exact sumK_turn (f.take (12 + r.length)) k (by rw [List.length_take]; omega) d (by rw [List.getElem_take]; exact hd) hsum.symm
  · rw [List.take_set_of_le (by omega), ft] at hsum
    exact hne (getI_same (i := 12 + r.length) (by omega) (by omega) (hsum.trans f12.symm) k h6 (by omega))
end
end Go.Proofs.Ytigbnmckdjlihab
