/-
  Lists alone: the state that DiskKeeps comes to.
-/
import Derived.Test.YtigbnmckdjlihaaPure
import Derived.Test.YtigbnmckdjlihaaKnown
namespace Go.Proofs.Ytigbnmckdjlihaa

/-- Behind the two writes and the Flush, one write more, and the crash. -/
def kp2 (x : List UInt8) : St := ((St.new 4).write 0 x).write 1 x
def kp3 (x : List UInt8) : St := ⟨(kp2 x).S, (kp2 x).S, falses 4⟩
def kp4 (x y : List UInt8) (k : Nat) : St := (kp3 x).write k y
def kp5 (x y : List UInt8) (k cut : Nat) : St := (kp4 x y k).settle k cut
/-- What is to be told of sector j. -/
def kwas (x : List UInt8) (j : Nat) : List UInt8 := if j < 2 then x else zeros 64
def kwant (x y : List UInt8) (k n j : Nat) : List UInt8 := if j = k then y.take n ++ (kwas x j).drop n else kwas x j

theorem zeros_get (n i : Nat) : (zeros n)[i]? = if i < n then some 0 else none := by
  unfold zeros
  rw [List.getElem?_replicate]

section
variable {x y : List UInt8} {k n j : Nat}
theorem kp2_sizes (hx : x.length = 64) : (kp2 x).V.length = 4 ∧ (kp2 x).L.length = 256 ∧ (kp2 x).S.length = 256 := by
  refine ⟨rfl, zeros_len 256, ?_⟩
  simp only [kp2, St.write, St.new]
  rw [length_splice, length_splice, zeros_len]
  · rw [zeros_len]; omega
  · rw [length_splice, zeros_len]
    · omega
    · rw [zeros_len]; omega
theorem kp2_flush (hx : x.length = 64) : (kp2 x).flush (kp2 x).V.length = kp3 x := by
  obtain ⟨h1, h2, h3⟩ := kp2_sizes hx
  exact flush_all h1 h2 h3
theorem kp2_get (hx : x.length = 64) (i : Nat) : (kp2 x).S[i]? = if i < 64 then x[i]? else if i < 128 then x[i - 64]? else if i < 256 then some 0 else none := by
  simp only [kp2, St.write, St.new]
  have hz : (zeros (4 * 64)).length = 256 := zeros_len _
  have h0 : (splice (zeros (4 * 64)) (0 * 64) x).length = 256 := by rw [length_splice _ _ _ (by omega), hz]
  rw [splice_get _ _ _ (by omega), splice_get _ _ _ (by omega), hx]
  have hzg : (zeros (4 * 64))[i]? = if i < 256 then some 0 else none := zeros_get 256 i
  rw [hzg]
  have e0 : ¬ i < 0 * 64 := by omega
  by_cases h1 : i < 64
  · have e1 : i < 1 * 64 := by omega
    have e2 : i < 0 * 64 + 64 := by omega
    rw [if_pos e1, if_neg e0, if_pos e2, if_pos h1]; rfl
  · have e1 : ¬ i < 1 * 64 := by omega
    rw [if_neg e1, if_neg h1]
    by_cases h2 : i < 128
    · have e3 : i < 1 * 64 + 64 := by omega
      rw [if_pos e3, if_pos h2, if_neg h1]
    · have e3 : ¬ i < 1 * 64 + 64 := by omega
      have e4 : ¬ i < 0 * 64 + 64 := by omega
      rw [if_neg e3, if_neg e0, if_neg e4, if_neg h2]
theorem kp4_wl (hk : k < 4) : wl (kp4 x y k).V (kp4 x y k).V.length = [k] := by
  show wl ((falses 4).set k true) ((falses 4).set k true).length = [k]
  match k, hk with
  | 0, _ => rfl
  | 1, _ => rfl
  | 2, _ => rfl
  | 3, _ => rfl
theorem kp4_crash (cuts : List Int) : (kp4 x y k).crash [k] cuts 1 = kp5 x y k (cutAt cuts 0) := rfl
theorem kp3_sane (hx : x.length = 64) : Sane (kp3 x) 4 := by
  obtain ⟨_, _, h3⟩ := kp2_sizes hx
  exact ⟨rfl, h3, h3, fun _ _ _ _ _ => rfl⟩
theorem kp5_sane (hx : x.length = 64) (hy : y.length = 64) (hk : k < 4) (hn : n ≤ 64) : Sane (kp5 x y k n) 4 := ((kp3_sane hx).write hk hy).settle hk hn
theorem kp5_V (hk : k < 4) : (kp5 x y k n).V = falses 4 := by
  show (((falses 4).set k true).set k false) = falses 4
  match k, hk with
  | 0, _ => rfl
  | 1, _ => rfl
  | 2, _ => rfl
  | 3, _ => rfl
theorem kp5_same (hx : x.length = 64) (hy : y.length = 64) (hk : k < 4) (hn : n ≤ 64) : (kp5 x y k n).L = (kp5 x y k n).S := by
  refine (kp5_sane hx hy hk hn).same fun j hj => ?_
  rw [kp5_V hk]
  unfold falses
  rw [List.getElem?_replicate, if_pos hj]
theorem kwas_len (hx : x.length = 64) : (kwas x j).length = 64 := by
  unfold kwas
  split
  · exact hx
  · exact zeros_len 64
theorem kp2_sec (hx : x.length = 64) (hj : j < 4) (i : Nat) (hi : i < 64) : (kp2 x).S[j * 64 + i]? = (kwas x j)[i]? := by
  rw [kp2_get hx]
  unfold kwas
  by_cases h0 : j = 0
  · subst h0
    have e1 : 0 * 64 + i < 64 := by omega
    rw [if_pos e1, if_pos (by omega)]
    congr 1; omega
  · by_cases h1 : j = 1
    · subst h1
      have e1 : ¬ 1 * 64 + i < 64 := by omega
      have e2 : 1 * 64 + i < 128 := by omega
      rw [if_neg e1, if_pos e2, if_pos (by omega)]
      congr 1; omega
    · have e1 : ¬ j * 64 + i < 64 := by omega
      have e2 : ¬ j * 64 + i < 128 := by omega
      have e3 : j * 64 + i < 256 := by omega
      have e4 : ¬ j < 2 := by omega
      rw [if_neg e1, if_neg e2, if_pos e3, if_neg e4, zeros_get, if_pos hi]
theorem kp5_sec (hx : x.length = 64) (hy : y.length = 64) (hk : k < 4) (hn : n ≤ 64) (hj : j < 4) : (((kp5 x y k n).S.drop (j * 64)).take 64) = kwant x y k n j := by
  obtain ⟨_, _, h3⟩ := kp2_sizes hx
  have hs : k * 64 + y.length ≤ (kp2 x).S.length := by omega
  have hl4 : (kp4 x y k).S.length = 256 := by show (splice (kp2 x).S (k * 64) y).length = 256; rw [length_splice _ _ _ hs, h3]
  have hl3 : (kp4 x y k).L.length = 256 := h3
  have hw := kwas_len (x := x) (j := j) hx
  apply List.ext_getElem?
  intro i
  rw [cut_get]
  by_cases hi : i < 64
  · rw [if_pos hi]
    show (setS (kp4 x y k).L (kp4 x y k).S k n)[_]? = _
    rw [setS_get (by omega) (by omega) hn]
    show (if _ then (kp2 x).S[_]? else (splice (kp2 x).S (k * 64) y)[_]?) = _
    rw [splice_get _ _ _ hs, hy]
    unfold kwant
    by_cases hjk : j = k
    · subst hjk
      rw [if_pos rfl]
      by_cases hin : i < n
      · rw [if_neg (by omega), if_neg (by omega), if_pos (by omega), List.getElem?_append_left (by rw [List.length_take]; omega), List.getElem?_take_of_lt hin]
        congr 1
        omega
      · rw [if_pos (by omega), kp2_sec hx hj i hi, List.getElem?_append_right (by rw [List.length_take]; omega), List.getElem?_drop, List.length_take]
        congr 1
        omega
    · rw [if_neg hjk]
      have hne : j < k ∨ k < j := by omega
      rcases hne with hlt | hlt
      · rw [if_neg (by omega), if_pos (by omega), kp2_sec hx hj i hi]
      · rw [if_neg (by omega), if_neg (by omega), if_neg (by omega), kp2_sec hx hj i hi]
  · rw [if_neg hi, List.getElem?_eq_none]
    unfold kwant
    split
    · rw [List.length_append, List.length_take, List.length_drop, hw]; omega
    · omega
end
end Go.Proofs.Ytigbnmckdjlihaa
