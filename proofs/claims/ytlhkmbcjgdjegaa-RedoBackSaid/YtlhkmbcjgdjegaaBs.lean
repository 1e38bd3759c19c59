/-
  A slice of bytes as a caller hands it over; 'string(b)' of any; cutting it.
-/
import Derived.Test.YtlhkmbcjgdjegaaOwn
import Derived.Test.YtlhkmbcjgdjegaaRead
import Derived.Laws.BytesArg
namespace Go.Proofs.Ytlhkmbcjgdjegaa
open Go.RowKit

/-- The slice value '.slice A n c' is the bytes l. -/
structure Bs (w : World) (A : Option Addr) (n c : Nat) (l : List UInt8) : Prop where
  len : l.length = n
  src : Src w A (bts l)
  cap : n ≤ c
  max : c ≤ 9223372036854775807
  spot : 0 < n → ∀ ad, A = some ad → ad.spot = none

section
variable {w w' : World} {A : Option Addr} {n c : Nat} {l : List UInt8}
theorem Bs.keep (h : Bs w A n c l) (hc : Chg [] w w') : Bs w' A n c l := ⟨h.len, h.src.keep hc, h.cap, h.max, h.spot⟩
theorem Bs.drew (h : Bs w A n c l) : Bs w.drew A n c l := ⟨h.len, h.src, h.cap, h.max, h.spot⟩
theorem Bs.le (h : Bs w A n c l) : n ≤ 9223372036854775807 := Nat.le_trans h.cap h.max
theorem Bs.nil (w : World) : Bs w none 0 0 [] := ⟨rfl, Src.nil _ _, Nat.le_refl _, by omega, fun h => absurd h (by omega)⟩
theorem Bs.of_whole {g t cap : Nat} {cs : List Value} (h : Whole w g t cs) (hn : l.length = n) (hc : cs.take n = bts l) (hcap : n ≤ cap) (hm : cap ≤ 9223372036854775807) : Bs w (some ⟨g, 0, none⟩) n cap l := by
  refine ⟨hn, ?_, hcap, hm, fun _ ad e => by injection e with e; subst e; rfl⟩
  have := Src.of_whole h 0 n
  rwa [List.drop_zero, hc] at this
theorem Bs.of_all {g t : Nat} (h : Whole w g t (bts l)) (hm : l.length ≤ 9223372036854775807) : Bs w (some ⟨g, 0, none⟩) l.length l.length l :=
  Bs.of_whole h rfl (by rw [List.take_of_length_le (by rw [bts_len]; exact Nat.le_refl _)]) (Nat.le_refl _) hm
/-- An own row of bytes. -/
theorem Bs.of_own {B : Nat} {e : TypeId} {v : Value} (h : w.ownsRow B e 1 v n (bts l)) : ∃ A c, v = .slice A n c ∧ Bs w A n c l ∧ (∀ ad, A = some ad → ad.spot = none ∧ B ≤ ad.block ∧ ad.off = 0 ∧ ad.block < w.heap.size) := by
  obtain ⟨A, c, rfl, hl, hn, hs, hA⟩ := own_slice h
  have hm : c ≤ 9223372036854775807 := by
    rcases h.2 with ⟨h, _⟩ | ⟨g, cap, cur, h, _, _, _, hc, _⟩
    · injection h with _ _ h; omega
    · injection h with _ _ h; subst h; simpa [maxLen] using hc
  exact ⟨A, c, rfl, ⟨by rw [bts_len] at hl; exact hl, hs, hn, hm, fun _ ad e => (hA ad e).1⟩, hA⟩
theorem Bs.of_row {cap : Nat} {zs : List Int} (h : IsRow .u8 w A n cap zs) : ∃ l, Bs w A n cap l := by
  obtain ⟨l, hl, hs⟩ := row_bytes h
  have hc : n ≤ cap ∧ cap ≤ 9223372036854775807 := by
    rcases h with ⟨_, rfl, rfl, _⟩ | ⟨_, _, h1, h2, _⟩
    · exact ⟨Nat.le_refl _, by omega⟩
    · exact ⟨h1, by simpa [maxLen] using h2⟩
  exact ⟨l, hl, hs, hc.1, hc.2, fun h0 ad e => (row_spot h h0 ad e).1⟩

/-- 's[lo:hi]' keeps the model's own 'if' on the address. -/
theorem Bs.cut (h : Bs w A n c l) {lo hi : Nat} (h1 : lo ≤ hi) (h2 : hi ≤ n) : Bs w (if c = lo then A else A.map (·.add lo)) (hi - lo) (c - lo) ((l.drop lo).take (hi - lo)) := by
  have hl := h.len
  refine ⟨by rw [List.length_take, List.length_drop]; omega, fun hp => ?_, by have := h.cap; omega, by have := h.max; omega, fun h0 ad e => ?_⟩
  · have hp' : 0 < hi - lo := by rw [bts_len, List.length_take, List.length_drop] at hp; omega
    rw [if_neg (by have := h.cap; omega)]
    obtain ⟨ad, rfl, hb, hx⟩ := h.src (by rw [bts_len]; omega)
    obtain ⟨b, o, s⟩ := ad
    obtain rfl : s = none := h.spot (by omega) _ rfl
    refine ⟨_, rfl, by simp only [add_plain]; exact hb, fun j v hj => ?_⟩
    simp only [add_plain]
    have h3 := hx (lo + j) v (by
      rw [← hj]
      unfold bts
      rw [List.getElem?_map, List.getElem?_map, List.getElem?_take]
      have : j < hi - lo := by have := (List.getElem?_eq_some_iff.1 hj).1; rw [bts_len, List.length_take] at this; omega
      rw [if_pos this, List.getElem?_drop])
    rw [add_plain] at h3
    rw [← h3, Nat.add_assoc]
  · rw [if_neg (by have := h.cap; omega)] at e
    cases hA : A with
    | none => rw [hA] at e; cases e
    | some ad0 =>
      obtain ⟨b, o, s⟩ := ad0
      obtain rfl : s = none := h.spot (by omega) _ hA
      rw [hA] at e
      simp only [Option.map_some, Option.some.injEq] at e
      subst e
      rw [add_plain]

theorem run_str0 {P : Program} (src e dst : TypeId) (hs : P.underlying src = some (.slice e)) (he : P.underlying e = some (.int .u8)) (hd : P.underlying dst = some .string) (A : Option Addr) (cap : Nat) (w : World) :
    (convert src dst (.slice A 0 cap)).run P w = .ok (.string (strOf [])) w := by
  rcases A with _ | ad
  · exact run_convert_bytes_nil (P := P) w src e hs he 0 cap dst hd
  · rw [run_convert_bytes_string w src dst e _ 0 cap hs he hd]
    simp [Conv.bytesToString, strOf, go_sem]
    rfl
theorem Bs.str {P : Program} (h : Bs w A n c l) (src e dst : TypeId) (hs : P.underlying src = some (.slice e)) (he : P.underlying e = some (.int .u8)) (hd : P.underlying dst = some .string) :
    (convert src dst (.slice A n c)).run P w = .ok (.string (strOf l)) w := by
  rcases Nat.eq_zero_or_pos n with h0 | h0
  · subst h0
    obtain rfl : l = [] := List.eq_nil_of_length_eq_zero h.len
    exact run_str0 src e dst hs he hd A c w
  · have hl := h.len
    subst hl
    exact run_str src e dst hs he hd A l c w h.src (h.spot h0)
end
end Go.Proofs.Ytlhkmbcjgdjegaa
