/-
  GL: Read, Own, Bs.
-/
import Derived.Test.YtodbeeodhekpeaaDoorZGL1
import Derived.Maps.AppendAt
import Derived.OwnWalk
import Derived.Laws.BytesArg
namespace Go.Proofs.YtodbeeodhekpeaaDoor
open Go.RowKit

/-- A slice of integers that came in: nil, or a row of cells. -/
def IsRow (k : IntKind) (w : World) (a : Option Addr) (len cap : Nat) (zs : List Int) : Prop :=
  (a = none ∧ len = 0 ∧ cap = 0 ∧ zs = []) ∨
  ∃ x, a = some x ∧ len ≤ cap ∧ cap ≤ maxLen ∧ zs.length = cap ∧ (∀ i, i < zs.length → w.cell? (x.add i) = some (.int k (zs.getD i 0))) ∧ ∀ n ∈ zs, (Lit.int k n).wf = true

theorem row_src {k : IntKind} {w : World} {a : Option Addr} {len cap : Nat} {zs : List Int} (h : IsRow k w a len cap zs) : (zs.take len).length = len ∧ Src w a ((zs.take len).map (Value.int k)) ∧ ∀ n ∈ zs.take len, (Lit.int k n).wf = true := by
  rcases h with ⟨rfl, rfl, rfl, rfl⟩ | ⟨x, rfl, hlc, _, hz, hcell, hwf⟩
  · exact ⟨rfl, fun hp => absurd hp (by simp), by simp⟩
  · refine ⟨by rw [List.length_take]; omega, fun hp => ?_, fun n hn => hwf n (List.mem_of_mem_take hn)⟩
    have h0 : 0 < zs.length := by
      simp only [List.length_map, List.length_take] at hp
      omega
    have hb : (x.add 0).block = x.block := by unfold Addr.add; split <;> rfl
    refine ⟨x, rfl, by rw [← hb]; exact block_lt_of_cell (hcell 0 h0), fun j v hj => ?_⟩
    simp only [List.getElem?_map, List.getElem?_take] at hj
    split at hj
    · have hjl : j < zs.length := by omega
      rw [List.getElem?_eq_getElem hjl] at hj
      simp only [Option.map_some, Option.some.injEq] at hj
      rw [hcell j hjl, ← hj]
      simp [List.getD, hjl]
    · simp at hj

theorem row_spot {k : IntKind} {w : World} {a : Option Addr} {len cap : Nat} {zs : List Int} (h : IsRow k w a len cap zs) (h0 : 0 < len) : ∀ ad, a = some ad → ad.spot = none ∧ ad.block < w.heap.size := by
  rcases h with ⟨_, rfl, _, _⟩ | ⟨x, rfl, hlc, _, hz, hcell, _⟩
  · exact absurd h0 (by omega)
  · intro ad e
    injection e with e
    subst e
    have hc := hcell 0 (by omega)
    have hb : (x.add 0).block = x.block := by unfold Addr.add; split <;> rfl
    refine ⟨?_, by rw [← hb]; exact block_lt_of_cell hc⟩
    have h1 : x.add 0 = x := by simp [Addr.add]
    rw [h1] at hc
    cases hs : x.spot with
    | none => rfl
    | some v =>
      exfalso
      unfold World.cell? at hc
      rw [hs] at hc
      split at hc
      · simp at hc
      · cases hc

/-- Numbers. -/
theorem row_nums {w : World} {a : Option Addr} {len cap : Nat} {zs : List Int} (h : IsRow .i64 w a len cap zs) :
    ∃ l : List Int, l.length = len ∧ Src w a (nms l) ∧ ∀ n ∈ l, -9223372036854775808 ≤ n ∧ n ≤ 9223372036854775807 := by
  obtain ⟨h1, h2, h3⟩ := row_src h
  refine ⟨zs.take len, h1, h2, fun n hn => ?_⟩
  simpa [Lit.wf, IntKind.min, IntKind.max, IntKind.signed, IntKind.bits] using h3 n hn

end Go.Proofs.YtodbeeodhekpeaaDoor
namespace Go.Proofs.YtodbeeodhekpeaaDoor
open Go.RowKit

section
variable {w w' : World} {B n : Nat} {e : TypeId} {v : Value} {xs : List Value}
theorem own_keep (h : w.ownsRow B e 1 v n xs) (hc : Chg [] w w') : w'.ownsRow B e 1 v n xs := by
  refine ⟨h.1, h.2.imp id ?_⟩
  rintro ⟨g, cap, cur, rfl, hb, hg, r⟩
  refine ⟨g, cap, cur, rfl, hb, ?_, r⟩
  rw [hc.block g ?_ (by simp)]
  · exact hg
  · rcases Nat.lt_or_ge g w.heap.size with hlt | hge
    · exact hlt
    · rw [Array.getElem?_eq_none hge] at hg; cases hg
theorem own_more {B' : Nat} (h : w.ownsRow B e 1 v n xs) (hB : B' ≤ B) : w.ownsRow B' e 1 v n xs := by
  refine ⟨h.1, h.2.imp id ?_⟩
  rintro ⟨g, cap, cur, rfl, hb, r⟩
  exact ⟨g, cap, cur, rfl, Nat.le_trans hB hb, r⟩
/-- As a slice value. -/
theorem own_slice (h : w.ownsRow B e 1 v n xs) : ∃ A c, v = .slice A n c ∧ xs.length = n ∧ n ≤ c ∧ Src w A xs ∧ (∀ ad, A = some ad → ad.spot = none ∧ B ≤ ad.block ∧ ad.off = 0 ∧ ad.block < w.heap.size) := by
  have hl : xs.length = n := by simpa using h.1
  rcases h.2 with ⟨rfl, rfl⟩ | ⟨g, cap, cur, rfl, hb, hg, hn, hc, hs, ht⟩
  · exact ⟨none, 0, rfl, hl, Nat.le_refl _, fun hp => absurd hp (by omega), fun ad h => by cases h⟩
  · have hgl : g < w.heap.size := by
      rcases Nat.lt_or_ge g w.heap.size with hlt | hge
      · exact hlt
      · rw [Array.getElem?_eq_none hge] at hg; cases hg
    refine ⟨some ⟨g, 0, none⟩, cap, rfl, hl, hn, fun _ => ⟨_, rfl, hgl, fun j u hj => ?_⟩, fun ad h => by injection h with h; subst h; exact ⟨rfl, hb, rfl, hgl⟩⟩
    rw [add_plain, Nat.zero_add, cell_of_row w g j cur e (0, 0) hg]
    have hjl : j < n := by rw [← hl]; exact (List.getElem?_eq_some_iff.1 hj).1
    rw [← ht, List.getElem?_take_of_lt (by omega)] at hj
    simpa using hj
/-- What was appended to is the caller's own: nothing that was there has turned. -/
theorem Chg.own {T : List Nat} {a : World} (h : Chg T a w) (ho : w.ownsRow B e 1 v n xs) (hB : a.heap.size ≤ B) (hg : w.grownBy w' v.ownBlock) : Chg T a w' := by
  refine h.then_ (T' := match v.ownBlock with | some g => [g] | none => []) ?_ ?_
  · refine Chg.of_grown hg fun g hr _ => ?_
    rw [hr]; simp
  · intro i hi hlt
    exfalso
    rcases ho.2 with ⟨rfl, _⟩ | ⟨g, cap, cur, rfl, hb, _⟩
    · simp [Value.ownBlock] at hi
    · simp [Value.ownBlock] at hi; omega
end


end Go.Proofs.YtodbeeodhekpeaaDoor
namespace Go.Proofs.YtodbeeodhekpeaaDoor
open Go.RowKit

/-- The slice value '.slice A n c' is the bytes l. -/
structure Bs (w : World) (A : Option Addr) (n c : Nat) (l : List UInt8) : Prop where
  len : l.length = n
  src : Src w A (bts l)
  cap : n ≤ c
  max : c ≤ 9223372036854775807
  spot : 0 < n → ∀ ad, A = some ad → ad.spot = none

section
variable {w w' : World} {A : Option Addr} {n c : Nat} {l : List UInt8}
theorem Bs.keep (h : Bs w A n c l) (hc : Chg [] w w') : Bs w' A n c l := ⟨h.len, h.src.keep hc, h.cap, h.max, h.spot⟩
theorem Bs.drew (h : Bs w A n c l) : Bs w.drew A n c l := ⟨h.len, h.src, h.cap, h.max, h.spot⟩
theorem Bs.le (h : Bs w A n c l) : n ≤ 9223372036854775807 := Nat.le_trans h.cap h.max
theorem Bs.nil (w : World) : Bs w none 0 0 [] := ⟨rfl, Src.nil _ _, Nat.le_refl _, by omega, fun h => absurd h (by omega)⟩
theorem Bs.of_whole {g t cap : Nat} {cs : List Value} (h : Whole w g t cs) (hn : l.length = n) (hc : cs.take n = bts l) (hcap : n ≤ cap) (hm : cap ≤ 9223372036854775807) : Bs w (some ⟨g, 0, none⟩) n cap l := by
  refine ⟨hn, ?_, hcap, hm, fun _ ad e => by injection e with e; subst e; rfl⟩
  have := Src.of_whole h 0 n
  rwa [List.drop_zero, hc] at this
theorem Bs.of_all {g t : Nat} (h : Whole w g t (bts l)) (hm : l.length ≤ 9223372036854775807) : Bs w (some ⟨g, 0, none⟩) l.length l.length l :=
  Bs.of_whole h rfl (by rw [List.take_of_length_le (by rw [bts_len]; exact Nat.le_refl _)]) (Nat.le_refl _) hm
/-- An own row of bytes. -/
theorem Bs.of_own {B : Nat} {e : TypeId} {v : Value} (h : w.ownsRow B e 1 v n (bts l)) : ∃ A c, v = .slice A n c ∧ Bs w A n c l ∧ (∀ ad, A = some ad → ad.spot = none ∧ B ≤ ad.block ∧ ad.off = 0 ∧ ad.block < w.heap.size) := by
  obtain ⟨A, c, rfl, hl, hn, hs, hA⟩ := own_slice h
  have hm : c ≤ 9223372036854775807 := by
    rcases h.2 with ⟨h, _⟩ | ⟨g, cap, cur, h, _, _, _, hc, _⟩
    · injection h with _ _ h; omega
    · injection h with _ _ h; subst h; simpa [maxLen] using hc
  exact ⟨A, c, rfl, ⟨by rw [bts_len] at hl; exact hl, hs, hn, hm, fun _ ad e => (hA ad e).1⟩, hA⟩
/-- 's[lo:hi]' keeps the model's own 'if' on the address. -/
theorem Bs.cut (h : Bs w A n c l) {lo hi : Nat} (h1 : lo ≤ hi) (h2 : hi ≤ n) : Bs w (if c = lo then A else A.map (·.add lo)) (hi - lo) (c - lo) ((l.drop lo).take (hi - lo)) := by
  have hl := h.len
  refine ⟨by rw [List.length_take, List.length_drop]; omega, fun hp => ?_, by have := h.cap; omega, by have := h.max; omega, fun h0 ad e => ?_⟩
  · have hp' : 0 < hi - lo := by rw [bts_len, List.length_take, List.length_drop] at hp; omega
    rw [if_neg (by have := h.cap; omega)]
    obtain ⟨ad, rfl, hb, hx⟩ := h.src (by rw [bts_len]; omega)
    obtain ⟨b, o, s⟩ := ad
    obtain rfl : s = none := h.spot (by omega) _ rfl
    refine ⟨_, rfl, by simp only [add_plain]; exact hb, fun j v hj => ?_⟩
    simp only [add_plain]
    have h3 := hx (lo + j) v (by
      rw [← hj]
      unfold bts
      rw [List.getElem?_map, List.getElem?_map, List.getElem?_take]
      have : j < hi - lo := by have := (List.getElem?_eq_some_iff.1 hj).1; rw [bts_len, List.length_take] at this; omega
      rw [if_pos this, List.getElem?_drop])
    rw [add_plain] at h3
    rw [← h3, Nat.add_assoc]
  · rw [if_neg (by have := h.cap; omega)] at e
    cases hA : A with
    | none => rw [hA] at e; cases e
    | some ad0 =>
      obtain ⟨b, o, s⟩ := ad0
      obtain rfl : s = none := h.spot (by omega) _ hA
      rw [hA] at e
      simp only [Option.map_some, Option.some.injEq] at e
      subst e
      rw [add_plain]

theorem run_str0 {P : Program} (src e dst : TypeId) (hs : P.underlying src = some (.slice e)) (he : P.underlying e = some (.int .u8)) (hd : P.underlying dst = some .string) (A : Option Addr) (cap : Nat) (w : World) :
    (convert src dst (.slice A 0 cap)).run P w = .ok (.string (strOf [])) w := by
  rcases A with _ | ad
  · exact run_convert_bytes_nil (P := P) w src e hs he 0 cap dst hd
  · rw [run_convert_bytes_string w src dst e _ 0 cap hs he hd]
    simp [Conv.bytesToString, strOf, go_sem]
    rfl
theorem Bs.str {P : Program} (h : Bs w A n c l) (src e dst : TypeId) (hs : P.underlying src = some (.slice e)) (he : P.underlying e = some (.int .u8)) (hd : P.underlying dst = some .string) :
    (convert src dst (.slice A n c)).run P w = .ok (.string (strOf l)) w := by
  rcases Nat.eq_zero_or_pos n with h0 | h0
  · subst h0
    obtain rfl : l = [] := List.eq_nil_of_length_eq_zero h.len
    exact run_str0 src e dst hs he hd A c w
  · have hl := h.len
    subst hl
    exact run_str src e dst hs he hd A l c w h.src (h.spot h0)
end
end Go.Proofs.YtodbeeodhekpeaaDoor
