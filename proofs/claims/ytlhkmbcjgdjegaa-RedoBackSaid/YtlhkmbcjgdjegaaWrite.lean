/-
  (*Disk).Write and Read.
-/
import Derived.Test.YtlhkmbcjgdjegaaSect
namespace Go.Proofs.Ytlhkmbcjgdjegaa
open Go.RowKit
section
variable {w : World} {p bL bS bW : Nat} {L S : List UInt8} {V : List Bool}

set_option maxHeartbeats 400000 in
theorem write_no (h : Dsk w p bL bS bW L S V) (i : Int) (A : Option Addr) (n c : Nat) (hi : i < 0 ∨ (V.length : Int) ≤ i ∨ n ≠ 64) :
    Calls Try.prog 58 #[.pointer (some ⟨p, 0, none⟩), .int .i64 i, .slice A n c] w fun e w' => e = .returned (.bool false) ∧ w = w' := by
  by_cases hok : 0 ≤ i ∧ i < V.length
  · obtain ⟨h0, h1⟩ := hok
    have hd : ((n : Int) != 64) = true := by simp; omega
    clear hi
    go_enter Try.func58, Try.ntmps58
    go_wp2_with (go_at_call 97; refine (has_yes h i h0 h1).mono ?_; rintro e w' ⟨rfl, rfl⟩)
    go_ret
    exact ⟨rfl, rfl⟩
  · have h2 : i < 0 ∨ (V.length : Int) ≤ i := by omega
    clear hi hok
    go_enter Try.func58, Try.ntmps58
    go_wp2_with (go_at_call 97; refine (has_no h i h2).mono ?_; rintro e w' ⟨rfl, rfl⟩)
    go_ret
    exact ⟨rfl, rfl⟩

theorem write_end {w2 : World} {k : Nat} {x : List UInt8} (h : Dsk w p bL bS bW L S V) (hk : k < V.length) (hx : x.length = 64) (HC : Chg [bS] w w2) (HG : Whole w2 bS 5 (splice (bts S) (k * 64) (bts x))) :
    Dsk (w2.setCell ⟨bW, k, none⟩ (.bool true)) p bL bS bW L (splice S (k * 64) x) (V.set k true) ∧ Chg [bS, bW] w (w2.setCell ⟨bW, k, none⟩ (.bool true)) := by
  have s1 : 64 * (k + 1) ≤ S.length := by have := h.lenS; omega
  have eS : (splice S (k * 64) x).length = S.length := length_splice _ _ _ (by omega)
  rw [bts_splice] at HG
  have d0 := h.rec_.ne_ h.seen (by decide)
  have d1 := h.rec_.ne_ h.wait (by decide)
  have d2 := h.last.ne_ h.wait (by decide)
  have d3 := h.seen.ne_ h.wait (by decide)
  have V2 := h.wait.chg HC (by simpa using fun e => d3 e.symm)
  have hw : Whole (w2.setCell ⟨bW, k, none⟩ (.bool true)) bW 4 (bls (V.set k true)) := by
    have := V2.set_ k (.bool true)
    rwa [bls_set] at this
  refine ⟨⟨?_, (h.last.chg HC (by simpa using h.ne)).far d2 _, HG.far d3 _, hw, by rw [List.length_set]; exact h.lenL, by rw [eS, List.length_set]; exact h.lenS, by rw [List.length_set]; exact h.pos, by rw [List.length_set]; exact h.le, h.ne⟩, ?_⟩
  · rw [eS, List.length_set]
    exact (h.rec_.chg HC (by simpa using d0)).far d1 _
  · exact (HC.sub (T' := [bS, bW]) (by simp)).setCell (by simp) _

set_option maxHeartbeats 1000000 in
theorem write_yes (h : Dsk w p bL bS bW L S V) (k : Nat) (hk : k < V.length) {A : Option Addr} {c : Nat} {x : List UInt8} (hx : x.length = 64) (hs : Src w A (bts x)) :
    Calls Try.prog 58 #[.pointer (some ⟨p, 0, none⟩), .int .i64 (k : Int), .slice A 64 c] w fun e w' => e = .returned (.bool true) ∧
      Dsk w' p bL bS bW L (splice S (k * 64) x) (V.set k true) ∧ Chg [bS, bW] w w' := by
  have c1 := h.rec_.cell 1
  have hS := h.lenS
  have hv := h.le
  have s1 : 64 * (k + 1) ≤ S.length := by omega
  have s2 : S.length ≤ 1000000 := by omega
  clear hS
  have hfit : k * 64 + (bts x).length ≤ (bts S).length := by rw [bts_len, bts_len]; omega
  have Hn := Lib.hid (show (bts x).length = Nat.min 64 64 by rw [bts_len, hx]; rfl)
  have Hx := Lib.hid hx
  have b1 := bts_one x
  have n2 := Lib.hid (show p ∉ [bS] by simpa using h.rec_.ne_ h.seen (by decide))
  have n3 := Lib.hid (show bW ∉ [bS] by simpa using h.wait.ne_ h.seen (by decide))
  obtain ⟨Y, hY⟩ : ∃ Y, Y = bts x := ⟨_, rfl⟩
  have HY := Lib.hid hY
  rw [← hY] at hfit Hn b1 hs
  clear hx hY
  go_enter Try.func58, Try.ntmps58
  go_wp2_with (first
    | (go_at_call 97; refine (has_yes h _ (by omega) (by omega)).mono ?_; rintro e w' ⟨rfl, rfl⟩)
    | (go_at_call 98; refine (dsector_any k s1 (Nat.le_refl _) s2).mono ?_; rintro e w' ⟨rfl, rfl⟩)
    | (with_reducible refine wpList_copy_chg rfl (.tmp 21) (.tmp 22) _ _ rfl 5 Try.underlying22 size_u8 (some ⟨bS, k * 64, none⟩) A 64 (S.length - k * 64) 64 c rfl rfl bS (k * 64) 5 (bts S) Y h.seen Hn.out (fun _ => rfl) hs hfit b1 ?_
       intro w2 HG HC
       have R2 := h.rec_.chg HC n2.out
       have V2 := h.wait.chg HC n3.out
       have c2 := R2.cell 2
       have c4 := (V2.cell k).trans (bls_get V k hk)
       have c5 := V2.frozen k))
  go_ret
  rw [HY.out] at HG
  exact ⟨rfl, write_end h hk Hx.out HC HG⟩

set_option maxHeartbeats 400000 in
theorem read_no (h : Dsk w p bL bS bW L S V) (i : Int) (hi : i < 0 ∨ (V.length : Int) ≤ i) :
    Calls Try.prog 56 #[.pointer (some ⟨p, 0, none⟩), .int .i64 i] w fun e w' => e = .returned (.tuple #[.slice none 0 0, .bool false]) ∧ w = w' := by
  go_enter Try.func56, Try.ntmps56
  go_wp2_with (go_at_call 97; refine (has_no h i hi).mono ?_; rintro e w' ⟨rfl, rfl⟩)
  go_ret2
  exact ⟨rfl, rfl⟩

set_option maxHeartbeats 1000000 in
theorem read_yes (h : Dsk w p bL bS bW L S V) (k : Nat) (hk : k < V.length) :
    Calls Try.prog 56 #[.pointer (some ⟨p, 0, none⟩), .int .i64 (k : Int)] w fun e w' => e = .returned (.tuple #[.slice (some ⟨w.heap.size, 0, none⟩) 64 64, .bool true]) ∧
      Whole w' w.heap.size 5 (bts ((S.drop (k * 64)).take 64)) ∧ Chg [] w w' := by
  have c1 := h.rec_.cell 1
  have hS := h.lenS
  have hv := h.le
  have s1 : 64 * (k + 1) ≤ S.length := by omega
  have s2 : S.length ≤ 1000000 := by omega
  clear hS
  have hl : (bts ((S.drop (k * 64)).take 64)).length = 64 := by rw [bts_len, List.length_take, List.length_drop]; omega
  have Hl := Lib.hid hl
  have hsr : Src w (some ⟨bS, k * 64, none⟩) (bts ((S.drop (k * 64)).take 64)) := by rw [← bts_cut]; exact Src.of_whole h.seen _ _
  have b1 := bts_one ((S.drop (k * 64)).take 64)
  obtain ⟨Y, hY⟩ : ∃ Y, Y = bts ((S.drop (k * 64)).take 64) := ⟨_, rfl⟩
  rw [← hY] at Hl hsr b1
  rw [← hY]
  clear hl hY
  go_enter Try.func56, Try.ntmps56
  go_wp2_with (first
    | (go_at_call 97; refine (has_yes h _ (by omega) (by omega)).mono ?_; rintro e w' ⟨rfl, rfl⟩)
    | (go_at_call 98; refine (dsector_any k s1 (Nat.le_refl _) s2).mono ?_; rintro e w' ⟨rfl, rfl⟩)
    | (go_at_call 60; refine (fresh_any Hl.out hsr b1 (by omega)).mono ?_; rintro e w2 ⟨rfl, HB, HC⟩))
  go_ret2
  exact ⟨rfl, HB, HC⟩
end
end Go.Proofs.Ytlhkmbcjgdjegaa
