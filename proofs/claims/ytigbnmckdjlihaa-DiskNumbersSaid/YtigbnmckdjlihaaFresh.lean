/-
  disk.fresh, the law's sector, disk.sector, Len: the small callees.
-/
import Derived.Test.YtigbnmckdjlihaaChecked
import Derived.Test.YtigbnmckdjlihaaMem
namespace Go.Proofs.Ytigbnmckdjlihaa
open Go.RowKit

theorem info_u8 : (Try.prog.info? 5).map (fun i => (i.zero, i.size, i.bytes)) = some (some (.int .u8 0), 1, 1) := by kernel_rfl
theorem info_bool : (Try.prog.info? 4).map (fun i => (i.zero, i.size, i.bytes)) = some (some (.bool false), 1, 1) := by kernel_rfl
theorem info_int : (Try.prog.info? 3).map (fun i => (i.zero, i.size, i.bytes)) = some (some (.int .i64 0), 1, 8) := by kernel_rfl
theorem size_u8 : (Try.prog.info? 5).map (·.size) = some 1 := by kernel_rfl

theorem make_u8 (n : Nat) (h : n ≤ 1000000) (w : World) :
    (Instr.makeSlice 40 (.int .i64 (n : Int)) (.int .i64 (n : Int))).run Try.prog w = .ok (.slice (some ⟨w.heap.size, 0, none⟩) n n) (w.alloc (.cells (bts (zeros n)).toArray 5)) := by
  rw [bts_zeros]
  obtain ⟨i, hi, hz, hs, hb⟩ := info_parts info_u8
  exact run_make1 _ _ i _ rfl Try.underlying40 hi hz hs n (by rw [hb]; omega) (by omega) w
theorem make_bool (n : Nat) (h : n ≤ 1000000) (w : World) :
    (Instr.makeSlice 65 (.int .i64 (n : Int)) (.int .i64 (n : Int))).run Try.prog w = .ok (.slice (some ⟨w.heap.size, 0, none⟩) n n) (w.alloc (.cells (bls (falses n)).toArray 4)) := by
  rw [bls_falses]
  obtain ⟨i, hi, hz, hs, hb⟩ := info_parts info_bool
  exact run_make1 _ _ i _ rfl Try.underlying65 hi hz hs n (by rw [hb]; omega) (by omega) w

set_option maxHeartbeats 400000 in
theorem fresh_any {w : World} {A : Option Addr} {n c : Nat} {xs : List Value} (hl : xs.length = n) (hs : Src w A xs) (h1 : ∀ v ∈ xs, v.oneCell' = true) (hn : n ≤ 1000000) :
    Calls Try.prog 72 #[.slice A n c] w fun e w' => e = .returned (.slice (some ⟨w.heap.size, 0, none⟩) n n) ∧ Whole w' w.heap.size 5 xs ∧ Chg [] w w' := by
  have hmk := make_u8 n hn
  go_enter Try.func72, Try.ntmps72
  go_wp2_with (first
    | (with_reducible refine wpList_copy_splice rfl (.tmp 7) (.tmp 8) _ _ rfl 5 Try.underlying40 size_u8 (some ⟨w.heap.size, 0, none⟩) A n n n c rfl rfl w.heap.size 0 (bts (zeros n)) 5 ?c1 xs ?c2 ?c3 ?c4 h1 w.heap.size w ?c5 (Nat.le_refl _) ?_
       case c1 => exact heap_alloc_new w _
       case c2 => simp [hl]
       case c3 =>
         intro hp
         obtain ⟨ad, e, _, hx⟩ := (hs.keep ((Chg.refl [] w).alloc _)) hp
         exact ⟨rfl, ad, e, hx⟩
       case c4 => simp [hl, bts_len, zeros_len]
       case c5 => exact (Below.refl _ _).alloc (Nat.le_refl _) _
       intro w1 HG hB))
  go_ret
  have HG' := HG.out
  rw [splice_all _ _ (by simp [hl, bts_len, zeros_len])] at HG'
  exact ⟨rfl, HG', Chg.of_below hB⟩

/-- What sector makes of n bytes: 64, zeros behind them. -/
def pad (l : List UInt8) : List UInt8 := l.take 64 ++ zeros (64 - l.length)
theorem pad_len (l : List UInt8) : (pad l).length = 64 := by simp [pad, zeros]; omega

set_option maxHeartbeats 400000 in
/-- The law's own sector. -/
theorem lsector_any {w : World} {A : Option Addr} {n c : Nat} {l : List UInt8} (hl : l.length = n) (hs : Src w A (bts l)) :
    Calls Try.prog 64 #[.slice A n c] w fun e w' => e = .returned (.slice (some ⟨w.heap.size, 0, none⟩) 64 64) ∧
      Whole w' w.heap.size 5 (bts (pad l)) ∧ Chg [] w w' := by
  have hs2 : Src w A (bts (l.take 64)) := fun hp => by
    obtain ⟨ad, e, hb, hx⟩ := hs (by simp [bts] at hp ⊢; omega)
    refine ⟨ad, e, hb, fun j v hj => hx j v ?_⟩
    unfold bts at hj ⊢
    rw [List.map_take, List.getElem?_take] at hj
    split at hj
    · exact hj
    · cases hj
  have H1 := Lib.hid (show (bts (l.take 64)).length = Nat.min n 64 by simp [bts, hl, Nat.min_comm])
  have H2 := Lib.hid (show splice (bts (zeros 64)) 0 (bts (l.take 64)) = bts (pad l) by
    unfold splice pad bts
    simp only [List.take_zero, List.nil_append, Nat.zero_add, List.length_map, List.length_take, List.map_append, List.map_take]
    congr 1
    unfold zeros
    rw [← List.map_drop, List.drop_replicate]
    congr 2
    omega)
  obtain ⟨Y, hY⟩ : ∃ Y, Y = bts (l.take 64) := ⟨_, rfl⟩
  have h1 : ∀ v ∈ Y, v.oneCell' = true := by rw [hY]; exact bts_one _
  rw [← hY] at H1 H2 hs2
  clear hY
  have hmk : ∀ W : World, (Instr.makeSlice 40 (.int .i64 64) (.int .i64 64)).run Try.prog W = .ok (.slice (some ⟨W.heap.size, 0, none⟩) 64 64) (W.alloc (.cells (bts (zeros 64)).toArray 5)) := fun W => make_u8 64 (by omega) W
  go_enter Try.func64, Try.ntmps64
  go_wp2_with (first
    | (with_reducible refine wpList_copy_splice rfl (.tmp 5) (.tmp 6) _ _ rfl 5 Try.underlying40 size_u8 (some ⟨w.heap.size, 0, none⟩) A 64 64 n c rfl rfl w.heap.size 0 (bts (zeros 64)) 5 ?c1 Y ?c2 ?c3 ?c4 h1 w.heap.size w ?c5 (Nat.le_refl _) ?_
       case c1 => exact heap_alloc_new w _
       case c2 => exact H1.out
       case c3 =>
         intro hp
         obtain ⟨ad, e, _, hx⟩ := (hs2.keep ((Chg.refl [] w).alloc _)) hp
         exact ⟨rfl, ad, e, hx⟩
       case c4 => rw [H1.out, bts_len, zeros_len]; have := Nat.min_le_right n 64; simpa using this
       case c5 => exact (Below.refl _ _).alloc (Nat.le_refl _) _
       intro w1 HG hB))
  go_ret
  have HG' := HG.out
  rw [H2.out] at HG'
  exact ⟨rfl, HG', Chg.of_below hB⟩

end Go.Proofs.Ytigbnmckdjlihaa
