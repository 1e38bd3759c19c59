/-
  disk.fresh, the law's sector, disk.sector, Len: the small callees.
-/
import Derived.Test.YtlhkmbcjgdjegaaChecked
import Derived.Test.YtlhkmbcjgdjegaaMem
namespace Go.Proofs.Ytlhkmbcjgdjegaa
open Go.RowKit

theorem info_u8 : (Try.prog.info? 5).map (fun i => (i.zero, i.size, i.bytes)) = some (some (.int .u8 0), 1, 1) := by kernel_rfl
theorem info_bool : (Try.prog.info? 4).map (fun i => (i.zero, i.size, i.bytes)) = some (some (.bool false), 1, 1) := by kernel_rfl
theorem info_int : (Try.prog.info? 3).map (fun i => (i.zero, i.size, i.bytes)) = some (some (.int .i64 0), 1, 8) := by kernel_rfl
theorem size_u8 : (Try.prog.info? 5).map (·.size) = some 1 := by kernel_rfl

theorem make_u8 (n : Nat) (h : n ≤ 1000000) (w : World) :
    (Instr.makeSlice 22 (.int .i64 (n : Int)) (.int .i64 (n : Int))).run Try.prog w = .ok (.slice (some ⟨w.heap.size, 0, none⟩) n n) (w.alloc (.cells (bts (zeros n)).toArray 5)) := by
  rw [bts_zeros]
  obtain ⟨i, hi, hz, hs, hb⟩ := info_parts info_u8
  exact run_make1 _ _ i _ rfl Try.underlying22 hi hz hs n (by rw [hb]; omega) (by omega) w
theorem make_bool (n : Nat) (h : n ≤ 1000000) (w : World) :
    (Instr.makeSlice 98 (.int .i64 (n : Int)) (.int .i64 (n : Int))).run Try.prog w = .ok (.slice (some ⟨w.heap.size, 0, none⟩) n n) (w.alloc (.cells (bls (falses n)).toArray 4)) := by
  rw [bls_falses]
  obtain ⟨i, hi, hz, hs, hb⟩ := info_parts info_bool
  exact run_make1 _ _ i _ rfl Try.underlying98 hi hz hs n (by rw [hb]; omega) (by omega) w

set_option maxHeartbeats 400000 in
theorem fresh_any {w : World} {A : Option Addr} {n c : Nat} {xs : List Value} (hl : xs.length = n) (hs : Src w A xs) (h1 : ∀ v ∈ xs, v.oneCell' = true) (hn : n ≤ 1000000) :
    Calls Try.prog 60 #[.slice A n c] w fun e w' => e = .returned (.slice (some ⟨w.heap.size, 0, none⟩) n n) ∧ Whole w' w.heap.size 5 xs ∧ Chg [] w w' := by
  have hmk := make_u8 n hn
  go_enter Try.func60, Try.ntmps60
  go_wp2_with (first
    | (with_reducible refine wpList_copy_splice rfl (.tmp 7) (.tmp 8) _ _ rfl 5 Try.underlying22 size_u8 (some ⟨w.heap.size, 0, none⟩) A n n n c rfl rfl w.heap.size 0 (bts (zeros n)) 5 ?c1 xs ?c2 ?c3 ?c4 h1 w.heap.size w ?c5 (Nat.le_refl _) ?_
       case c1 => exact heap_alloc_new w _
       case c2 => simp [hl]
       case c3 =>
         intro hp
         obtain ⟨ad, e, _, hx⟩ := (hs.keep ((Chg.refl [] w).alloc _)) hp
         exact ⟨rfl, ad, e, hx⟩
       case c4 => simp [hl, bts_len, zeros_len]
       case c5 => exact (Below.refl _ _).alloc (Nat.le_refl _) _
       intro w1 HG hB))
  go_ret
  have HG' := HG.out
  rw [splice_all _ _ (by simp [hl, bts_len, zeros_len])] at HG'
  exact ⟨rfl, HG', Chg.of_below hB⟩

/-- What sector makes of n bytes: 64, zeros behind them. -/
def pad (l : List UInt8) : List UInt8 := l.take 64 ++ zeros (64 - l.length)
theorem pad_len (l : List UInt8) : (pad l).length = 64 := by simp [pad, zeros]; omega


end Go.Proofs.Ytlhkmbcjgdjegaa
