/-
  Put and Get of package sum, and of the reference: contracts.
-/
import Derived.Test.YtlhkmbcjgdjegaaShare
import Derived.Test.YtlhkmbcjgdjegaaChecked
import Derived.Test.YtlhkmbcjgdjegaaOwn
import Derived.Test.YtlhkmbcjgdjegaaSum
namespace Go.Proofs.Ytlhkmbcjgdjegaa
open Go.RowKit
theorem info_byte : (Try.prog.info? 5).map (fun i => (i.zero, i.size, i.bytes)) = some (some (.int .u8 0), 1, 1) := by kernel_rfl
/-- A number's four bytes. -/
def be4 (k : Nat) : List UInt8 := [UInt8.ofNat (k / 16777216), UInt8.ofNat (k / 65536), UInt8.ofNat (k / 256), UInt8.ofNat k]
theorem be4_len (k : Nat) : (be4 k).length = 4 := rfl
theorem bts_be4 (k : Nat) (hk : k < 4294967296) : bts (be4 k) = [.int .u8 ((k : Int) / 16777216), .int .u8 ((k : Int) / 65536 % 256), .int .u8 ((k : Int) / 256 % 256), .int .u8 ((k : Int) % 256)] := by
  have h : ∀ x : Nat, (((UInt8.ofNat x).toNat : Nat) : Int) = ((x % 256 : Nat) : Int) := fun x => by rw [UInt8.toNat_ofNat']
  have h2 : ((k / 16777216 % 256 : Nat) : Int) = (k : Int) / 16777216 := by omega
  simp only [bts, be4, List.map_cons, List.map_nil, B8, h, h2, Int.natCast_emod, Int.natCast_ediv, Int.cast_ofNat_Int]

/-- What a call that makes bytes answers. -/
def BytesPost (w : World) (l : List UInt8) (e : Ending) (w' : World) : Prop := ∃ v, e = .returned v ∧ w'.ownsRow w.heap.size 5 1 v l.length (bts l) ∧ Chg [] w w'

section
variable {w : World} {A : Option Addr} {n c : Nat} {l : List UInt8}
set_option maxHeartbeats 400000 in
theorem put_any (k : Nat) (hk : k < 4294967296) (hl : l.length = n) (hs : Src w A (bts l)) (hn : n + 4 ≤ 140737488355328) :
    Calls Try.prog 102 #[.slice A n c, .int .u32 (k : Int)] w (BytesPost w (l ++ be4 k)) := by
  obtain ⟨i, hi, hz, hs1, hb⟩ := info_parts info_byte
  have hmk : ∀ W : World, (Instr.makeSlice 22 (.int .i64 0) (.int .i64 ((n : Int) + 4))).run Try.prog W = .ok (.slice (some ⟨W.heap.size, 0, none⟩) 0 (n + 4)) (W.alloc (.cells (bts (zeros (n + 4))).toArray 5)) := by
    intro W
    rw [bts_zeros]
    have := run_make0 (P := Try.prog) 22 5 i _ rfl Try.underlying22 hi hz hs1 (n + 4) (by rw [hb]; omega) (by omega) W
    simpa using this
  have ho0 : (w.alloc (.cells (bts (zeros (n + 4))).toArray 5)).ownsRow w.heap.size 5 1 (.slice (some ⟨w.heap.size, 0, none⟩) 0 (n + 4)) 0 [] := by
    have := own_of_whole (B := w.heap.size) (n := 0) (c := n + 4) (Whole.new w 5 (bts (zeros (n + 4)))) (Nat.le_refl _) (by simp [bts_len, zeros_len]) (by omega) (by unfold maxLen; omega)
    simpa using this
  have hlb := Lib.hid (show (bts l).length = n by rw [bts_len, hl])
  have hm1 := Lib.hid (show 0 + n ≤ maxLen by unfold maxLen; omega)
  have hm2 := Lib.hid (show n + 4 ≤ maxLen by unfold maxLen; omega)
  have hm3 := Lib.hid (show (0 + n) * 1 ≤ 140737488355328 by omega)
  have hm4 := Lib.hid (show (n + 4) * 1 ≤ 140737488355328 by omega)
  have hbe := Lib.hid (bts_be4 k hk)
  go_enter Try.func102, Try.ntmps102
  go_wp2_with (first
    | (at_builtin
       refine wpList_append_src rfl (.tmp 10) (.tmp 11) 22 rfl w.heap.size 5 i _ 1 Try.underlying22 hi hz hs1 hb cells_u8 (.slice (some ⟨w.heap.size, 0, none⟩) 0 (n + 4)) 0 [] rfl ho0 A n c (bts l) rfl hlb.out (hs.keep ((Chg.refl _ _).alloc _)) (bts_one l) hm1.out hm3.out (by simp) ?_
       intro v1 w1 ho1 hg1 _
       have hc1 : Chg [] w w1 := ((Chg.refl [] w).alloc _).own ho0 (Nat.le_refl _) hg1
       clear hg1
       simp only [Nat.zero_add, List.nil_append] at ho1
       obtain ⟨A1, c1, rfl, _⟩ := own_slice ho1)
    | (at_builtin
       refine wpList_append_src rfl (.tmp 13) (.tmp 25) 22 rfl w.heap.size 5 i _ 1 Try.underlying22 hi hz hs1 hb cells_u8 (.slice A1 n c1) n (bts l) rfl (own_keep ho1 ((Chg.refl _ _).alloc _)) (some ⟨w1.heap.size, 0, none⟩) 4 4 _ rfl rfl (Src.of_all (Whole.new w1 5 (_ :: _ :: _ :: _ :: [])))
         (by rw [← hbe.out]; exact bts_one _) hm2.out hm4.out (by have := hc1.size; simp; omega) ?_
       intro v2 w2 ho2 hg2 _
       have hc2 : Chg [] w w2 := (hc1.alloc _).own (own_keep ho1 ((Chg.refl _ _).alloc _)) (Nat.le_refl _) hg2
       clear hg2))
  go_ret
  refine ⟨v2, rfl, ?_, hc2⟩
  rw [← hbe.out] at ho2
  have e1 : (l ++ be4 k).length = n + 4 := by rw [List.length_append, be4_len, hl]
  have e2 : bts (l ++ be4 k) = bts l ++ bts (be4 k) := by simp [bts]
  rw [e1, e2]
  exact ho2

set_option maxHeartbeats 400000 in
theorem rput_any (k : Nat) (hk : k < 4294967296) (hl : l.length = n) (hs : Src w A (bts l)) (hn : n + 4 ≤ 140737488355328) :
    Calls Try.prog 106 #[.slice A n c, .int .u32 (k : Int)] w (BytesPost w (l ++ be4 k)) := by
  obtain ⟨i, hi, hz, hs1, hb⟩ := info_parts info_byte
  have ho0 : (w.alloc (.cells #[] 5)).ownsRow w.heap.size 5 1 (.slice (some ⟨w.heap.size, 0, none⟩) 0 0) 0 [] :=
    own_of_whole (B := w.heap.size) (n := 0) (c := 0) (Whole.new w 5 []) (Nat.le_refl _) rfl (by omega) (by unfold maxLen; omega)
  have hlb := Lib.hid (show (bts l).length = n by rw [bts_len, hl])
  have hm1 := Lib.hid (show 0 + n ≤ maxLen by unfold maxLen; omega)
  have hm2 := Lib.hid (show n + 4 ≤ maxLen by unfold maxLen; omega)
  have hm3 := Lib.hid (show (0 + n) * 1 ≤ 140737488355328 by omega)
  have hm4 := Lib.hid (show (n + 4) * 1 ≤ 140737488355328 by omega)
  have hbe := Lib.hid (bts_be4 k hk)
  go_enter Try.func106, Try.ntmps106
  go_wp2_with (first
    | (at_builtin
       refine wpList_append_src rfl (.tmp 5) (.tmp 6) 22 rfl w.heap.size 5 i _ 1 Try.underlying22 hi hz hs1 hb cells_u8 (.slice (some ⟨w.heap.size, 0, none⟩) 0 0) 0 [] rfl ho0 A n c (bts l) rfl hlb.out (hs.keep ((Chg.refl _ _).alloc _)) (bts_one l) hm1.out hm3.out (by simp) ?_
       intro v1 w1 ho1 hg1 _
       have hc1 : Chg [] w w1 := ((Chg.refl [] w).alloc _).own ho0 (Nat.le_refl _) hg1
       clear hg1
       simp only [Nat.zero_add, List.nil_append] at ho1
       obtain ⟨A1, c1, rfl, _⟩ := own_slice ho1)
    | (at_builtin
       refine wpList_append_src rfl (.tmp 7) (.tmp 19) 22 rfl w.heap.size 5 i _ 1 Try.underlying22 hi hz hs1 hb cells_u8 (.slice A1 n c1) n (bts l) rfl (own_keep ho1 ((Chg.refl _ _).alloc _)) (some ⟨w1.heap.size, 0, none⟩) 4 4 _ rfl rfl (Src.of_all (Whole.new w1 5 (_ :: _ :: _ :: _ :: [])))
         (by rw [← hbe.out]; exact bts_one _) hm2.out hm4.out (by have := hc1.size; simp; omega) ?_
       intro v2 w2 ho2 hg2 _
       have hc2 : Chg [] w w2 := (hc1.alloc _).own (own_keep ho1 ((Chg.refl _ _).alloc _)) (Nat.le_refl _) hg2
       clear hg2))
  go_ret
  refine ⟨v2, rfl, ?_, hc2⟩
  rw [← hbe.out] at ho2
  have e1 : (l ++ be4 k).length = n + 4 := by rw [List.length_append, be4_len, hl]
  have e2 : bts (l ++ be4 k) = bts l ++ bts (be4 k) := by simp [bts]
  rw [e1, e2]
  exact ho2
end
end Go.Proofs.Ytlhkmbcjgdjegaa
