/-
  SO: RootBytes, RootRef.
-/
import Derived.Test.YtfhgnoajfipjdaaZSO3
import Derived.Test.YtfhgnoajfipjdaaZSO6
import Derived.Test.YtfhgnoajfipjdaaZSO16
import Derived.Lib.SlBytesConst
import Derived.Deep.RegionWith
namespace Go.Proofs.Ytfhgnoajfipjdaa
open Go.RowKit
def hdr (a b c : Nat) : Nat → List UInt8
  | 0 => markL
  | 1 => markL ++ be4 a
  | 2 => markL ++ be4 a ++ be4 b
  | _ => headR a b c
def numR (a b c : Nat) : Nat → Nat
  | 0 => a
  | 1 => b
  | _ => c
theorem hdr_next (a b c k : Nat) (hk : k < 3) : hdr a b c (k + 1) = hdr a b c k ++ be4 (numR a b c k) := by
  match k, hk with
  | 0, _ => rfl
  | 1, _ => rfl
  | 2, _ => rfl
theorem hdr_len (a b c k : Nat) (hk : k ≤ 3) : (hdr a b c k).length = 4 + k * 4 := by
  match k, hk with
  | 0, _ => rfl
  | 1, _ => rfl
  | 2, _ => rfl
  | 3, _ => rfl
theorem numR_lt (a b c k : Nat) (ha : a < 4294967296) (hb : b < 4294967296) (hc : c < 4294967296) : numR a b c k < 4294967296 := by
  match k with
  | 0 => exact ha
  | 1 => exact hb
  | _ + 2 => exact hc
theorem numR_cell (a b c k : Nat) (hk : k < 3) : ([.int .u32 (a : Int), .int .u32 (b : Int), .int .u32 (c : Int)] : List Value)[k]? = some (.int .u32 (numR a b c k : Int)) := by
  match k, hk with
  | 0, _ => rfl
  | 1, _ => rfl
  | 2, _ => rfl
theorem bts_mark : bts markL = [.int .u8 69, .int .u8 78, .int .u8 71, .int .u8 49] := rfl
theorem tn_int : Try.prog.underlying 3 = some (.int .i64) := Try.underlying3
section
variable {w : World}
set_option maxHeartbeats 4000000 in
set_option maxRecDepth 100000 in
theorem rootbytes_any (a b c : Nat) (ha : a ≤ 2147483647) (hb : b ≤ 2147483647) (hc : c < 4294967296) :
    Calls Try.prog 106 #[rootV a b c] w (BytesPost w (rootL a b c)) := by
  obtain ⟨i0, hi, hz, hs1, hb1⟩ := info_parts info_byte
  have ea : (a : Int) % 4294967296 = (a : Int) := by omega
  have eb : (b : Int) % 4294967296 = (b : Int) := by omega
  unfold rootV
  have hz1 : (w.alloc (.cells #[.int .i64 (a : Int), .int .i64 (b : Int), .int .u32 (c : Int)] 89)).heap.size = w.heap.size + 1 := by simp
  have kc := kc_at (w.alloc (.cells #[.int .i64 (a : Int), .int .i64 (b : Int), .int .u32 (c : Int)] 89)) hz1
  go_enter Try.func106, Try.ntmps106
  go_wp2_with fail
  clear kc
  clear hz1
  have hc1 : Chg [] w (w.alloc (.cells #[.int .i64 (a : Int), .int .i64 (b : Int), .int .u32 (c : Int)] 89)) := (Chg.refl [] w).alloc _
  have hz1 : (w.alloc (.cells #[.int .i64 (a : Int), .int .i64 (b : Int), .int .u32 (c : Int)] 89)).heap.size = w.heap.size + 1 := by simp
  generalize w.alloc (.cells #[.int .i64 (a : Int), .int .i64 (b : Int), .int .u32 (c : Int)] 89) = w1 at hz1 hc1 ⊢
  have hM := bs_const w1 5 markL (4, 5) (by simp [markL])
  rw [bts_mark, hz1] at hM
  have hc2 : Chg [] w (w1.alloc (.cells #[.int .u8 69, .int .u8 78, .int .u8 71, .int .u8 49] 5 (4, 5))) := hc1.alloc _
  have hz2 : (w1.alloc (.cells #[.int .u8 69, .int .u8 78, .int .u8 71, .int .u8 49] 5 (4, 5))).heap.size = w.heap.size + 1 + 1 := by simp; omega
  generalize w1.alloc (.cells #[.int .u8 69, .int .u8 78, .int .u8 71, .int .u8 49] 5 (4, 5)) = w2 at hz2 hc2 hM ⊢
  have hN := Whole.new w2 84 [.int .u32 (a : Int), .int .u32 (b : Int), .int .u32 (c : Int)]
  rw [hz2] at hN
  have hM3 := hM.keep ((Chg.refl [] w2).alloc (.cells #[.int .u32 (a : Int), .int .u32 (b : Int), .int .u32 (c : Int)] 84))
  have hc3 := hc2.alloc (.cells #[.int .u32 (a : Int), .int .u32 (b : Int), .int .u32 (c : Int)] 84)
  generalize w2.alloc (.cells #[.int .u32 (a : Int), .int .u32 (b : Int), .int .u32 (c : Int)] 84) = w3 at hN hM3 hc3 ⊢
  clear hM hz1 hz2 hc1 hc2 ea eb
  go_loopw [3, 18] (fun t i wr => ∃ k : Nat, k ≤ 3 ∧ i = .int .i64 (k : Int) ∧ (∃ A cc, t = .slice A (4 + k * 4) cc ∧ Bs wr A (4 + k * 4) cc (hdr a b c k)) ∧ Whole wr (w.heap.size + 1 + 1) 84 [.int .u32 (a : Int), .int .u32 (b : Int), .int .u32 (c : Int)] ∧ Chg [] w wr) (fun _ i _ => 3 - (intOf i).toNat)
  case atStart => exact ⟨0, by omega, rfl, ⟨_, _, rfl, hM3⟩, hN, hc3⟩
  case round =>
    obtain ⟨k, hk, rfl, ⟨A, cc, rfl, hB⟩, hW, hcr⟩ := hrel
    have HB := Lib.hid hB
    have HC := Lib.hid hcr
    have HW := Lib.hid hW
    clear hM3 hN hc3
    by_cases hlt : k < 3
    · have c0 := (hW.cell k).trans (numR_cell a b c k hlt)
      have hlti := numR_lt a b c k (by omega) (by omega) hc
      have HNX := Lib.hid (hdr_next a b c k hlt)
      clear hB hcr hW
      generalize numR a b c k = q at c0 hlti HNX
      have hkI : (k : Int) < 3 := by omega
      have hk0 : (0 : Int) ≤ (k : Int) := by omega
      go_wp2_with fail
      refine (put_b HB.out q hlti (by omega)).mono ?_
      rintro e w4 ⟨v4, rfl, ho4, hc4⟩
      have hl4 : (hdr a b c k ++ be4 q).length = 4 + (k + 1) * 4 := by rw [← HNX.out, hdr_len a b c (k + 1) (by omega)]
      rw [hl4] at ho4
      obtain ⟨A4, c4, rfl, hB4, _⟩ := Bs.of_own ho4
      have HB4 := Lib.hid hB4
      have HC4 := Lib.hid (HC.out.new hc4)
      have HW4 := Lib.hid (HW.out.keep hc4)
      clear hl4 ho4 hB4 hc4 c0
      go_wp2_with fail
      go_roundw
      case rel => exact ⟨k + 1, by omega, by go_num, ⟨A4, c4, rfl, by rw [HNX.out]; exact HB4.out⟩, HW4.out, HC4.out⟩
      case measure => simp [intOf]; omega
    · have hk3 : k = 3 := by omega
      subst hk3
      have hB16 : Bs wr A 16 cc (headR a b c) := HB.out
      have HB16 := Lib.hid hB16
      clear hB hcr hW hB16
      go_wp2_with fail
      refine (sumk_b HB16.out).mono ?_
      rintro e w' ⟨rfl, rfl⟩
      go_wp2_with fail
      refine (put_b HB16.out (sumK (headR a b c)) (sumK_lt _) (by omega)).mono ?_
      rintro e w5 ⟨v5, rfl, ho5, hc5⟩
      have hl5 : (headR a b c ++ be4 (sumK (headR a b c))).length = 20 := rfl
      rw [hl5] at ho5
      have HC5 := Lib.hid (HC.out.new hc5)
      have hsz := HC.out.size
      have HRL := Lib.hid (show rootL a b c = (headR a b c ++ be4 (sumK (headR a b c))) ++ zeros 44 from rfl)
      generalize headR a b c ++ be4 (sumK (headR a b c)) = Z at ho5 HRL
      obtain ⟨g, r, rfl, hbg, _, _⟩ := own_whole ho5 (by omega)
      obtain ⟨g', cap', w6, hr, ho6, hg6, hor⟩ := run_append_zeros (P := Try.prog) w5 wr.heap.size 46 3 46 5 i0 _ 1 .i64 Try.underlying46 tn_int hi hz hs1 hb1 rfl rfl g 20 (20 + r.length) (bts Z) ho5 44 (by unfold maxLen; omega) (by omega) hc5.size
      have hc6 : Chg [] wr w6 := hc5.own ho5 (Nat.le_refl _) hg6
      have HR := Lib.hid hr
      have HO := Lib.hid ho6
      have HC6 := Lib.hid (HC.out.new hc6)
      clear hr ho6 hg6 hor hc6 ho5 hc5 hl5
      go_wp2_with (at_builtin; refine Lib.wpList_append_run w5 rfl (.tmp 30) (.tmp 33) 46 3 rfl _ _ rfl rfl _ _ HR.out ?_)
      go_ret
      refine ⟨_, rfl, ?_, HC6.out⟩
      have e1 : (rootL a b c).length = 20 + 44 := rootL_len a b c
      have e2 : bts (rootL a b c) = bts Z ++ List.replicate 44 (.int .u8 0) := by rw [HRL.out, bts_app, bts_zeros]
      rw [e1, e2]
      exact own_more HO.out hsz
end
end Go.Proofs.Ytfhgnoajfipjdaa
namespace Go.Proofs.Ytfhgnoajfipjdaa
open Go.RowKit
/-- From w to w' nothing has turned but the marks of rows that hold the mark's four bytes, from block B on. -/
structure Rm (B : Nat) (w w' : World) : Prop where
  os : w'.os = w.os
  tape : w'.tape = w.tape
  output : w'.output = w.output
  size : w.heap.size ≤ w'.heap.size
  block : ∀ k, k < w.heap.size → w'.heap[k]? = w.heap[k]? ∨ (B ≤ k ∧ ∃ t fz fz', w.heap[k]? = some (.cells (bts markL).toArray t fz) ∧ w'.heap[k]? = some (.cells (bts markL).toArray t fz'))
set_option maxRecDepth 100000 in
theorem Rm.of_chg {B : Nat} {w w' : World} (h : Chg [] w w') : Rm B w w' := ⟨h.os, h.tape, h.output, h.size, fun k hk => .inl (h.block k hk (by simp))⟩
set_option maxRecDepth 100000 in
theorem Rm.trans {B : Nat} {a b c : World} (h : Rm B a b) (k : Rm B b c) : Rm B a c := by
  refine ⟨k.os.trans h.os, k.tape.trans h.tape, k.output.trans h.output, Nat.le_trans h.size k.size, fun i hi => ?_⟩
  rcases h.block i hi with h1 | ⟨hB, t, fz, fz', h1, h2⟩
  · rcases k.block i (Nat.lt_of_lt_of_le hi h.size) with k1 | ⟨hB, t, fz, fz', k1, k2⟩
    · exact .inl (k1.trans h1)
    · exact .inr ⟨hB, t, fz, fz', by rw [← h1]; exact k1, k2⟩
  · rcases k.block i (Nat.lt_of_lt_of_le hi h.size) with k1 | ⟨_, t2, fz2, fz3, k1, k2⟩
    · exact .inr ⟨hB, t, fz, fz', h1, k1.trans h2⟩
    · rw [h2] at k1
      injection k1 with k1
      injection k1 with _ k3 _
      subst k3
      exact .inr ⟨hB, t, fz, fz3, h1, k2⟩
set_option maxRecDepth 100000 in
theorem Rm.chg {B : Nat} {w w' : World} (h : Rm B w w') (hB : w.heap.size ≤ B) : Chg [] w w' :=
  ⟨h.os, h.tape, h.output, h.size, fun k hk _ => (h.block k hk).elim id fun ⟨hb, _⟩ => by omega⟩
section
variable {T : Turns} {w0 : World} {a0 : Act} {ops : List Oper} {Q : Exit → Act → World → Prop} {F : Said} {k : Nat} {rest : List Oper}
  {d : Option Tmp} {ty : TypeId} {pos : String} {af : Array Go.Edge} {g : Option (Nat × Bool)} {B : Nat}
end
end Go.Proofs.Ytfhgnoajfipjdaa
