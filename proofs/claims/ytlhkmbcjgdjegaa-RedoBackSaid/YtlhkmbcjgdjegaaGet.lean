/-
  Get of package sum, and of the reference: four bytes as a number.
-/
import Derived.Test.YtlhkmbcjgdjegaaChecked
import Derived.Test.YtlhkmbcjgdjegaaSum
import Derived.Laws.BitsAllLaws
namespace Go.Proofs.Ytlhkmbcjgdjegaa
open Go.RowKit

/-- Bytes as a number, the highest first. -/
def numB (l : List UInt8) : Nat := l.foldl (fun g b => g * 256 + b.toNat) 0
theorem numB_snoc (l : List UInt8) (b : UInt8) : numB (l ++ [b]) = numB l * 256 + b.toNat := by simp [numB]
theorem fold_lt : ∀ (l : List UInt8) (g : Nat), l.foldl (fun g b => g * 256 + b.toNat) g < (g + 1) * 256 ^ l.length
  | [], g => by simp
  | b :: l, g => by
    have h := fold_lt l (g * 256 + b.toNat)
    have hb := b.toNat_lt
    have h2 : (g * 256 + b.toNat + 1) * 256 ^ l.length ≤ ((g + 1) * 256) * 256 ^ l.length := Nat.mul_le_mul_right _ (by omega)
    rw [List.foldl_cons, List.length_cons, Nat.pow_succ, Nat.mul_comm (256 ^ l.length) 256, ← Nat.mul_assoc]
    omega
theorem numB_lt (l : List UInt8) : numB l < 256 ^ l.length := by
  have := fold_lt l 0
  simpa [numB] using this
theorem numB_lt4 (l : List UInt8) (k : Nat) : numB ((l.drop k).take 4) < 4294967296 := by
  have h := numB_lt ((l.drop k).take 4)
  have h2 : ((l.drop k).take 4).length ≤ 4 := by rw [List.length_take]; omega
  have : 256 ^ ((l.drop k).take 4).length ≤ 256 ^ 4 := Nat.pow_le_pow_right (by omega) h2
  omega
theorem numB_next (l : List UInt8) (k j : Nat) (h : k + j < l.length) : numB ((l.drop k).take (j + 1)) = numB ((l.drop k).take j) * 256 + (l[k + j]).toNat := by
  rw [List.take_succ_eq_append_getElem (by rw [List.length_drop]; omega), numB_snoc, List.getElem_drop]
theorem numB_ltj (l : List UInt8) (k j : Nat) (hj : j < 4) : numB ((l.drop k).take j) < 16777216 := by
  have h := numB_lt ((l.drop k).take j)
  have h2 : ((l.drop k).take j).length ≤ 3 := by rw [List.length_take]; omega
  have : 256 ^ ((l.drop k).take j).length ≤ 256 ^ 3 := Nat.pow_le_pow_right (by omega) h2
  omega
theorem or_byte (g : Nat) (q : UInt8) (hg : g < 16777216) : bits .or .u32 ((g : Int) * 256 % 4294967296) ((q.toNat : Int) % 4294967296) = ((g * 256 + q.toNat : Nat) : Int) := by
  have hq := q.toNat_lt
  have e1 : (g : Int) * 256 % 4294967296 = ((g * 256 : Nat) : Int) := by omega
  have e2 : (q.toNat : Int) % 4294967296 = ((q.toNat : Nat) : Int) := by omega
  rw [e1, e2, u32_or_nat _ _ (by omega) (by omega), nat_join 8 (g * 256) q.toNat (by omega) (by omega)]
theorem or_sum (i x y : Nat) (hx : x < 4294967296) (hy : y < 2 ^ i) (hy2 : y < 4294967296) (h0 : x % 2 ^ i = 0) : bits .or .u32 (x : Int) (y : Int) = ((x + y : Nat) : Int) := by
  rw [u32_or_nat x y hx hy2, nat_join i x y h0 hy]
def K24 : Nat := 16777216
theorem or_four (a b c d : UInt8) : bits .or .u32 (bits .or .u32 (bits .or .u32 ((a.toNat : Int) % 4294967296 * 16777216 % 4294967296) ((b.toNat : Int) % 4294967296 * 65536 % 4294967296)) ((c.toNat : Int) % 4294967296 * 256 % 4294967296)) ((d.toNat : Int) % 4294967296) =
    ((((a.toNat * 256 + b.toNat) * 256 + c.toNat) * 256 + d.toNat : Nat) : Int) := by
  have h1 := a.toNat_lt
  have h2 := b.toNat_lt
  have h3 := c.toNat_lt
  have h4 := d.toNat_lt
  generalize a.toNat = a at *
  generalize b.toNat = b at *
  generalize c.toNat = c at *
  generalize d.toNat = d at *
  obtain ⟨A, hA⟩ : ∃ A, A = a * 16777216 := ⟨_, rfl⟩
  have e1 : (a : Int) % 4294967296 * 16777216 % 4294967296 = (A : Int) := by omega
  have e2 : (b : Int) % 4294967296 * 65536 % 4294967296 = ((b * 65536 : Nat) : Int) := by omega
  have e3 : (c : Int) % 4294967296 * 256 % 4294967296 = ((c * 256 : Nat) : Int) := by omega
  have e4 : (d : Int) % 4294967296 = (d : Int) := by omega
  rw [e1, e2, e3, e4, or_sum 24 A (b * 65536) (by omega) (by omega) (by omega) (by omega), or_sum 16 (A + b * 65536) (c * 256) (by omega) (by omega) (by omega) (by omega), or_sum 8 (A + b * 65536 + c * 256) d (by omega) (by omega) (by omega) (by omega)]
  congr 1
  omega

/-- What Get answers. -/
def getI (l : List UInt8) (at_ : Int) : Nat := if 0 ≤ at_ ∧ at_ + 4 ≤ l.length then numB ((l.drop at_.toNat).take 4) else 0
theorem getI_lt (l : List UInt8) (i : Int) : getI l i < 4294967296 := by
  unfold getI
  split
  · exact numB_lt4 _ _
  · omega

section
variable {w : World} {A : Option Addr} {n c : Nat} {l : List UInt8}
set_option maxHeartbeats 400000 in
theorem get_no (hn : n ≤ 9223372036854775807) (i : Int) (h : i < 0 ∨ (n : Int) < i + 4) (hi : i ≤ 9223372036854775807) :
    Calls Try.prog 101 #[.slice A n c, .int .i64 i] w fun e w' => e = .returned (.int .u32 0) ∧ w = w' := by
  by_cases h0 : i < 0
  · go_enter Try.func101, Try.ntmps101
    go_wp2_with fail
    go_ret
    exact ⟨rfl, rfl⟩
  · have h1 : (n : Int) - 4 < i := by omega
    have h2 : 0 ≤ i := by omega
    have hd : decide (i < 0) = false := by simpa using h0
    clear h
    go_enter Try.func101, Try.ntmps101
    go_wp2_with fail
    go_ret
    exact ⟨rfl, rfl⟩
set_option maxHeartbeats 400000 in
theorem get_yes (hl : l.length = n) (hs : Src w A (bts l)) (hn : n ≤ 9223372036854775807) (hsp : 0 < n → ∀ ad, A = some ad → ad.spot = none) (k : Nat) (hk : k + 4 ≤ n) (hnc : n ≤ c) (hc : c ≤ 9223372036854775807) :
    Calls Try.prog 101 #[.slice A n c, .int .i64 (k : Int)] w fun e w' => e = .returned (.int .u32 (numB ((l.drop k).take 4) : Nat)) ∧ w = w' := by
  have HL := Lib.hid hl
  have HS := Lib.hid hsp
  clear hl hsp
  obtain ⟨⟨b, o, s⟩, rfl, _, hx⟩ := hs (by rw [bts_len, HL.out]; omega)
  obtain rfl : s = none := HS.out (by omega) _ rfl
  go_enter Try.func101, Try.ntmps101
  go_wp2_with fail
  go_loop [5, 23] (fun h i => ∃ j : Nat, j ≤ 4 ∧ i = .int .i64 (j : Int) ∧ h = .int .u32 ((numB ((l.drop k).take j) : Nat) : Int)) (fun _ i => 4 - (intOf i).toNat)
  case atStart => exact ⟨0, by omega, rfl, rfl⟩
  case round =>
    obtain ⟨j, hj, rfl, rfl⟩ := hrel
    by_cases hlt : j < 4
    · have hkl : k + j < l.length := by rw [HL.out]; omega
      have hx1 := hx (k + j) _ (bts_get l (k + j) hkl)
      rw [add_plain] at hx1
      unfold B8 at hx1
      have hnx := numB_next l k j hkl
      have hgl := numB_ltj l k j hlt
      clear hx
      generalize l[k + j] = q at hx1 hnx
      have hob := or_byte _ q hgl
      rw [← hnx] at hob
      clear hnx
      generalize numB ((l.drop k).take j) = g at hob hgl
      have hob2 := Lib.hid hob
      clear hob hgl
      have hx2 : w.cell? ⟨b, o + k + j, none⟩ = some (.int .u8 (q.toNat : Int)) := by rw [← hx1, Nat.add_assoc]
      clear hx1
      go_wp2_with fail
      go_round
      case rel => exact ⟨j + 1, by omega, by go_num, by rw [hob2.out]⟩
      case measure => simp [intOf]; omega
    · obtain rfl : j = 4 := by omega
      go_wp2_with fail
      go_ret
      exact ⟨rfl, rfl⟩
set_option maxHeartbeats 400000 in
theorem rget_no (hn : n ≤ 9223372036854775807) (i : Int) (h : i < 0 ∨ (n : Int) < i + 4) (hi : i ≤ 9223372036854775807) :
    Calls Try.prog 136 #[.slice A n c, .int .i64 i] w fun e w' => e = .returned (.int .u32 0) ∧ w = w' := by
  by_cases h0 : i < 0
  · go_enter Try.func136, Try.ntmps136
    go_wp2_with fail
    go_ret
    exact ⟨rfl, rfl⟩
  · have h1 : (n : Int) - 4 < i := by omega
    have h2 : 0 ≤ i := by omega
    have hd : decide (i < 0) = false := by simpa using h0
    clear h
    go_enter Try.func136, Try.ntmps136
    go_wp2_with fail
    go_ret
    exact ⟨rfl, rfl⟩
set_option maxHeartbeats 1000000 in
theorem rget_yes (hl : l.length = n) (hs : Src w A (bts l)) (hn : n ≤ 9223372036854775807) (hsp : 0 < n → ∀ ad, A = some ad → ad.spot = none) (k : Nat) (hk : k + 4 ≤ n) :
    Calls Try.prog 136 #[.slice A n c, .int .i64 (k : Int)] w fun e w' => e = .returned (.int .u32 (numB ((l.drop k).take 4) : Nat)) ∧ Chg [] w w' := by
  have HL := Lib.hid hl
  have HS := Lib.hid hsp
  clear hl hsp
  obtain ⟨⟨b, o, s⟩, rfl, _, hx⟩ := hs (by rw [bts_len, HL.out]; omega)
  obtain rfl : s = none := HS.out (by omega) _ rfl
  have x0 := hx (k + 0) _ (bts_get l (k + 0) (by rw [HL.out]; omega))
  have x1 := hx (k + 1) _ (bts_get l (k + 1) (by rw [HL.out]; omega))
  have x2 := hx (k + 2) _ (bts_get l (k + 2) (by rw [HL.out]; omega))
  have x3 := hx (k + 3) _ (bts_get l (k + 3) (by rw [HL.out]; omega))
  have e0 := numB_next l k 0 (by rw [HL.out]; omega)
  have e1 := numB_next l k 1 (by rw [HL.out]; omega)
  have e2 := numB_next l k 2 (by rw [HL.out]; omega)
  have e3 := numB_next l k 3 (by rw [HL.out]; omega)
  have e00 : numB ((l.drop k).take 0) = 0 := rfl
  clear hx
  rw [add_plain] at x0 x1 x2 x3
  unfold B8 at x0 x1 x2 x3
  generalize l[k + 0]'(by rw [HL.out]; omega) = q0 at x0 e0
  generalize l[k + 1]'(by rw [HL.out]; omega) = q1 at x1 e1
  generalize l[k + 2]'(by rw [HL.out]; omega) = q2 at x2 e2
  generalize l[k + 3]'(by rw [HL.out]; omega) = q3 at x3 e3
  have ho := or_four q0 q1 q2 q3
  rw [show ((q0.toNat * 256 + q1.toNat) * 256 + q2.toNat) * 256 + q3.toNat = numB ((l.drop k).take 4) by rw [e3, e2, e1, e0, e00]; omega] at ho
  have HO := Lib.hid ho
  clear ho e0 e1 e2 e3 e00
  rw [Nat.add_zero] at x0
  rw [← Nat.add_assoc] at x1 x2 x3
  have b1 : (0 : Int) ≤ (k : Int) := by omega
  have b2 : (k : Int) + 1 < (n : Int) := by omega
  have b3 : (k : Int) + 2 < (n : Int) := by omega
  have b4 : (k : Int) + 3 < (n : Int) := by omega
  have b5 : (k : Int) < (n : Int) := by omega
  have m1 : IntKind.i64.wrap ((k : Int) + 1) = (k : Int) + 1 := IntWalk.i64_in _ (by omega)
  have m2 : IntKind.i64.wrap ((k : Int) + 2) = (k : Int) + 2 := IntWalk.i64_in _ (by omega)
  have m3 : IntKind.i64.wrap ((k : Int) + 3) = (k : Int) + 3 := IntWalk.i64_in _ (by omega)
  have n1 : ((k : Int) + 1).toNat = k + 1 := by omega
  have n2 : ((k : Int) + 2).toNat = k + 2 := by omega
  have n3 : ((k : Int) + 3).toNat = k + 3 := by omega
  have p1 : (0 : Int) ≤ (k : Int) + 1 := by omega
  have p2 : (0 : Int) ≤ (k : Int) + 2 := by omega
  have p3 : (0 : Int) ≤ (k : Int) + 3 := by omega
  rw [Nat.add_assoc] at x1 x2 x3
  go_enter Try.func136, Try.ntmps136
  go_wp2_with fail
  go_quiet (fail)
  go_wp2_with fail
  go_ret
  exact ⟨ret_int HO.out, (Chg.refl _ _).drewN _⟩
end
end Go.Proofs.Ytlhkmbcjgdjegaa
