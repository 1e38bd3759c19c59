/-
  Numbers of 64 bits: the mathematics.
-/
import Derived.Laws.BitsLemmas
import Derived.IntWalk
namespace Go.Proofs.Ytlhkmbcjgdjegaa
open Go.RowKit

theorem i64_and63 (n : Int) : bits .and .i64 n 63 = n % 64 := by
  have h127 : (BitVec.ofInt 64 63).toNat = 2 ^ 6 - 1 := by decide
  have key : (BitVec.ofInt 64 n &&& BitVec.ofInt 64 63).toNat = (n % ((2 ^ 64 : Nat) : Int)).toNat % 2 ^ 6 := by
    rw [BitVec.toNat_and, BitVec.toNat_ofInt, h127, Nat.and_two_pow_sub_one_eq_mod]
  show IntKind.i64.wrap ((BitVec.ofInt 64 n &&& BitVec.ofInt 64 63).toNat : Nat) = n % 64
  rw [key, IntKind.wrap_i64]
  omega
theorem i64_and255 (n : Int) : bits .and .i64 n 255 = n % 256 := by
  have h127 : (BitVec.ofInt 64 255).toNat = 2 ^ 8 - 1 := by decide
  have key : (BitVec.ofInt 64 n &&& BitVec.ofInt 64 255).toNat = (n % ((2 ^ 64 : Nat) : Int)).toNat % 2 ^ 8 := by
    rw [BitVec.toNat_and, BitVec.toNat_ofInt, h127, Nat.and_two_pow_sub_one_eq_mod]
  show IntKind.i64.wrap ((BitVec.ofInt 64 n &&& BitVec.ofInt 64 255).toNat : Nat) = n % 256
  rw [key, IntKind.wrap_i64]
  omega
theorem i64_and7 (n : Int) : bits .and .i64 n 7 = n % 8 := by
  have h127 : (BitVec.ofInt 64 7).toNat = 2 ^ 3 - 1 := by decide
  have key : (BitVec.ofInt 64 n &&& BitVec.ofInt 64 7).toNat = (n % ((2 ^ 64 : Nat) : Int)).toNat % 2 ^ 3 := by
    rw [BitVec.toNat_and, BitVec.toNat_ofInt, h127, Nat.and_two_pow_sub_one_eq_mod]
  show IntKind.i64.wrap ((BitVec.ofInt 64 n &&& BitVec.ofInt 64 7).toNat : Nat) = n % 8
  rw [key, IntKind.wrap_i64]
  omega

/-- A number's bits. -/
def U (n : Int) : BitVec 64 := BitVec.ofInt 64 n
theorem toInt_wrap (x : BitVec 64) : IntKind.i64.wrap (x.toNat : Int) = x.toInt := by
  have h := x.isLt
  rw [IntKind.wrap_i64, BitVec.toInt_eq_toNat_cond]
  split <;> omega
theorem and_U (a b : Int) : bits .and .i64 a b = (U a &&& U b).toInt := toInt_wrap _
theorem or_U (a b : Int) : bits .or .i64 a b = (U a ||| U b).toInt := toInt_wrap _
theorem xor_U (a b : Int) : bits .xor .i64 a b = (U a ^^^ U b).toInt := toInt_wrap _
theorem U_toInt (x : BitVec 64) : U x.toInt = x := BitVec.ofInt_toInt
def In64 (a : Int) : Prop := -9223372036854775808 ≤ a ∧ a ≤ 9223372036854775807
theorem toInt_U {a : Int} (h : In64 a) : (U a).toInt = a := by
  obtain ⟨h1, h2⟩ := h
  unfold U
  rw [BitVec.toInt_ofInt, Int.bmod_def]
  split <;> omega
theorem toInt_in (x : BitVec 64) : In64 x.toInt := by
  have h := x.isLt
  unfold In64
  rw [BitVec.toInt_eq_toNat_cond]
  split <;> omega
theorem xor_back {a b : Int} (h : In64 a) : bits .xor .i64 (bits .xor .i64 a b) b = a := by
  rw [xor_U, xor_U, U_toInt, BitVec.xor_assoc, BitVec.xor_self, BitVec.xor_zero, toInt_U h]

theorem wrap64_mod (x : Int) : wrap64 x % 18446744073709551616 = x % 18446744073709551616 := by unfold wrap64; omega
theorem wrap64_congr {x y : Int} (h : x % 18446744073709551616 = y % 18446744073709551616) : wrap64 x = wrap64 y := by unfold wrap64; omega
theorem wrap64_in64 (x : Int) : In64 (wrap64 x) := by unfold In64 wrap64; omega
theorem wrap64_id {x : Int} (h : In64 x) : wrap64 x = x := IntWalk.wrap64_in x h
theorem U_mod {x y : Int} (h : x % 18446744073709551616 = y % 18446744073709551616) : U x = U y := by
  unfold U
  apply BitVec.eq_of_toNat_eq
  rw [BitVec.toNat_ofInt, BitVec.toNat_ofInt]
  show (x % 18446744073709551616).toNat = (y % 18446744073709551616).toNat
  rw [h]
/-- What + takes, - gives back. -/
theorem sub_back {a : Int} (b : Int) (h : In64 a) : wrap64 (wrap64 (a + b) - b) = a := by
  rw [wrap64_congr (y := a) (by have := wrap64_mod (a + b); omega), wrap64_id h]
/-- Quotient and rest give the number back. -/
theorem quo_back {a : Int} (b : Int) (h : In64 a) : wrap64 (wrap64 (wrap64 (a.tdiv b) * b) + a.tmod b) = a := by
  have e1 : (wrap64 (a.tdiv b) * b) % 18446744073709551616 = (a.tdiv b * b) % 18446744073709551616 := by
    rw [Int.mul_emod, wrap64_mod, ← Int.mul_emod]
  have e2 := wrap64_mod (wrap64 (a.tdiv b) * b)
  have e3 : a.tdiv b * b + a.tmod b = a := Int.tdiv_mul_add_tmod a b
  generalize wrap64 (wrap64 (a.tdiv b) * b) = X at *
  generalize wrap64 (a.tdiv b) * b = Y at *
  generalize a.tdiv b * b = Z at *
  rw [wrap64_congr (y := a) (by omega), wrap64_id h]
theorem tmod_bd (a : Int) : -1000 < a.tmod 1000 ∧ a.tmod 1000 < 1000 := ⟨Int.lt_tmod_of_pos a (by omega), Int.tmod_lt_of_pos a (by omega)⟩
theorem shift_back (a : Int) : wrap64 (a.tmod 1000 * 1099511627776) / 1099511627776 = a.tmod 1000 := by
  obtain ⟨h1, h2⟩ := tmod_bd a
  generalize a.tmod 1000 = r at *
  rw [wrap64_id (by unfold In64; omega)]
  omega
theorem bv_and_or (x y : BitVec 64) : (x &&& y) + (x ||| y) = x + y := by
  have h1 : x ||| y = x + (y &&& ~~~x) := by
    rw [BitVec.add_eq_or_of_and_eq_zero x (y &&& ~~~x) (by ext i; simp; intro a b; exact a)]
    ext i hi
    simp
    cases x[i] <;> simp
  have h2 : y = (x &&& y) + (y &&& ~~~x) := by
    rw [BitVec.add_eq_or_of_and_eq_zero (x &&& y) (y &&& ~~~x) (by ext i; simp; intro a b; exact a)]
    ext i hi
    simp
    cases x[i] <;> cases y[i] <;> rfl
  rw [h1, ← BitVec.add_assoc, BitVec.add_comm (x &&& y) x, BitVec.add_assoc, ← h2]
/-- and, or: together the sum. -/
theorem and_or (a b : Int) : wrap64 (bits .and .i64 a b + bits .or .i64 a b) = wrap64 (a + b) := by
  have key : (U a &&& U b) + (U a ||| U b) = U a + U b := by
    exact bv_and_or _ _
  have h1 : ∀ x y : BitVec 64, wrap64 (x.toInt + y.toInt) = (x + y).toInt := by
    intro x y
    rw [BitVec.toInt_add, Int.bmod_def]; unfold wrap64
    split <;> omega
  have h2 : ∀ n : Int, (U n).toInt = wrap64 n := by
    intro n; rw [U_mod (x := n) (y := wrap64 n) (wrap64_mod n).symm, toInt_U (wrap64_in64 n)]
  rw [and_U, or_U, h1, key, ← h1, h2, h2]
  apply wrap64_congr
  have := wrap64_mod a; have := wrap64_mod b
  omega
/-- A bit. -/
def bitI (n : Int) (k : Nat) : Int := if (U n).getLsbD k then 1 else 0
theorem bitI_is (n : Int) (k : Nat) : (n % 18446744073709551616) / 2 ^ k % 2 = bitI n k := by
  have e : (U n).getLsbD k = (n % 18446744073709551616).toNat.testBit k := by
    unfold U; rw [BitVec.getLsbD, BitVec.toNat_ofInt]; rfl
  unfold bitI
  rw [e]
  obtain ⟨X, hX⟩ := Int.eq_ofNat_of_zero_le (Int.emod_nonneg n (show (18446744073709551616 : Int) ≠ 0 by decide))
  rw [hX, Int.toNat_natCast, Nat.testBit_eq_decide_div_mod_eq]
  have hd : ((X : Int) / 2 ^ k % 2) = ((X / 2 ^ k % 2 : Nat) : Int) := by simp
  rw [hd]
  have h2 : X / 2 ^ k % 2 = 0 ∨ X / 2 ^ k % 2 = 1 := by omega
  rcases h2 with h2 | h2 <;> simp [h2]
theorem bitI_01 (n : Int) (k : Nat) : bitI n k = 0 ∨ bitI n k = 1 := by unfold bitI; split <;> simp
theorem bitI_and (a b : Int) (k : Nat) : bitI (bits .and .i64 a b) k = bitI a k * bitI b k := by
  unfold bitI; rw [and_U, U_toInt, BitVec.getLsbD_and]
  cases (U a).getLsbD k <;> cases (U b).getLsbD k <;> rfl
theorem bitI_or (a b : Int) (k : Nat) : bitI (bits .or .i64 a b) k = max (bitI a k) (bitI b k) := by
  unfold bitI; rw [or_U, U_toInt, BitVec.getLsbD_or]
  cases (U a).getLsbD k <;> cases (U b).getLsbD k <;> decide
theorem bitI_xor (a b : Int) (k : Nat) : bitI (bits .xor .i64 a b) k = (bitI a k + bitI b k) % 2 := by
  unfold bitI; rw [xor_U, U_toInt, BitVec.getLsbD_xor]
  cases (U a).getLsbD k <;> cases (U b).getLsbD k <;> rfl
theorem u64_and1 (n : Int) : bits .and .u64 n 1 = n % 2 := by
  have h1 : (BitVec.ofInt 64 1).toNat = 2 ^ 1 - 1 := by decide
  have key : (BitVec.ofInt 64 n &&& BitVec.ofInt 64 1).toNat = (n % ((2 ^ 64 : Nat) : Int)).toNat % 2 ^ 1 := by
    rw [BitVec.toNat_and, BitVec.toNat_ofInt, h1, Nat.and_two_pow_sub_one_eq_mod]
  show IntKind.u64.wrap ((BitVec.ofInt 64 n &&& BitVec.ofInt 64 1).toNat : Nat) = n % 2
  rw [key]
  simp [IntKind.wrap, IntKind.bits, IntKind.signed]
  omega
/-- What Do answers: the number, the trap. -/
def doR (s a b : Int) : Int × Int :=
  if s = 43 then (wrap64 (a + b), 0) else if s = 45 then (wrap64 (a - b), 0) else if s = 42 then (wrap64 (a * b), 0)
  else if s = 47 then (if b = 0 then (0, 3) else if a = -9223372036854775808 ∧ b = -1 then (0, 4) else (wrap64 (a.tdiv b), 0))
  else if s = 37 then (if b = 0 then (0, 3) else (a.tmod b, 0))
  else if s = 38 then (bits .and .i64 a b, 0) else if s = 124 then (bits .or .i64 a b, 0) else if s = 94 then (bits .xor .i64 a b, 0)
  else if s = 60 then (if a < b then 1 else 0, 0) else if s = 61 then (if a = b then 1 else 0, 0)
  else if s = 171 then (wrap64 (a * 2 ^ (b % 64).toNat), 0) else if s = 187 then (a / 2 ^ (b % 64).toNat, 0)
  else if s = 33 then (if a = 0 then 1 else 0, 0) else (0, 2)
theorem doR_none {s : Int} (a b : Int) (h : s ≠ 43 ∧ s ≠ 45 ∧ s ≠ 42 ∧ s ≠ 47 ∧ s ≠ 37 ∧ s ≠ 38 ∧ s ≠ 124 ∧ s ≠ 94 ∧ s ≠ 60 ∧ s ≠ 61 ∧ s ≠ 171 ∧ s ≠ 187 ∧ s ≠ 33) : doR s a b = (0, 2) := by
  obtain ⟨h1, h2, h3, h4, h5, h6, h7, h8, h9, h10, h11, h12, h13⟩ := h
  simp [doR, h1, h2, h3, h4, h5, h6, h7, h8, h9, h10, h11, h12, h13]
end Go.Proofs.Ytlhkmbcjgdjegaa
