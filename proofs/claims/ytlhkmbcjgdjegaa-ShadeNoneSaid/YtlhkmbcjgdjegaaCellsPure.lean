/-
  Memory as lists of bytes: numbers in it, the lowest byte first.
-/
import Derived.Test.YtlhkmbcjgdjegaaWordPure
import Derived.Test.YtlhkmbcjgdjegaaMem
namespace Go.Proofs.Ytlhkmbcjgdjegaa
open Go.RowKit

/-- Byte i of a number. -/
def byteN (n : Int) (i : Nat) : UInt8 := UInt8.ofNat (n / 2 ^ (8 * i) % 256).toNat
theorem byteN_int (n : Int) (i : Nat) : ((byteN n i).toNat : Int) = n / 2 ^ (8 * i) % 256 := by
  unfold byteN
  rw [UInt8.toNat_ofNat']
  have h1 := Int.emod_nonneg (n / 2 ^ (8 * i)) (show (256 : Int) ≠ 0 by omega)
  have h2 := Int.emod_lt_of_pos (n / 2 ^ (8 * i)) (show (0 : Int) < 256 by omega)
  omega
/-- m bytes of n from k on. -/
def stL (L : List UInt8) (k : Nat) (n : Int) : Nat → List UInt8
  | 0 => L
  | m + 1 => (stL L k n m).set (k + m) (byteN n m)
def stV (V : List Bool) (k : Nat) : Nat → List Bool
  | 0 => V
  | m + 1 => (stV V k m).set ((k + m) / 64) true
theorem stL_len (L : List UInt8) (k : Nat) (n : Int) (m : Nat) : (stL L k n m).length = L.length := by
  induction m with
  | zero => rfl
  | succ m ih => rw [stL, List.length_set, ih]
theorem stV_len (V : List Bool) (k m : Nat) : (stV V k m).length = V.length := by
  induction m with
  | zero => rfl
  | succ m ih => rw [stV, List.length_set, ih]
theorem stL_get (L : List UInt8) (k : Nat) (n : Int) (m i : Nat) (hi : i < m) (h : k + m ≤ L.length) : (stL L k n m)[k + i]? = some (byteN n i) := by
  induction m with
  | zero => omega
  | succ m ih =>
    rw [stL, List.getElem?_set]
    by_cases e : m = i
    · subst e
      rw [if_pos rfl, if_pos (by rw [stL_len]; omega)]
    · rw [if_neg (by omega)]
      exact ih (by omega) (by omega)
/-- The number that bytes are, the lowest first. -/
def ldN : List UInt8 → Nat
  | [] => 0
  | b :: l => b.toNat + 256 * ldN l
theorem ldN_lt (l : List UInt8) : ldN l < 256 ^ l.length := by
  induction l with
  | nil => simp [ldN]
  | cons b l ih =>
    have h := b.toNat_lt
    rw [ldN, List.length_cons, Nat.pow_succ]
    omega
theorem ldN_next (L : List UInt8) (k j m : Nat) (h : k + j < L.length) (hm : 0 < m) : ldN ((L.drop (k + j)).take m) = (L[k + j]).toNat + 256 * ldN ((L.drop (k + j + 1)).take (m - 1)) := by
  obtain ⟨q, rfl⟩ : ∃ q, m = q + 1 := ⟨m - 1, by omega⟩
  rw [List.drop_eq_getElem_cons h, List.take_succ_cons, ldN]
  rfl
/-- What a Load tells. -/
def ldI (L : List UInt8) (k s : Nat) : Int := IntKind.i64.wrap (ldN ((L.drop k).take s) : Nat)
theorem ldI_one (L : List UInt8) (k : Nat) (b : UInt8) (h : L[k]? = some b) : ldI L k 1 = (b.toNat : Int) := by
  have hk := (List.getElem?_eq_some_iff.1 h).1
  have hb := (List.getElem?_eq_some_iff.1 h).2
  have e : ldN ((L.drop k).take 1) = L[k].toNat + 256 * ldN ((L.drop (k + 1)).take 0) := ldN_next L k 0 1 hk (by omega)
  have h0 : ldN ((L.drop (k + 1)).take 0) = 0 := rfl
  have hlt := b.toNat_lt
  unfold ldI
  rw [e, h0, hb, IntKind.wrap_i64]
  omega
theorem take8 (L : List UInt8) (k : Nat) (b0 b1 b2 b3 b4 b5 b6 b7 : UInt8) (h0 : L[k]? = some b0) (h1 : L[k + 1]? = some b1) (h2 : L[k + 2]? = some b2) (h3 : L[k + 3]? = some b3)
    (h4 : L[k + 4]? = some b4) (h5 : L[k + 5]? = some b5) (h6 : L[k + 6]? = some b6) (h7 : L[k + 7]? = some b7) : (L.drop k).take 8 = [b0, b1, b2, b3, b4, b5, b6, b7] := by
  apply List.ext_getElem?
  intro i
  rw [List.getElem?_take, List.getElem?_drop]
  match i with
  | 0 => simpa using h0
  | 1 => simpa using h1
  | 2 => simpa using h2
  | 3 => simpa using h3
  | 4 => simpa using h4
  | 5 => simpa using h5
  | 6 => simpa using h6
  | 7 => simpa using h7
  | i + 8 => simp; omega
/-- A wide number that was stored is loaded. -/
theorem ldI_st (L : List UInt8) (k : Nat) (n : Int) (hn : In64 n) (h : k + 8 ≤ L.length) : ldI (stL L k n 8) k 8 = n := by
  have g := fun i hi => stL_get L k n 8 i hi h
  have e := take8 (stL L k n 8) k _ _ _ _ _ _ _ _ (g 0 (by omega)) (g 1 (by omega)) (g 2 (by omega)) (g 3 (by omega)) (g 4 (by omega)) (g 5 (by omega)) (g 6 (by omega)) (g 7 (by omega))
  have q := byteN_int n
  have q0 := q 0; have q1 := q 1; have q2 := q 2; have q3 := q 3; have q4 := q 4; have q5 := q 5; have q6 := q 6; have q7 := q 7
  simp only [Nat.mul_zero, Nat.mul_one, Nat.reduceMul, Int.pow_zero, Int.ediv_one, Int.reducePow] at q0 q1 q2 q3 q4 q5 q6 q7
  obtain ⟨n1, n2⟩ := hn
  unfold ldI
  rw [e]
  simp only [ldN]
  rw [IntKind.wrap_i64]
  generalize (byteN n 0).toNat = c0 at *
  generalize (byteN n 1).toNat = c1 at *
  generalize (byteN n 2).toNat = c2 at *
  generalize (byteN n 3).toNat = c3 at *
  generalize (byteN n 4).toNat = c4 at *
  generalize (byteN n 5).toNat = c5 at *
  generalize (byteN n 6).toNat = c6 at *
  generalize (byteN n 7).toNat = c7 at *
  omega
theorem u64_shl_or (a : Nat) (b : UInt8) (ha : a < 72057594037927936) : bits .or .u64 ((a : Int) * 256) (b.toNat : Int) = ((b.toNat + 256 * a : Nat) : Int) := by
  have hb := b.toNat_lt
  have e := bits_or_u64_nat (a * 256) b.toNat (by omega) (by omega)
  have e1 : ((a * 256 : Nat) : Int) = (a : Int) * 256 := by omega
  rw [e1] at e
  rw [e]
  congr 1
  have h := Nat.shiftLeft_add_eq_or_of_lt (i := 8) (b := b.toNat) (by omega) a
  rw [Nat.shiftLeft_eq] at h
  have h256 : (2 : Nat) ^ 8 = 256 := rfl
  rw [h256] at h
  rw [← h]
  omega
end Go.Proofs.Ytlhkmbcjgdjegaa
