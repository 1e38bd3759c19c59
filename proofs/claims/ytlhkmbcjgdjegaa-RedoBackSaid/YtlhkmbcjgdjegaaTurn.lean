/-
  What a byte that is turned does to a sum: plain numbers.
-/
import Derived.Test.YtlhkmbcjgdjegaaSum
import Derived.Laws.BitsAllLaws
namespace Go.Proofs.Ytlhkmbcjgdjegaa
open Go.RowKit

def stpN (h : Nat) (b : UInt8) : Nat := (h ^^^ b.toNat) * 16777619 % 4294967296
def sumN (h : Nat) (l : List UInt8) : Nat := l.foldl stpN h
theorem xor_lt (h : Nat) (b : UInt8) (hh : h < 4294967296) : h ^^^ b.toNat < 4294967296 := by
  have := b.toNat_lt
  exact Nat.xor_lt_two_pow (n := 32) hh (by omega)
theorem stp_nat (h : Nat) (b : UInt8) (hh : h < 4294967296) : stp (h : Int) b = (stpN h b : Nat) := by
  have hb := b.toNat_lt
  have e1 : ((b.toNat : Nat) : Int) % 4294967296 = ((b.toNat : Nat) : Int) := by omega
  unfold stp stpN
  rw [e1, u32_xor_nat h b.toNat hh (by omega)]
  generalize h ^^^ b.toNat = y
  omega
theorem stpN_lt (h : Nat) (b : UInt8) : stpN h b < 4294967296 := by unfold stpN; omega
theorem sum_nat : ∀ (l : List UInt8) (h : Nat), h < 4294967296 → sumL (h : Int) l = (sumN h l : Nat)
  | [], h, _ => rfl
  | b :: l, h, hh => by
    have e1 : sumL (h : Int) (b :: l) = sumL (stp (h : Int) b) l := rfl
    have e2 : sumN h (b :: l) = sumN (stpN h b) l := rfl
    rw [e1, e2, stp_nat h b hh]
    exact sum_nat l _ (stpN_lt h b)
theorem sumN_lt : ∀ (l : List UInt8) (h : Nat), h < 4294967296 → sumN h l < 4294967296
  | [], _, hh => hh
  | b :: l, h, _ => by
    have e2 : sumN h (b :: l) = sumN (stpN h b) l := rfl
    rw [e2]
    exact sumN_lt l _ (stpN_lt h b)
theorem sumL_lt (l : List UInt8) : 0 ≤ sumL 2166136261 l ∧ sumL 2166136261 l < 4294967296 := by
  have h := sum_nat l 2166136261 (by omega)
  have h2 := sumN_lt l 2166136261 (by omega)
  have e : ((2166136261 : Nat) : Int) = 2166136261 := rfl
  rw [e] at h
  rw [h]
  omega
theorem mul_back (x : Nat) (hx : x < 4294967296) : x * 16777619 % 4294967296 * 899433627 % 4294967296 = x := by
  have e1 : x * 16777619 % 4294967296 * 899433627 % 4294967296 = x * 16777619 * 899433627 % 4294967296 := by rw [Nat.mul_mod, Nat.mod_mod, ← Nat.mul_mod]
  have e2 : 16777619 * 899433627 = 3513497 * 4294967296 + 1 := by decide
  rw [e1, Nat.mul_assoc, e2, Nat.mul_add, Nat.mul_one, ← Nat.mul_assoc, Nat.add_comm, Nat.add_mul_mod_self_right]
  exact Nat.mod_eq_of_lt hx
theorem mul_inj (x y : Nat) (hx : x < 4294967296) (hy : y < 4294967296) (h : x * 16777619 % 4294967296 = y * 16777619 % 4294967296) : x = y := by
  rw [← mul_back x hx, h, mul_back y hy]
theorem xor_inj_r (h : Nat) (a b : Nat) (e : h ^^^ a = h ^^^ b) : a = b := by
  have : h ^^^ (h ^^^ a) = h ^^^ (h ^^^ b) := by rw [e]
  rwa [← Nat.xor_assoc, ← Nat.xor_assoc, Nat.xor_self, Nat.zero_xor, Nat.zero_xor] at this
theorem xor_inj_l (h k a : Nat) (e : h ^^^ a = k ^^^ a) : h = k := by
  rw [Nat.xor_comm h a, Nat.xor_comm k a] at e
  exact xor_inj_r a h k e
theorem stpN_inj_b (h : Nat) (a b : UInt8) (hh : h < 4294967296) (e : stpN h a = stpN h b) : a = b := by
  have := mul_inj _ _ (xor_lt h a hh) (xor_lt h b hh) e
  exact UInt8.toNat_inj.1 (xor_inj_r h _ _ this)
theorem stpN_inj_h (h k : Nat) (a : UInt8) (hh : h < 4294967296) (hk : k < 4294967296) (e : stpN h a = stpN k a) : h = k := by
  have := mul_inj _ _ (xor_lt h a hh) (xor_lt k a hk) e
  exact xor_inj_l h k _ this
theorem sumN_inj : ∀ (l : List UInt8) (h k : Nat), h < 4294967296 → k < 4294967296 → sumN h l = sumN k l → h = k
  | [], _, _, _, _, e => e
  | b :: l, h, k, hh, hk, e => stpN_inj_h h k b hh hk (sumN_inj l _ _ (stpN_lt h b) (stpN_lt k b) e)
theorem sumN_app (h : Nat) (l m : List UInt8) : sumN h (l ++ m) = sumN (sumN h l) m := by simp [sumN]
/-- A byte that is turned turns the sum. -/
theorem sum_turn (l : List UInt8) (k : Nat) (hk : k < l.length) (d : UInt8) (hd : d ≠ l[k]) : sumL 2166136261 (l.set k d) ≠ sumL 2166136261 l := by
  have e0 : ((2166136261 : Nat) : Int) = 2166136261 := rfl
  rw [← e0, sum_nat _ _ (by omega), sum_nat _ _ (by omega)]
  intro he
  have he : sumN 2166136261 (l.set k d) = sumN 2166136261 l := by omega
  have el : l = l.take k ++ l[k] :: l.drop (k + 1) := by simp
  have es : l.set k d = l.take k ++ d :: l.drop (k + 1) := by rw [List.set_eq_take_append_cons_drop, if_pos hk]
  rw [es] at he
  generalize hP : l.take k = P at *
  generalize hS : l.drop (k + 1) = S at *
  generalize l[k] = b at *
  rw [el, sumN_app, sumN_app] at he
  have hp := sumN_lt P 2166136261 (by omega)
  have := sumN_inj S (stpN (sumN 2166136261 P) d) (stpN (sumN 2166136261 P) b) (stpN_lt _ _) (stpN_lt _ _) he
  exact hd (stpN_inj_b _ d b hp this)
/-- c turned by an odd byte. -/
theorem turned (c t : UInt8) : ∃ d : UInt8, bits .xor .u8 (c.toNat : Int) (bits .or .u8 (t.toNat : Int) 1) = (d.toNat : Int) ∧ d ≠ c := by
  have hc := c.toNat_lt
  have ht := t.toNat_lt
  have e1 : bits .or .u8 (t.toNat : Int) 1 = ((t.toNat ||| 1 : Nat) : Int) := u8_or_nat t.toNat 1 (by omega) (by omega)
  have h1 : t.toNat ||| 1 < 256 := Nat.or_lt_two_pow (n := 8) (by omega) (by omega)
  have e2 : bits .xor .u8 (c.toNat : Int) ((t.toNat ||| 1 : Nat) : Int) = ((c.toNat ^^^ (t.toNat ||| 1) : Nat) : Int) := u8_xor_nat _ _ (by omega) h1
  have h2 : c.toNat ^^^ (t.toNat ||| 1) < 256 := Nat.xor_lt_two_pow (n := 8) (by omega) h1
  refine ⟨UInt8.ofNat (c.toNat ^^^ (t.toNat ||| 1)), ?_, ?_⟩
  · rw [e1, e2, UInt8.toNat_ofNat']
    omega
  · intro he
    have h3 : (UInt8.ofNat (c.toNat ^^^ (t.toNat ||| 1))).toNat = c.toNat := by rw [he]
    rw [UInt8.toNat_ofNat', Nat.mod_eq_of_lt h2] at h3
    have h4 : c.toNat ^^^ (t.toNat ||| 1) = c.toNat ^^^ 0 := by rw [h3, Nat.xor_zero]
    have h5 := xor_inj_r _ _ _ h4
    have h6 : (t.toNat ||| 1).testBit 0 = true := by simp
    rw [h5] at h6
    simp at h6
end Go.Proofs.Ytlhkmbcjgdjegaa
