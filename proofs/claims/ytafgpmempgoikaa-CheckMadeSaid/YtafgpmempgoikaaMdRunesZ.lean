/-
  Runes of two texts put together; the end of a text tells its last runes.
-/
import Derived.Test.YtafgpmempgoikaaZNestWithin1
import Derived.Test.YtafgpmempgoikaaZNestWithin2
import Derived.Test.YtafgpmempgoikaaZNestWithin3
import Derived.Test.YtafgpmempgoikaaZNestWithin4
import Derived.Test.YtafgpmempgoikaaZNestWithin5
import Derived.Test.YtafgpmempgoikaaZNestWithin6
import Derived.Test.YtafgpmempgoikaaFrZ
import Derived.Test.YtafgpmempgoikaaCTakesZ
import Derived.Test.YtafgpmempgoikaaWkMemZ
import Derived.Test.YtafgpmempgoikaaWkHalveZ
import Derived.Test.YtafgpmempgoikaaWkEndZ
import Derived.Test.YtafgpmempgoikaaWkLeaveZ
import Derived.Test.YtafgpmempgoikaaWkTurnZ
import Derived.Test.YtafgpmempgoikaaWkStepZ
import Derived.Test.YtafgpmempgoikaaWkPureZ
import Derived.Test.YtafgpmempgoikaaGl1Z
import Derived.Test.YtafgpmempgoikaaGl2Z
import Derived.Test.YtafgpmempgoikaaGlPureZ
import Derived.Test.YtafgpmempgoikaaGlMemZ
import Derived.Test.YtafgpmempgoikaaGlTakeZ
import Derived.Test.YtafgpmempgoikaaGlTokZ
import Derived.Test.YtafgpmempgoikaaWkFuncZ
import Derived.Test.YtafgpmempgoikaaOddZ
import Derived.Test.YtafgpmempgoikaaOddsZ
import Derived.Test.YtafgpmempgoikaaChkSameZ
import Derived.Test.YtafgpmempgoikaaChkTakesZ
import Derived.Test.YtafgpmempgoikaaChkKnownZ
import Derived.Test.YtafgpmempgoikaaChkPureZ
import Derived.Test.YtafgpmempgoikaaEndOkZ
import Derived.Test.YtafgpmempgoikaaValueEZ
import Derived.Test.YtafgpmempgoikaaUnitEZ
import Derived.Lib.DecodeN
import Derived.Lib.MapLaws
import Derived.Lib.FieldsU
namespace Go.Proofs.Ytafgpmempgoikaa
open Go.RowKit
open Go.Lib
theorem get_app_left (a t : ByteArray) (i : Nat) (h : i < a.size) : (a ++ t).get! i = a.get! i := by
  have h1 : i < (a ++ t).size := by rw [ByteArray.size_append']; omega
  have e1 := get_at (a ++ t) i h1
  have e2 := get_at a i h
  rw [Nat.add_zero] at e1 e2
  rw [e1, e2, ByteArray.getElem_append_left h]
theorem get_out (s : ByteArray) (i : Nat) (h : s.size ≤ i) : s.get! i = 0 := by
  have h1 : s.data.size ≤ i := h
  show s.data[i]! = 0
  rw [getElem!_neg]
  · rfl
  · omega
theorem get_app_right (a t : ByteArray) (i : Nat) : (a ++ t).get! (a.size + i) = t.get! i := by
  by_cases h : i < t.size
  · have h1 : a.size + i < (a ++ t).size := by rw [ByteArray.size_append']; omega
    have e1 := get_at (a ++ t) (a.size + i) h1
    have e2 := get_at t i h
    rw [Nat.add_zero] at e1 e2
    rw [e1, e2, ByteArray.getElem_append_right (by omega)]
    congr 1
    omega
  · rw [get_out _ _ (by rw [ByteArray.size_append']; omega), get_out _ _ (by omega)]
theorem decode_shift (a t : ByteArray) (p : Nat) : Utf8.decode (a ++ t) (a.size + p) = Utf8.decode t p := by
  rw [decode_at, decode_at, ByteArray.size_append', show a.size + t.size - (a.size + p) = t.size - p from by omega,
    get_app_right, Nat.add_assoc a.size p 1, get_app_right, Nat.add_assoc a.size p 2, get_app_right, Nat.add_assoc a.size p 3, get_app_right]
theorem runesAt_shift (a t : ByteArray) : ∀ (f p : Nat), runesAt (a ++ t) f (a.size + p) = runesAt t f p
  | 0, _ => rfl
  | f + 1, p => by
    rw [runesAt, runesAt, decode_shift]
    by_cases h : p < t.size
    · rw [if_pos h, if_pos (by rw [ByteArray.size_append']; omega), Nat.add_assoc, runesAt_shift a t f _]
    · rw [if_neg h, if_neg (by rw [ByteArray.size_append']; omega)]
theorem decodeN_cut (n n' b0 b1 b2 b3 c1 c2 c3 : Nat) (hn : 1 ≤ n) (h : n ≤ n') (h1 : n = 1 → c1 < 128) (h1' : 2 ≤ n → b1 = c1) (h2 : n = 2 → c2 < 128) (h2' : 3 ≤ n → b2 = c2) (h3 : n = 3 → c3 < 128) (h3' : 4 ≤ n → b3 = c3) :
    decodeN n b0 b1 b2 b3 = decodeN n' b0 c1 c2 c3 := by
  have hc : n = 1 ∨ n = 2 ∨ n = 3 ∨ 4 ≤ n := by omega
  rcases hc with e | e | e | e
  · have k1 := h1 e
    have q1 : ¬ 1 < n := by omega
    have q2 : ¬ c1 / 64 = 2 := by omega
    unfold decodeN
    simp only [q1, q2, false_and, and_false, if_false]
  · have k1 := h1' (by omega)
    have k2 := h2 e
    subst k1
    have q0 : 1 < n := by omega
    have q0' : 1 < n' := by omega
    have q1 : ¬ 2 < n := by omega
    have q2 : ¬ c2 / 64 = 2 := by omega
    unfold decodeN
    simp only [q0, q0', q1, q2, false_and, and_false, if_false, true_and]
  · have k1 := h1' (by omega)
    have k2 := h2' (by omega)
    have k3 := h3 e
    subst k1; subst k2
    have q0 : 1 < n := by omega
    have q0' : 1 < n' := by omega
    have q4 : 2 < n := by omega
    have q4' : 2 < n' := by omega
    have q1 : ¬ 3 < n := by omega
    have q2 : ¬ c3 / 64 = 2 := by omega
    unfold decodeN
    simp only [q0, q0', q4, q4', q1, q2, false_and, and_false, if_false, true_and]
  · have k1 := h1' (by omega)
    have k2 := h2' (by omega)
    have k3 := h3' (by omega)
    subst k1; subst k2; subst k3
    have q0 : 1 < n := by omega
    have q0' : 1 < n' := by omega
    have q4 : 2 < n := by omega
    have q4' : 2 < n' := by omega
    have q5 : 3 < n := by omega
    have q5' : 3 < n' := by omega
    unfold decodeN
    simp only [q0, q0', q4, q4', q5, q5', true_and]
theorem decode_keep (a t : ByteArray) (ht : 0 < t.size) (h128 : (t.get! 0).toNat < 128) (p : Nat) (hp : p < a.size) : Utf8.decode a p = Utf8.decode (a ++ t) p ∧ p + (Utf8.decode a p).2 ≤ a.size := by
  have hz := get_app_right a t 0
  rw [Nat.add_zero] at hz
  refine ⟨?_, ?_⟩
  · rw [decode_at, decode_at, get_app_left a t p hp, ByteArray.size_append']
    refine decodeN_cut _ _ _ _ _ _ _ _ _ (by omega) (by omega) (fun e => ?_) (fun e => ?_) (fun e => ?_) (fun e => ?_) (fun e => ?_) (fun e => ?_)
    · rw [show p + 1 = a.size from by omega, hz]; exact h128
    · rw [get_app_left a t _ (by omega)]
    · rw [show p + 2 = a.size from by omega, hz]; exact h128
    · rw [get_app_left a t _ (by omega)]
    · rw [show p + 3 = a.size from by omega, hz]; exact h128
    · rw [get_app_left a t _ (by omega)]
  · rw [decode_at]
    have := decodeN_le_n' (a.size - p) (a.get! p).toNat (a.get! (p + 1)).toNat (a.get! (p + 2)).toNat (a.get! (p + 3)).toNat (by omega)
    omega
theorem runesAt_app (a t : ByteArray) (ht : 0 < t.size) (h128 : (t.get! 0).toNat < 128) : ∀ (f p : Nat), p ≤ a.size → a.size - p ≤ f → runesAt (a ++ t) (f + t.size) p = runesAt a f p ++ runesL t
  | 0, p, hp, hf => by
    have e : p = a.size + 0 := by omega
    rw [e, runesAt_shift, Nat.zero_add]
    rfl
  | f + 1, p, hp, hf => by
    by_cases h : p < a.size
    · obtain ⟨h1, h2⟩ := decode_keep a t ht h128 p h
      have h3 := width_pos a p h
      rw [show f + 1 + t.size = (f + t.size) + 1 from by omega, runesAt, runesAt, if_pos h, if_pos (by rw [ByteArray.size_append']; omega), ← h1, runesAt_app a t ht h128 f _ h2 (by omega)]
      rfl
    · have e : p = a.size + 0 := by omega
      rw [e, runesAt_shift]
      have e2 : runesAt a (f + 1) (a.size + 0) = [] := by rw [runesAt, if_neg (by omega)]
      rw [e2, List.nil_append]
      exact (runesAt_more t t.size (f + 1 + t.size) 0 (by omega) (by omega)).symm
theorem runesL_app (a t : ByteArray) (ht : 0 < t.size) (h128 : (t.get! 0).toNat < 128) : runesL (a ++ t) = runesL a ++ runesL t := by
  unfold runesL
  rw [ByteArray.size_append']
  exact runesAt_app a t ht h128 a.size 0 (by omega) (by omega)
/-- One sign of one byte ahead of a text. -/
theorem runesL_one (b : UInt8) (hb : b.toNat < 128) (t : ByteArray) : runesL (⟨#[b]⟩ ++ t) = b.toNat :: runesL t := by
  have hs : (⟨#[b]⟩ : ByteArray).size = 1 := rfl
  unfold runesL
  rw [ByteArray.size_append', hs, Nat.add_comm 1, runesAt, if_pos (by rw [ByteArray.size_append', hs]; omega)]
  have hd : Utf8.decode (⟨#[b]⟩ ++ t) 0 = (b.toNat, 1) := by
    rw [decode_at, get_app_left _ t 0 (by rw [hs]; omega)]
    have : ((⟨#[b]⟩ : ByteArray).get! 0).toNat = b.toNat := rfl
    rw [this]
    unfold decodeN
    rw [if_pos hb]
  rw [hd]
  have := runesAt_shift ⟨#[b]⟩ t t.size 0
  rw [hs] at this
  rw [show 0 + (b.toNat, 1).2 = 1 + 0 from rfl, this]
def okRevN : List Nat → Bool
  | [] => false
  | b :: r => if b = 59 then okRevN r else b != 58 && b != 93 && b != 126 && b != 161 && b != 32
/-- The last byte tells the last rune. -/
def OkB (b : UInt8) : Prop := b ≠ 58 ∧ b ≠ 93 ∧ b ≠ 126 ∧ b ≠ 161 ∧ b ≠ 32 ∧ b ≠ 59
def OkR (r : Nat) : Prop := r ≠ 58 ∧ r ≠ 93 ∧ r ≠ 126 ∧ r ≠ 161 ∧ r ≠ 32 ∧ r ≠ 59
theorem OkB.nat {b : UInt8} (h : OkB b) : OkR b.toNat := by
  obtain ⟨h1, h2, h3, h4, h5, h6⟩ := h
  have hh : ∀ c : UInt8, b ≠ c → b.toNat ≠ c.toNat := fun c hc e => hc (UInt8.toNat_inj.1 e)
  exact ⟨hh 58 h1, hh 93 h2, hh 126 h3, hh 161 h4, hh 32 h5, hh 59 h6⟩
theorem runes_last (s : ByteArray) (hs : 0 < s.size) (hb : OkR (s.get! (s.size - 1)).toNat) : ∀ (f p : Nat), p < s.size → s.size - p ≤ f → ∃ R r, runesAt s f p = R ++ [r] ∧ OkR r
  | 0, p, hp, hf => by omega
  | f + 1, p, hp, hf => by
    rw [runesAt, if_pos hp]
    have hw := width_pos s p hp
    have hle : p + (Utf8.decode s p).2 ≤ s.size := by
      rw [decode_at]
      have := decodeN_le_n' (s.size - p) (s.get! p).toNat (s.get! (p + 1)).toNat (s.get! (p + 2)).toNat (s.get! (p + 3)).toNat (by omega)
      omega
    by_cases hq : p + (Utf8.decode s p).2 < s.size
    · obtain ⟨R, r, h1, h2⟩ := runes_last s hs hb f _ hq (by omega)
      exact ⟨_ :: R, r, by rw [h1]; rfl, h2⟩
    · have hz : runesAt s f (p + (Utf8.decode s p).2) = [] := by
        cases f with
        | zero => rfl
        | succ f => rw [runesAt, if_neg hq]
      refine ⟨[], _, by rw [hz]; rfl, ?_⟩
      have he : p + (Utf8.decode s p).2 = s.size := by omega
      rw [decode_at] at he ⊢
      have hlt : ∀ i, (s.get! i).toNat < 256 := fun i => (s.get! i).toNat_lt
      have l1 := hlt (p + 1)
      have l2 := hlt (p + 2)
      have l3 := hlt (p + 3)
      rcases decodeN_shape (s.size - p) (s.get! p).toNat (s.get! (p + 1)).toNat (s.get! (p + 2)).toNat (s.get! (p + 3)).toNat with ⟨_, e⟩ | ⟨_, _, k, _, e⟩ | ⟨_, _, _, _, k, _, e⟩ | ⟨_, _, _, _, _, k, _, e⟩ | e
      · rw [e] at he ⊢
        rw [show s.size - 1 = p from by simp only at he; omega] at hb
        exact hb
      · rw [e] at he ⊢
        rw [show s.size - 1 = p + 1 from by simp only at he; omega] at hb
        unfold OkR at hb ⊢
        simp only
        omega
      · rw [e]
        unfold OkR
        simp only
        omega
      · rw [e]
        unfold OkR
        simp only
        omega
      · rw [e]
        unfold OkR
        simp only
        omega
theorem okRev_split : ∀ (l : List UInt8), okRev l = true → ∃ k b r, l = List.replicate k 59 ++ b :: r ∧ OkB b
  | [], h => by cases h
  | b :: r, h => by
    rw [okRev] at h
    by_cases hb : b = 59
    · rw [if_pos hb] at h
      obtain ⟨k, c, r', e, hc⟩ := okRev_split r h
      exact ⟨k + 1, c, r', by rw [e, hb, List.replicate_succ]; rfl, hc⟩
    · rw [if_neg hb] at h
      simp only [Bool.and_eq_true, bne_iff_ne, ne_eq] at h
      exact ⟨0, b, r, rfl, h.1.1.1.1, h.1.1.1.2, h.1.1.2, h.1.2, h.2, hb⟩
theorem okRevN_one (R : List Nat) (r : Nat) (h : OkR r) : okRevN (R ++ [r]).reverse = true := by
  rw [List.reverse_append, List.reverse_singleton, List.singleton_append, okRevN, if_neg h.2.2.2.2.2]
  simp only [Bool.and_eq_true, bne_iff_ne, ne_eq]
  exact ⟨⟨⟨⟨h.1, h.2.1⟩, h.2.2.1⟩, h.2.2.2.1⟩, h.2.2.2.2.1⟩
theorem runes_semis (a : ByteArray) (h : okRevN (runesL a).reverse = true) : ∀ (k : Nat) (s : ByteArray), s.data.toList = a.data.toList ++ List.replicate k 59 → okRevN (runesL s).reverse = true
  | 0, s, e => by
    have : s = a := by
      have e1 : s.data = a.data := Array.toList_inj.1 (by rw [e]; simp)
      cases s; cases a; simp only at e1; rw [e1]
    rw [this]; exact h
  | k + 1, s, e => by
    have hs : s = ⟨(a.data.toList ++ List.replicate k 59).toArray⟩ ++ ⟨#[59]⟩ := by
      have e1 : s.data = ((⟨(a.data.toList ++ List.replicate k 59).toArray⟩ : ByteArray) ++ ⟨#[59]⟩).data := Array.toList_inj.1 (by
        rw [e, data_app]
        rw [List.replicate_succ', List.append_assoc])
      cases s
      simp only at e1
      rw [e1]
    rw [hs, runesL_app _ _ (by decide) (by decide), List.reverse_append]
    have h1 : runesL ⟨#[59]⟩ = [59] := by decide +kernel
    rw [h1]
    exact runes_semis a h k _ rfl
theorem end_runes {s : ByteArray} (h : EndOk s) : okRevN (runesL s).reverse = true := by
  obtain ⟨k, b, r, e, hb⟩ := okRev_split _ h
  have e2 : s.data.toList = (r.reverse ++ [b]) ++ List.replicate k 59 := by
    rw [← List.reverse_reverse s.data.toList, e]
    simp
  refine runes_semis ⟨(r.reverse ++ [b]).toArray⟩ ?_ k s (by rw [e2])
  have hsz : (⟨(r.reverse ++ [b]).toArray⟩ : ByteArray).size = r.length + 1 := by
    show (r.reverse ++ [b]).toArray.size = _
    simp
  obtain ⟨R, x, h1, h2⟩ := runes_last ⟨(r.reverse ++ [b]).toArray⟩ (by omega) (by
    rw [hsz, Nat.add_sub_cancel]
    have e3 : (⟨(r.reverse ++ [b]).toArray⟩ : ByteArray).get! r.length = b := by
      show (r.reverse ++ [b]).toArray[r.length]! = b
      simp
    rw [e3]
    exact hb.nat) _ 0 (by omega) (Nat.le_refl _)
  rw [Nat.sub_zero] at h1
  unfold runesL
  rw [h1]
  exact okRevN_one R x h2
end Go.Proofs.Ytafgpmempgoikaa
