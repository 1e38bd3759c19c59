/-
  What the end of a text says: behind its last ';'s lies a byte that is none of : ; ] ~ blank, nor the last of the sign of a halt.
-/
import Derived.Test.YtafgpmempgoikaaZNestWithin1
import Derived.Test.YtafgpmempgoikaaZNestWithin2
import Derived.Test.YtafgpmempgoikaaZNestWithin3
import Derived.Test.YtafgpmempgoikaaZNestWithin4
import Derived.Test.YtafgpmempgoikaaZNestWithin5
import Derived.Test.YtafgpmempgoikaaZNestWithin6
import Derived.Test.YtafgpmempgoikaaFrZ
import Derived.Test.YtafgpmempgoikaaCTakesZ
import Derived.Test.YtafgpmempgoikaaWkMemZ
import Derived.Test.YtafgpmempgoikaaWkHalveZ
import Derived.Test.YtafgpmempgoikaaWkEndZ
import Derived.Test.YtafgpmempgoikaaWkLeaveZ
import Derived.Test.YtafgpmempgoikaaWkTurnZ
import Derived.Test.YtafgpmempgoikaaWkStepZ
import Derived.Test.YtafgpmempgoikaaWkPureZ
import Derived.Test.YtafgpmempgoikaaGl1Z
import Derived.Test.YtafgpmempgoikaaGl2Z
import Derived.Test.YtafgpmempgoikaaGlPureZ
import Derived.Test.YtafgpmempgoikaaGlMemZ
import Derived.Test.YtafgpmempgoikaaGlTakeZ
import Derived.Test.YtafgpmempgoikaaGlTokZ
import Derived.Test.YtafgpmempgoikaaWkFuncZ
import Derived.Test.YtafgpmempgoikaaOddZ
import Derived.Test.YtafgpmempgoikaaOddsZ
import Derived.Test.YtafgpmempgoikaaChkSameZ
import Derived.Test.YtafgpmempgoikaaChkTakesZ
import Derived.Test.YtafgpmempgoikaaChkKnownZ
import Derived.Test.YtafgpmempgoikaaChkPureZ
namespace Go.Proofs.Ytafgpmempgoikaa
open Go.RowKit
def okRev : List UInt8 → Bool
  | [] => false
  | b :: r => if b = 59 then okRev r else b != 58 && b != 93 && b != 126 && b != 161 && b != 32
def EndOk (s : ByteArray) : Prop := okRev s.data.toList.reverse = true
theorem okRev_add : ∀ (x y : List UInt8), okRev x = true → okRev (x ++ y) = true
  | [], _, h => by cases h
  | b :: r, y, h => by
    rw [List.cons_append, okRev]
    rw [okRev] at h
    by_cases hb : b = 59
    · rw [if_pos hb] at h ⊢; exact okRev_add r y h
    · rw [if_neg hb] at h ⊢; exact h
theorem data_app (a b : ByteArray) : (a ++ b).data.toList = a.data.toList ++ b.data.toList := by rw [ByteArray.data_append, Array.toList_append]
theorem EndOk.app (a : ByteArray) {b : ByteArray} (h : EndOk b) : EndOk (a ++ b) := by
  unfold EndOk at h ⊢
  rw [data_app, List.reverse_append]
  exact okRev_add _ _ h
theorem EndOk.semi {a : ByteArray} (h : EndOk a) : EndOk (a ++ ⟨#[59]⟩) := by
  unfold EndOk at h ⊢
  rw [data_app, List.reverse_append]
  exact h
theorem end_digit (r : Nat) (h : r < 10) : EndOk (Utf8.encode (48 + (r : Int))) := by
  have : r = 0 ∨ r = 1 ∨ r = 2 ∨ r = 3 ∨ r = 4 ∨ r = 5 ∨ r = 6 ∨ r = 7 ∨ r = 8 ∨ r = 9 := by omega
  rcases this with rfl | rfl | rfl | rfl | rfl | rfl | rfl | rfl | rfl | rfl <;> (unfold EndOk; decide +kernel)
theorem end_low (r : Nat) (h : r < 4) : EndOk (Utf8.encode (97 + (r : Int))) := by
  have : r = 0 ∨ r = 1 ∨ r = 2 ∨ r = 3 := by omega
  rcases this with rfl | rfl | rfl | rfl <;> (unfold EndOk; decide +kernel)
theorem end_name (i : Int) (h : i ∈ ([102, 103, 945, 104, 19990] : List Int)) : EndOk (Utf8.encode i) := by
  simp only [List.mem_cons, List.not_mem_nil, or_false] at h
  rcases h with rfl | rfl | rfl | rfl | rfl <;> (unfold EndOk; decide +kernel)
/-- '+' of two texts, with the second's end. -/
theorem addE (a b : ByteArray) (m k : Nat) (ha : a.size ≤ m) (hb : b.size ≤ k) (h : m + k ≤ 1000000) (he : EndOk b) : ∃ y : ByteArray, y.size ≤ m + k ∧ (∀ W, (Op.stringOp .add a b).run Try.prog W = .ok (.string y) W) ∧ Hid (EndOk y) :=
  ⟨a ++ b, by rw [ByteArray.size_append']; omega, fun W => run_string_add_sum W a b (by omega), Lib.hid (he.app a)⟩
theorem addSemi (a : ByteArray) (m : Nat) (ha : a.size ≤ m) (h : m + 1 ≤ 1000000) (he : EndOk a) : ∃ y : ByteArray, y.size ≤ m + 1 ∧ (∀ W, (Op.stringOp .add a ⟨#[59]⟩).run Try.prog W = .ok (.string y) W) ∧ Hid (EndOk y) :=
  ⟨a ++ ⟨#[59]⟩, by rw [ByteArray.size_append']; have : (⟨#[59]⟩ : ByteArray).size = 1 := rfl; omega, fun W => run_string_add_sum W a _ (by have : (⟨#[59]⟩ : ByteArray).size = 1 := rfl; omega), Lib.hid he.semi⟩
def IsTxtE (m : Nat) (v : Value) : Prop := ∃ s : ByteArray, v = .string s ∧ s.size ≤ m ∧ EndOk s
theorem opV_end : ∀ x ∈ opV, IsTxtE 3 x := by intro x h; simp only [opV, List.mem_cons, List.not_mem_nil, or_false] at h; rcases h with rfl | rfl | rfl | rfl | rfl | rfl | rfl | rfl | rfl | rfl | rfl | rfl <;> exact ⟨_, rfl, by decide, by unfold EndOk; decide +kernel⟩
theorem onV_end : ∀ x ∈ onV, IsTxtE 3 x := by intro x h; simp only [onV, List.mem_cons, List.not_mem_nil, or_false] at h; rcases h with rfl | rfl | rfl | rfl | rfl | rfl | rfl <;> exact ⟨_, rfl, by decide, by unfold EndOk; decide +kernel⟩
/-- Some text of at most so many bytes. -/
def TxtPostE (m : Nat) (w : World) (e : Ending) (w' : World) : Prop := ∃ s : ByteArray, e = .returned (.string s) ∧ s.size ≤ m ∧ Chg [] w w' ∧ Hid (EndOk s)
set_option maxHeartbeats 1000000 in
theorem digitsE_any : ∀ (k n : Nat), n < 10 ^ (k + 1) → k ≤ 10 → ∀ w : World, Calls Try.prog 46 #[.int .i64 (n : Int)] w (TxtPostE (4 * (k + 1)) w)
  | k, n, hn, hk, w => by
    have hp : 10 ^ (k + 1) ≤ 10 ^ 11 := Nat.pow_le_pow_right (by omega) (by omega)
    have hn2 : n < 100000000000 := Nat.lt_of_lt_of_le hn hp
    clear hp
    by_cases h10 : 10 ≤ n
    · match k, hn, hk with
      | 0, hn, hk => omega
      | k + 1, hn, hk =>
        have IH := Lib.hid (fun W => digitsE_any k (n / 10) (by rw [Nat.pow_succ] at hn; omega) (by omega) W)
        have hq : (n : Int).tdiv 10 = ((n / 10 : Nat) : Int) := rfl
        have hr : (n : Int).tmod 10 = ((n % 10 : Nat) : Int) := rfl
        generalize hgr : n % 10 = r at hr
        have hr9 : r < 10 := by omega
        have hq9 : n / 10 < 100000000000 := by omega
        generalize n / 10 = q at *
        clear hn hgr
        go_enter Try.func46, Try.ntmps46
        go_wp2_with fail
        refine (IH.out _).mono ?_
        rintro e w1 ⟨s, rfl, hs, hc, _⟩
        obtain ⟨y, hy⟩ : ∃ y, s ++ Utf8.encode (48 + (r : Int)) = y := ⟨_, rfl⟩
        have HE := Lib.hid (show EndOk y from by rw [← hy]; exact (end_digit r (by omega)).app s)
        have hys : y.size ≤ 4 * (k + 1 + 1) := by rw [← hy, ByteArray.size_append']; have := encode_le4 (48 + (r : Int)); omega
        have hadd : (Op.stringOp .add s (Utf8.encode (48 + (r : Int)))).run Try.prog w1 = .ok (.string y) w1 := by
          rw [← hy]; exact run_string_add_sum _ _ _ (by have := encode_le4 (48 + (r : Int)); omega)
        clear hy
        go_wp2_with fail
        go_ret
        exact ⟨y, rfl, hys, hc, HE⟩
    · go_enter Try.func46, Try.ntmps46
      go_wp2_with fail
      go_ret
      exact ⟨_, rfl, by have := encode_le4 (48 + (n : Int)); omega, Chg.refl _ _, Lib.hid (end_digit n (by omega))⟩
end Go.Proofs.Ytafgpmempgoikaa
