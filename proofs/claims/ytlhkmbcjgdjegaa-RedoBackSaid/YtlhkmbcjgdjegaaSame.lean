/-
  engrambook.Same of two lists of numbers that are alike.
-/
import Derived.Test.YtlhkmbcjgdjegaaWaits
import Derived.Test.YtlhkmbcjgdjegaaLaw
import Derived.Deep.DeepCutAuto
namespace Go.Proofs.Ytlhkmbcjgdjegaa
open Go.RowKit
section
variable {w : World}
set_option maxHeartbeats 1000000 in
theorem same_yes {A B : Option Addr} {n c d : Nat} {l : List Nat} (hl : l.length = n) (hn : n ≤ 1000000) (ha : Src w A (nmsN l)) (hb : Src w B (nmsN l)) (hA : ∀ ad, A = some ad → ad.spot = none) (hB : ∀ ad, B = some ad → ad.spot = none) :
    Calls Try.prog 79 #[.slice A n c, .slice B n d] w (LawPost w) := by
  have HL := Lib.hid hl
  have HA := Lib.hid hA
  have HB := Lib.hid hB
  clear hl hA hB
  go_enter Try.func79, Try.ntmps79
  go_wp2_with fail
  go_loopw [5] (fun i wr => ∃ k : Nat, k ≤ n ∧ i = .int .i64 (k : Int) ∧ Chg [] w wr) (fun i _ => n - (intOf i).toNat)
  case atStart => exact ⟨0, Nat.zero_le _, rfl, Chg.refl _ _⟩
  case round =>
    obtain ⟨k, hk, rfl, hc⟩ := hrel
    by_cases hlt : k < n
    · have ha2 := ha.keep hc
      have hb2 := hb.keep hc
      obtain ⟨a1, rfl, _, hx⟩ := ha2 (by rw [nmsN_len, HL.out]; omega)
      obtain ⟨a2, rfl, _, hy⟩ := hb2 (by rw [nmsN_len, HL.out]; omega)
      have hx1 := hx k _ (nmsN_get l k (by rw [HL.out]; exact hlt))
      have hy1 := hy k _ (nmsN_get l k (by rw [HL.out]; exact hlt))
      clear hx hy
      obtain ⟨b1, o1, s1⟩ := a1
      obtain rfl : s1 = none := HA.out _ rfl
      obtain ⟨b2, o2, s2⟩ := a2
      obtain rfl : s2 = none := HB.out _ rfl
      rw [add_plain] at hx1 hy1
      generalize l[k]'(by rw [HL.out]; exact hlt) = q at hx1 hy1
      have hki : (k : Int) < (n : Int) := by omega
      go_wp2_with fail
      go_quiet (fail)
      go_wp2_with fail
      go_roundw
      case rel => exact ⟨k + 1, by omega, by go_num, hc.drewN _⟩
      case measure => simp [intOf]; omega
    · go_wp2_with fail
      go_ret
      exact ⟨rfl, hc⟩
end
end Go.Proofs.Ytlhkmbcjgdjegaa
