/-
  engrambook.Within, and the law's lists of numbers.
-/
import Derived.Test.YtmhconklpkenmaaKnown
namespace Go.Proofs.Ytmhconklpkenmaa
open Go.RowKit
/-- r is a number of lo .. hi, and n itself where n is one. -/
def Into (n lo hi r : Int) : Prop := lo ≤ r ∧ r ≤ hi ∧ (lo ≤ n → n ≤ hi → r = n)
/-- What Within has done. -/
def WithinPost (n lo hi : Int) (w : World) (e : Ending) (w' : World) : Prop := ∃ r : Int, Into n lo hi r ∧ e = .returned (.int .i64 r) ∧ w = w'
section
variable {w : World}
set_option maxHeartbeats 1000000 in
/-- A number of lo .. hi. -/
theorem within_any (n lo hi : Int) (h0 : -1000 ≤ lo) (h1 : lo ≤ hi) (h2 : hi ≤ 1000) (hn0 : -9223372036854775808 ≤ n) (hn1 : n ≤ 9223372036854775807) :
    Calls Try.prog 13 #[.int .i64 n, .int .i64 lo, .int .i64 hi] w (WithinPost n lo hi w) := by
  have b1 := Int.tmod_lt_of_pos n (show 0 < hi - lo + 1 by omega)
  have b2 := Int.lt_tmod_of_pos n (show 0 < hi - lo + 1 by omega)
  have hne : ((hi - lo + 1) == 0) = false := by simp; omega
  by_cases ha : lo ≤ n
  · by_cases hb : n ≤ hi
    · go_enter Try.func13, Try.ntmps13
      go_wp2_with fail
      go_ret
      exact ⟨n, ⟨ha, hb, fun _ _ => rfl⟩, rfl, rfl⟩
    · go_enter Try.func13, Try.ntmps13
      go_wp2_with fail
      · go_ret
        exact ⟨lo + (n.tmod (hi - lo + 1) + hi - lo + 1), ⟨by omega, by omega, fun _ hc => absurd hc (by omega)⟩, rfl, rfl⟩
      · go_ret
        exact ⟨lo + n.tmod (hi - lo + 1), ⟨by omega, by omega, fun _ hc => absurd hc (by omega)⟩, rfl, rfl⟩
  · have hd : decide (lo ≤ n) = false := by simp; omega
    go_enter Try.func13, Try.ntmps13
    go_wp2_with fail
    · go_ret
      exact ⟨lo + (n.tmod (hi - lo + 1) + hi - lo + 1), ⟨by omega, by omega, fun hc => absurd hc (by omega)⟩, rfl, rfl⟩
    · go_ret
      exact ⟨lo + n.tmod (hi - lo + 1), ⟨by omega, by omega, fun hc => absurd hc (by omega)⟩, rfl, rfl⟩
end
end Go.Proofs.Ytmhconklpkenmaa
