/-
  engrambook.Within.
-/
import Derived.Test.YtlhkmbcjgdjegaaChecked
import Derived.Test.YtlhkmbcjgdjegaaMem
namespace Go.Proofs.Ytlhkmbcjgdjegaa
open Go.RowKit
/-- r is a number of lo .. hi, and n itself where n is one. -/
def Into (n lo hi r : Int) : Prop := lo ≤ r ∧ r ≤ hi ∧ (lo ≤ n → n ≤ hi → r = n)
/-- What Within has done. -/
def WithinPost (n lo hi : Int) (w : World) (e : Ending) (w' : World) : Prop := ∃ r : Int, Into n lo hi r ∧ e = .returned (.int .i64 r) ∧ w = w'
/-- The number itself, or brought into lo .. hi. -/
def withinI (n lo hi : Int) : Int := if lo ≤ n ∧ n ≤ hi then n else if n.tmod (hi - lo + 1) < 0 then lo + (n.tmod (hi - lo + 1) + hi - lo + 1) else lo + n.tmod (hi - lo + 1)
theorem into_within (n lo hi : Int) (h1 : lo ≤ hi) : Into n lo hi (withinI n lo hi) := by
  have b1 := Int.tmod_lt_of_pos n (show 0 < hi - lo + 1 by omega)
  have b2 := Int.lt_tmod_of_pos n (show 0 < hi - lo + 1 by omega)
  unfold withinI
  split
  · rename_i h; exact ⟨h.1, h.2, fun _ _ => rfl⟩
  · rename_i h
    split
    · exact ⟨by omega, by omega, fun ha hb => absurd ⟨ha, hb⟩ h⟩
    · exact ⟨by omega, by omega, fun ha hb => absurd ⟨ha, hb⟩ h⟩
theorem ret_within {a b : Int} (h : a = b) : Ending.returned (.int .i64 a) = .returned (.int .i64 b) := by rw [h]
section
variable {w : World}
set_option maxHeartbeats 1000000 in
theorem within_is (n lo hi : Int) (h0 : -1000000 ≤ lo) (h1 : lo ≤ hi) (h2 : hi ≤ 1000000) (hn0 : -9223372036854775808 ≤ n) (hn1 : n ≤ 9223372036854775807) :
    Calls Try.prog 18 #[.int .i64 n, .int .i64 lo, .int .i64 hi] w fun e w' => e = .returned (.int .i64 (withinI n lo hi)) ∧ w = w' := by
  have b1 := Int.tmod_lt_of_pos n (show 0 < hi - lo + 1 by omega)
  have b2 := Int.lt_tmod_of_pos n (show 0 < hi - lo + 1 by omega)
  have hne : ((hi - lo + 1) == 0) = false := by simp; omega
  by_cases ha : lo ≤ n
  · by_cases hb : n ≤ hi
    · have HI := Lib.hid (show withinI n lo hi = n by unfold withinI; rw [if_pos ⟨ha, hb⟩])
      go_enter Try.func18, Try.ntmps18
      go_wp2_with fail
      go_ret
      exact ⟨ret_within HI.out.symm, rfl⟩
    · by_cases hm : n.tmod (hi - lo + 1) < 0
      · have HI := Lib.hid (show withinI n lo hi = lo + (n.tmod (hi - lo + 1) + hi - lo + 1) by unfold withinI; rw [if_neg (fun h => hb h.2), if_pos hm])
        go_enter Try.func18, Try.ntmps18
        go_wp2_with fail
        go_ret
        exact ⟨ret_within HI.out.symm, rfl⟩
      · have HI := Lib.hid (show withinI n lo hi = lo + n.tmod (hi - lo + 1) by unfold withinI; rw [if_neg (fun h => hb h.2), if_neg hm])
        go_enter Try.func18, Try.ntmps18
        go_wp2_with fail
        go_ret
        exact ⟨ret_within HI.out.symm, rfl⟩
  · have hd : decide (lo ≤ n) = false := by simp; omega
    by_cases hm : n.tmod (hi - lo + 1) < 0
    · have HI := Lib.hid (show withinI n lo hi = lo + (n.tmod (hi - lo + 1) + hi - lo + 1) by unfold withinI; rw [if_neg (fun h => ha h.1), if_pos hm])
      go_enter Try.func18, Try.ntmps18
      go_wp2_with fail
      go_ret
      exact ⟨ret_within HI.out.symm, rfl⟩
    · have HI := Lib.hid (show withinI n lo hi = lo + n.tmod (hi - lo + 1) by unfold withinI; rw [if_neg (fun h => ha h.1), if_neg hm])
      go_enter Try.func18, Try.ntmps18
      go_wp2_with fail
      go_ret
      exact ⟨ret_within HI.out.symm, rfl⟩
/-- A number of lo .. hi. -/
theorem within_any (n lo hi : Int) (h0 : -1000000 ≤ lo) (h1 : lo ≤ hi) (h2 : hi ≤ 1000000) (hn0 : -9223372036854775808 ≤ n) (hn1 : n ≤ 9223372036854775807) :
    Calls Try.prog 18 #[.int .i64 n, .int .i64 lo, .int .i64 hi] w (WithinPost n lo hi w) :=
  (within_is n lo hi h0 h1 h2 hn0 hn1).mono fun _ _ ⟨h1', h2'⟩ => ⟨_, into_within n lo hi h1, h1', h2'⟩
end
end Go.Proofs.Ytlhkmbcjgdjegaa
