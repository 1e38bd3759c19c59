/-
  The law's pair.
-/
import Derived.Test.YtlhkmbcjgdjegaaTwo
namespace Go.Proofs.Ytlhkmbcjgdjegaa
open Go.RowKit
set_option maxHeartbeats 1000000 in
theorem pairH_any {w : World} {A : Option Addr} {n c : Nat} {l : List UInt8} (h : Bs w A n c l) (h1 : 64 ≤ n) (h2 : n < 10304) (h3 : n % 64 = 0) : Calls Try.prog 48 #[.slice A n c] w (PairPost w l) := by
  have H := Lib.hid h
  have H3 := Lib.hid h3
  clear h h3
  go_enter Try.func48, Try.ntmps48
  go_wp2_with fail
  refine (of_yes H.out.len H.out.src h1 h2 H3.out).mono ?_
  rintro e w1 ⟨p, bL, bS, bW, rfl, hD, b1, b2, b3, b4, hc1⟩
  have HD := Lib.hid hD
  have HB := Lib.hid (And.intro b1 (And.intro b2 (And.intro b3 b4)))
  have HC := Lib.hid hc1
  clear hD b1 b2 b3 b4 hc1
  go_wp2_with fail
  refine (rof_yes H.out.len (H.out.src.keep HC.out) h1 h2 H3.out).mono ?_
  rintro e w2 ⟨q, gL, gN, gW, rL, rN, m, rfl, hR, k1, k2, k3, k4, hc2⟩
  have HR := Lib.hid hR
  have HK := Lib.hid (And.intro k1 (And.intro k2 (And.intro k3 k4)))
  have HC2 := Lib.hid hc2
  clear hR k1 k2 k3 k4 hc2
  go_wp2_with fail
  go_ret2
  have hl := H.out.len
  subst hl
  exact pair_end HD.out HB.out.1 HB.out.2.1 HB.out.2.2.1 HB.out.2.2.2 HR.out HK.out.1 HK.out.2.1 HK.out.2.2.1 HK.out.2.2.2 HC.out HC2.out
end Go.Proofs.Ytlhkmbcjgdjegaa
