/-
  The disk as it lies in memory, and the contracts of its methods.
-/
import Derived.Test.YtlhkmbcjgdjegaaFresh
import Derived.Deep.QuietTactic
import Derived.BigQuiet
import Derived.BigRegion
import Derived.Deep.RegionWith
namespace Go.Proofs.Ytlhkmbcjgdjegaa
open Go.RowKit

/-- A disk: its struct lies in block p, the lasting bytes L in bL, the seen ones S in bS, what waits (V) in bW. -/
structure Dsk (w : World) (p bL bS bW : Nat) (L S : List UInt8) (V : List Bool) : Prop where
  rec_ : Whole w p 100 [.slice (some ⟨bL, 0, none⟩) L.length L.length, .slice (some ⟨bS, 0, none⟩) S.length S.length, .slice (some ⟨bW, 0, none⟩) V.length V.length]
  last : Whole w bL 5 (bts L)
  seen : Whole w bS 5 (bts S)
  wait : Whole w bW 4 (bls V)
  lenL : L.length = 64 * V.length
  lenS : S.length = 64 * V.length
  pos : 0 < V.length
  le : V.length ≤ 160
  ne : bL ≠ bS

section
variable {w w' : World} {p bL bS bW : Nat} {L S : List UInt8} {V : List Bool}
theorem Dsk.keep (h : Dsk w p bL bS bW L S V) (hc : Chg [] w w') : Dsk w' p bL bS bW L S V :=
  ⟨h.rec_.keep hc, h.last.keep hc, h.seen.keep hc, h.wait.keep hc, h.lenL, h.lenS, h.pos, h.le, h.ne⟩
theorem Dsk.away {T : List Nat} (h : Dsk w p bL bS bW L S V) (hc : Chg T w w') (h0 : p ∉ T) (h1 : bL ∉ T) (h2 : bS ∉ T) (h3 : bW ∉ T) : Dsk w' p bL bS bW L S V :=
  ⟨h.rec_.chg hc h0, h.last.chg hc h1, h.seen.chg hc h2, h.wait.chg hc h3, h.lenL, h.lenS, h.pos, h.le, h.ne⟩

set_option maxHeartbeats 400000 in
theorem len_any (h : Dsk w p bL bS bW L S V) : Calls Try.prog 100 #[.pointer (some ⟨p, 0, none⟩)] w fun e w' => e = .returned (.int .i64 (V.length : Int)) ∧ w = w' := by
  have c2 := h.rec_.cell 2
  go_enter Try.func100, Try.ntmps100
  go_wp2_with fail
  go_ret
  exact ⟨rfl, rfl⟩

set_option maxHeartbeats 400000 in
theorem has_yes (h : Dsk w p bL bS bW L S V) (i : Int) (h0 : 0 ≤ i) (h1 : i < V.length) :
    Calls Try.prog 97 #[.pointer (some ⟨p, 0, none⟩), .int .i64 i] w fun e w' => e = .returned (.bool true) ∧ w = w' := by
  go_enter Try.func97, Try.ntmps97
  go_wp2_with (go_at_call 100; refine (len_any h).mono ?_; rintro e w' ⟨rfl, rfl⟩)
  go_ret
  exact ⟨rfl, rfl⟩

set_option maxHeartbeats 400000 in
theorem has_no (h : Dsk w p bL bS bW L S V) (i : Int) (h0 : i < 0 ∨ (V.length : Int) ≤ i) :
    Calls Try.prog 97 #[.pointer (some ⟨p, 0, none⟩), .int .i64 i] w fun e w' => e = .returned (.bool false) ∧ w = w' := by
  rcases h0 with h0 | h0
  · have hd : decide (0 ≤ i) = false := by simp; omega
    go_enter Try.func97, Try.ntmps97
    go_wp2_with (go_at_call 100; refine (len_any h).mono ?_; rintro e w' ⟨rfl, rfl⟩)
    go_ret
    exact ⟨rfl, rfl⟩
  · by_cases hi : 0 ≤ i
    · go_enter Try.func97, Try.ntmps97
      go_wp2_with (go_at_call 100; refine (len_any h).mono ?_; rintro e w' ⟨rfl, rfl⟩)
      go_ret
      exact ⟨by simp; omega, rfl⟩
    · have := h.pos
      exact absurd h0 (by omega)
end
end Go.Proofs.Ytlhkmbcjgdjegaa
