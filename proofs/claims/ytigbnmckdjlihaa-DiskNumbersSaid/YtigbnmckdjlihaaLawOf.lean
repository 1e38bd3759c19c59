/-
  The walk of DiskOf.
-/
import Derived.Test.YtigbnmckdjlihaaWithin
import Derived.Test.YtigbnmckdjlihaaLaw
import Derived.OpenShut
namespace Go.Proofs.Ytigbnmckdjlihaa
open Go.RowKit

theorem wl_falses (n k : Nat) : wl (falses n) k = [] := by
  unfold wl falses
  rw [List.filter_eq_nil_iff]
  intro a _
  simp [List.getD, List.getElem?_replicate]
  split <;> simp

theorem src_take {w : World} {A : Option Addr} {l : List UInt8} (m : Nat) (hs : Src w A (bts l)) : Src w A (bts (l.take m)) := fun hp => by
  obtain ⟨ad, e, hb, hx⟩ := hs (by simp [bts] at hp ⊢; omega)
  refine ⟨ad, e, hb, fun j v hj => hx j v ?_⟩
  unfold bts at hj ⊢
  rw [List.map_take, List.getElem?_take] at hj
  split at hj
  · exact hj
  · cases hj
/-- 'string(b)' of a whole block. -/
theorem str_whole {w : World} {g n : Nat} {X : List UInt8} (h : Whole w g 5 (bts X)) (hn : X.length = n) (c : Nat) :
    (convert 40 9 (.slice (some ⟨g, 0, none⟩) n c)).run Try.prog w = .ok (.string (strOf X)) w := by
  subst hn
  exact run_str 40 5 9 Try.underlying40 Try.underlying5 Try.underlying9 _ X c w (Src.of_all h) (fun ad e => by injection e with e; subst e; rfl)

theorem xor_byte (c : UInt8) : ∃ d : UInt8, bits .xor .u8 (c.toNat : Int) 255 = (d.toNat : Int) := by
  have h := Go.wf_bits .xor .u8 (c.toNat : Int) 255
  generalize bits .xor .u8 (c.toNat : Int) 255 = v at h
  have hv : 0 ≤ v ∧ v ≤ 255 := by simpa [Lit.wf, IntKind.min, IntKind.max, IntKind.signed, IntKind.bits] using h
  refine ⟨UInt8.ofNat v.toNat, ?_⟩
  rw [UInt8.toNat_ofNat']
  omega

section
variable {w : World} {p bL bS bW : Nat} {L S : List UInt8}
/-- Nothing waits. -/
theorem waits_none {n : Nat} (h : Dsk w p bL bS bW L S (falses n)) :
    Calls Try.prog 44 #[.pointer (some ⟨p, 0, none⟩)] w fun e w' => ∃ A c, e = .returned (.slice A 0 c) ∧ Chg [] w w' := by
  refine (waits_any h).mono ?_
  rintro e w' ⟨v, rfl, hown, hc⟩
  obtain ⟨A, c, rfl, _⟩ := own_form hown
  rw [wl_falses]
  exact ⟨A, c, rfl, hc⟩

end
end Go.Proofs.Ytigbnmckdjlihaa
