/-
  package frame's Read of a frame, and of what is none.
-/
import Derived.Test.YtigbnmckdjlihabFrmPure
namespace Go.Proofs.Ytigbnmckdjlihab
open Go.RowKit
section
variable {w : World} {A : Option Addr} {n c : Nat} {l : List UInt8}
theorem read_yes (L m : List UInt8) (ep sq : Nat) (he : ep < 4294967296) (hs : sq < 4294967296) (hr : L.length < 4294967296) (h : Bs w A n c (frameL ep sq L ++ m)) (hn : n ≤ 140737488355328) :
    Calls Try.prog 38 #[.slice A n c, .int .u32 (ep : Int), .int .u32 (sq : Int)] w fun e w' => ∃ A c, e = .returned (.tuple #[.slice A L.length c, .int .i64 ((16 + L.length : Nat) : Int), .bool true]) ∧ Bs w' A L.length c L ∧ Chg [] w w' := by
  refine (read_any' h ep sq hn).mono ?_
  rintro e w' (⟨_, v, rfl, ho, hc⟩ | ⟨hno, _⟩)
  · rw [frame_rec ep sq L m he hs hr] at ho
    rw [frame_len ep sq L m he hs hr]
    obtain ⟨A2, c2, rfl, hB, _⟩ := Bs.of_own ho
    exact ⟨A2, c2, rfl, hB, hc⟩
  · exact absurd (frame_ok ep sq L m he hs hr) hno
theorem read_no (h : Bs w A n c l) (ep sq : Nat) (hno : ¬ readOk l ep sq) (hn : n ≤ 140737488355328) :
    Calls Try.prog 38 #[.slice A n c, .int .u32 (ep : Int), .int .u32 (sq : Int)] w fun e w' => e = .returned (.tuple #[.slice none 0 0, .int .i64 0, .bool false]) ∧ Chg [] w w' := by
  refine (read_any' h ep sq hn).mono ?_
  rintro e w' (⟨hyes, _⟩ | ⟨_, rfl, hc⟩)
  · exact absurd hyes hno
  · exact ⟨rfl, hc⟩
end
end Go.Proofs.Ytigbnmckdjlihab
