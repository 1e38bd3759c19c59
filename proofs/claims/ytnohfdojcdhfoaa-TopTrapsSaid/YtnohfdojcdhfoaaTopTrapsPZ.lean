/-
  Each trap: the runs.
-/
import Derived.Test.YtnohfdojcdhfoaaZTopRun1
import Derived.Test.YtnohfdojcdhfoaaZTopRun2
import Derived.Test.YtnohfdojcdhfoaaZTopRun3
import Derived.Test.YtnohfdojcdhfoaaZTopRun4
import Derived.Test.YtnohfdojcdhfoaaZTopRun5
import Derived.Test.YtnohfdojcdhfoaaZTopRun6
import Derived.Test.YtnohfdojcdhfoaaZTopRun7
import Derived.Test.YtnohfdojcdhfoaaZTopRun8
import Derived.Test.YtnohfdojcdhfoaaZTopRun9
import Derived.Test.YtnohfdojcdhfoaaFrameZ
import Derived.Test.YtnohfdojcdhfoaaTopRunZ
import Derived.Test.YtnohfdojcdhfoaaTopAwakeZ
import Derived.Test.YtnohfdojcdhfoaaTopMaskZ
import Derived.Test.YtnohfdojcdhfoaaTopMemZ
namespace Go.Proofs.Ytnohfdojcdhfoaa
open Go.RowKit
def tr0C : ByteArray := ⟨#[97, 32, 48, 47]⟩
def tr0T : List TkV := [⟨97, 0, 0⟩, ⟨48, 0, 0⟩, ⟨47, 0, 0⟩]
def tr0G : List Int := [(-1), (-1), (-1)]
theorem tr0_tok : tokR tr0C = some tr0T := by kernel_rfl
theorem tr0_nest : (rNest (signs tr0T)).map (·.1) = some tr0G := by decide +kernel
theorem tr0_ok : (rFn (oneF tr0C) 0).1 = 0 := by decide +kernel
theorem tr0_run (a : Int) : EndsAs tr0C a 0 0 3 := ends_dec tr0_ok (by decide) (by kernel_rfl)
def tr1C : ByteArray := ⟨#[49, 32, 54, 51, 194, 171, 32, 48, 32, 49, 45, 47]⟩
def tr1T : List TkV := [⟨48, 1, 0⟩, ⟨48, 63, 0⟩, ⟨171, 0, 0⟩, ⟨48, 0, 0⟩, ⟨48, 1, 0⟩, ⟨45, 0, 0⟩, ⟨47, 0, 0⟩]
def tr1G : List Int := [(-1), (-1), (-1), (-1), (-1), (-1), (-1)]
theorem tr1_tok : tokR tr1C = some tr1T := by kernel_rfl
theorem tr1_nest : (rNest (signs tr1T)).map (·.1) = some tr1G := by decide +kernel
theorem tr1_ok : (rFn (oneF tr1C) 0).1 = 0 := by decide +kernel
theorem tr1_run (a : Int) : EndsAs tr1C a 0 0 4 := ends_dec tr1_ok (by decide) (by kernel_rfl)
def tr2C : ByteArray := ⟨#[54, 52, 194, 169]⟩
def tr2T : List TkV := [⟨48, 64, 0⟩, ⟨169, 0, 0⟩]
def tr2G : List Int := [(-1), (-1)]
theorem tr2_tok : tokR tr2C = some tr2T := by kernel_rfl
theorem tr2_nest : (rNest (signs tr2T)).map (·.1) = some tr2G := by decide +kernel
theorem tr2_ok : (rFn (oneF tr2C) 0).1 = 0 := by decide +kernel
theorem tr2_run (a : Int) : EndsAs tr2C a 0 0 5 := ends_dec tr2_ok (by decide) (by kernel_rfl)
def tr3C : ByteArray := ⟨#[194, 161]⟩
def tr3T : List TkV := [⟨161, 0, 0⟩]
def tr3G : List Int := [(-1)]
theorem tr3_tok : tokR tr3C = some tr3T := by kernel_rfl
theorem tr3_nest : (rNest (signs tr3T)).map (·.1) = some tr3G := by decide +kernel
theorem tr3_ok : (rFn (oneF tr3C) 0).1 = 0 := by decide +kernel
theorem tr3_run (a : Int) : EndsAs tr3C a 0 0 2 := ends_dec tr3_ok (by decide) (by kernel_rfl)
def tr4C : ByteArray := ⟨#[91, 93]⟩
def tr4T : List TkV := [⟨91, 0, 0⟩, ⟨93, 0, 0⟩]
def tr4G : List Int := [(-1), 0]
theorem tr4_tok : tokR tr4C = some tr4T := by kernel_rfl
theorem tr4_nest : (rNest (signs tr4T)).map (·.1) = some tr4G := by decide +kernel
theorem tr4_ok : (rFn (oneF tr4C) 0).1 = 0 := by decide +kernel
def tr5C : ByteArray := ⟨#[57, 32, 48, 32, 49, 45, 36, 49]⟩
def tr5T : List TkV := [⟨48, 9, 0⟩, ⟨48, 0, 0⟩, ⟨48, 1, 0⟩, ⟨45, 0, 0⟩, ⟨36, 0, 0⟩, ⟨48, 1, 0⟩]
def tr5G : List Int := [(-1), (-1), (-1), (-1), (-1), (-1)]
theorem tr5_tok : tokR tr5C = some tr5T := by kernel_rfl
theorem tr5_nest : (rNest (signs tr5T)).map (·.1) = some tr5G := by decide +kernel
theorem tr5_ok : (rFn (oneF tr5C) 0).1 = 0 := by decide +kernel
theorem tr5_run (a : Int) : EndsAs tr5C a 0 1 0 := ends_dec tr5_ok (by decide) (by kernel_rfl)
def tr6C : ByteArray := ⟨#[97, 32, 48, 37]⟩
def tr6T : List TkV := [⟨97, 0, 0⟩, ⟨48, 0, 0⟩, ⟨37, 0, 0⟩]
def tr6G : List Int := [(-1), (-1), (-1)]
theorem tr6_tok : tokR tr6C = some tr6T := by kernel_rfl
theorem tr6_nest : (rNest (signs tr6T)).map (·.1) = some tr6G := by decide +kernel
theorem tr6_ok : (rFn (oneF tr6C) 0).1 = 0 := by decide +kernel
theorem tr6_run (a : Int) : EndsAs tr6C a 0 0 3 := ends_dec tr6_ok (by decide) (by kernel_rfl)
theorem tr4_loop : ∀ (f : Nat) (a : Int), (∃ s', Rn (oneF tr4C) [⟨2, tr4T, tr4G⟩] [] 8 (mk f [] 0 [a, 0]) (1, s')) ∧ (∃ s', Rn (oneF tr4C) [⟨2, tr4T, tr4G⟩] [] 8 (mk f [] 1 [a, 0]) (1, s'))
  | 0, a => ⟨⟨mk 0 [] 0 [a, 0], Rn.stop (by kernel_rfl)⟩, ⟨mk 0 [] 1 [a, 0], Rn.stop (by kernel_rfl)⟩⟩
  | f + 1, a => by
    obtain ⟨⟨s1, h1⟩, ⟨s2, h2⟩⟩ := tr4_loop f a
    exact ⟨⟨s2, Rn.on (s' := mk f [] 1 [a, 0]) (by kernel_rfl) h2⟩, ⟨s1, Rn.on (s' := mk f [] 0 [a, 0]) (by kernel_rfl) h1⟩⟩
theorem tr4_run (a : Int) : EndsAs tr4C a 0 0 1 := by
  obtain ⟨⟨s', hs⟩, _⟩ := tr4_loop 100000 a
  exact ends_trap tr4_tok tr4_nest tr4_ok (by decide) hs (by decide)
end Go.Proofs.Ytnohfdojcdhfoaa
