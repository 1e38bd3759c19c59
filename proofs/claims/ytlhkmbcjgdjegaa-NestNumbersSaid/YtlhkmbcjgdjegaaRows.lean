/-
  No cell of these rows narrows 'for every input' (looked for: loops, veiled, ifaces, maps, wideKeys, modest, calm, conditions, laid).
  DERIVED. THE GIVEN ROWS OF THIS SEAT. 12 by the template 'for every input the law returns true; each argument reads behind the call as it read before'; 0 by the template 'total and deterministic' (their statements: YtlhkmbcjgdjegaaTotals.lean).
  GIVEN WITH THE SEED: the statements are not yours to turn. If you find one false, say at which input.
  Laid BY PROGRAM, IN A SANDBOX (cutbox-rows.mjs): the forced cells as the released guide's own fill.sh prints them over the translation b8fb5489ca972176… (all of the seat's roots in one cut). By AI agents, Wed Nov 11 2026. No macro, syntax, notation, axiom, sorry.
-/
import Derived.Test.YtlhkmbcjgdjegaaChecked
import GoSem.Claim
import GoSem.ClaimJoined
import GoSem.ClaimMapViews
import Derived.JoinedTies
import Derived.KernelRfl
namespace Go.Proofs.Ytlhkmbcjgdjegaa
/- THE CELL 'sum', in the pinned program and in every row, IS THE sha256 OF THE DUMP (.gsa) THAT YtlhkmbcjgdjegaaProg.lean LOADS. Nothing in Lean hashes anything: it is a label: what it is worth is what the hold of that sum in a sandbox is worth. -/
noncomputable def Try.pinned : Pinned := { name := "ytlhkmbcjgdjegaa", sum := "b8fb5489ca972176fc3a122922f67d99c385b444dc922095043689684d25a2f7", checked := Try.checked }
namespace Rows
def none {H : Type} : Left H := { results := [], args := [] }

/-- 'engramlaw17.HomeNumbers': WHATEVER THE INPUT: true; the input reads as it did. -/
def homeNumbersSpec : ChangeSpec := { name := "homeNumbers", fn := fun _ => fun
  | [] => { results := [.lit (.bool true)], args := [] }
  | _ => none }
def homeNumbersRow : OpenClaim := { program := "ytlhkmbcjgdjegaa", sum := "b8fb5489ca972176fc3a122922f67d99c385b444dc922095043689684d25a2f7", func := "engram/engramlaw17.HomeNumbers", spec := "homeNumbers", apart := false }
def HomeNumbersSaid : Prop := homeNumbersRow.holds Try.pinned (OpenSpec.ofChange homeNumbersSpec)

/-- ITS FALSE NEIGHBOUR: 'it returns false'. Refute it at one input. -/
def homeNumbersWrong : ChangeSpec := { name := "homeNumbers", fn := fun _ => fun
  | [] => { results := [.lit (.bool false)], args := [] }
  | _ => none }
def HomeNumbersWrongFalsely : Prop := homeNumbersRow.holds Try.pinned (OpenSpec.ofChange homeNumbersWrong)

/-- 'engramlaw17.HomeTells': WHATEVER THE INPUT: true; the input reads as it did. -/
def homeTellsSpec : ChangeSpec := { name := "homeTells", fn := fun _ => fun
  | [d1, d2, d3, d4] => { results := [.lit (.bool true)], args := [d1, d2, d3, d4] }
  | _ => none }
def homeTellsRow : OpenClaim := { program := "ytlhkmbcjgdjegaa", sum := "b8fb5489ca972176fc3a122922f67d99c385b444dc922095043689684d25a2f7", func := "engram/engramlaw17.HomeTells", spec := "homeTells", apart := false }
def HomeTellsSaid : Prop := homeTellsRow.holds Try.pinned (OpenSpec.ofChange homeTellsSpec)

/-- ITS FALSE NEIGHBOUR: 'it returns false'. Refute it at one input. -/
def homeTellsWrong : ChangeSpec := { name := "homeTells", fn := fun _ => fun
  | [d1, d2, d3, d4] => { results := [.lit (.bool false)], args := [d1, d2, d3, d4] }
  | _ => none }
def HomeTellsWrongFalsely : Prop := homeTellsRow.holds Try.pinned (OpenSpec.ofChange homeTellsWrong)

/-- 'engramlaw17.HomeBack': WHATEVER THE INPUT: true; the input reads as it did. -/
def homeBackSpec : ChangeSpec := { name := "homeBack", fn := fun _ => fun
  | [d1, d2] => { results := [.lit (.bool true)], args := [d1, d2] }
  | _ => none }
def homeBackRow : OpenClaim := { program := "ytlhkmbcjgdjegaa", sum := "b8fb5489ca972176fc3a122922f67d99c385b444dc922095043689684d25a2f7", func := "engram/engramlaw17.HomeBack", spec := "homeBack", apart := false }
def HomeBackSaid : Prop := homeBackRow.holds Try.pinned (OpenSpec.ofChange homeBackSpec)

/-- ITS FALSE NEIGHBOUR: 'it returns false'. Refute it at one input. -/
def homeBackWrong : ChangeSpec := { name := "homeBack", fn := fun _ => fun
  | [d1, d2] => { results := [.lit (.bool false)], args := [d1, d2] }
  | _ => none }
def HomeBackWrongFalsely : Prop := homeBackRow.holds Try.pinned (OpenSpec.ofChange homeBackWrong)

/-- 'engramlaw15.ShadeBack': WHATEVER THE INPUT: true; the input reads as it did. -/
def shadeBackSpec : ChangeSpec := { name := "shadeBack", fn := fun _ => fun
  | [d1, d2] => { results := [.lit (.bool true)], args := [d1, d2] }
  | _ => none }
def shadeBackRow : OpenClaim := { program := "ytlhkmbcjgdjegaa", sum := "b8fb5489ca972176fc3a122922f67d99c385b444dc922095043689684d25a2f7", func := "engram/engramlaw15.ShadeBack", spec := "shadeBack", apart := false }
def ShadeBackSaid : Prop := shadeBackRow.holds Try.pinned (OpenSpec.ofChange shadeBackSpec)

/-- ITS FALSE NEIGHBOUR: 'it returns false'. Refute it at one input. -/
def shadeBackWrong : ChangeSpec := { name := "shadeBack", fn := fun _ => fun
  | [d1, d2] => { results := [.lit (.bool false)], args := [d1, d2] }
  | _ => none }
def ShadeBackWrongFalsely : Prop := shadeBackRow.holds Try.pinned (OpenSpec.ofChange shadeBackWrong)

/-- 'engramlaw15.ShadeNone': WHATEVER THE INPUT: true; the input reads as it did. -/
def shadeNoneSpec : ChangeSpec := { name := "shadeNone", fn := fun _ => fun
  | [d1, d2, d3, d4] => { results := [.lit (.bool true)], args := [d1, d2, d3, d4] }
  | _ => none }
def shadeNoneRow : OpenClaim := { program := "ytlhkmbcjgdjegaa", sum := "b8fb5489ca972176fc3a122922f67d99c385b444dc922095043689684d25a2f7", func := "engram/engramlaw15.ShadeNone", spec := "shadeNone", apart := false }
def ShadeNoneSaid : Prop := shadeNoneRow.holds Try.pinned (OpenSpec.ofChange shadeNoneSpec)

/-- ITS FALSE NEIGHBOUR: 'it returns false'. Refute it at one input. -/
def shadeNoneWrong : ChangeSpec := { name := "shadeNone", fn := fun _ => fun
  | [d1, d2, d3, d4] => { results := [.lit (.bool false)], args := [d1, d2, d3, d4] }
  | _ => none }
def ShadeNoneWrongFalsely : Prop := shadeNoneRow.holds Try.pinned (OpenSpec.ofChange shadeNoneWrong)

/-- 'engramlaw16.RedoNumbers': WHATEVER THE INPUT: true; the input reads as it did. -/
def redoNumbersSpec : ChangeSpec := { name := "redoNumbers", fn := fun _ => fun
  | [] => { results := [.lit (.bool true)], args := [] }
  | _ => none }
def redoNumbersRow : OpenClaim := { program := "ytlhkmbcjgdjegaa", sum := "b8fb5489ca972176fc3a122922f67d99c385b444dc922095043689684d25a2f7", func := "engram/engramlaw16.RedoNumbers", spec := "redoNumbers", apart := false }
def RedoNumbersSaid : Prop := redoNumbersRow.holds Try.pinned (OpenSpec.ofChange redoNumbersSpec)

/-- ITS FALSE NEIGHBOUR: 'it returns false'. Refute it at one input. -/
def redoNumbersWrong : ChangeSpec := { name := "redoNumbers", fn := fun _ => fun
  | [] => { results := [.lit (.bool false)], args := [] }
  | _ => none }
def RedoNumbersWrongFalsely : Prop := redoNumbersRow.holds Try.pinned (OpenSpec.ofChange redoNumbersWrong)

/-- 'engramlaw16.RedoTells': WHATEVER THE INPUT: true; the input reads as it did. -/
def redoTellsSpec : ChangeSpec := { name := "redoTells", fn := fun _ => fun
  | [d1, d2, d3, d4, d5, d6] => { results := [.lit (.bool true)], args := [d1, d2, d3, d4, d5, d6] }
  | _ => none }
def redoTellsRow : OpenClaim := { program := "ytlhkmbcjgdjegaa", sum := "b8fb5489ca972176fc3a122922f67d99c385b444dc922095043689684d25a2f7", func := "engram/engramlaw16.RedoTells", spec := "redoTells", apart := false }
def RedoTellsSaid : Prop := redoTellsRow.holds Try.pinned (OpenSpec.ofChange redoTellsSpec)

/-- ITS FALSE NEIGHBOUR: 'it returns false'. Refute it at one input. -/
def redoTellsWrong : ChangeSpec := { name := "redoTells", fn := fun _ => fun
  | [d1, d2, d3, d4, d5, d6] => { results := [.lit (.bool false)], args := [d1, d2, d3, d4, d5, d6] }
  | _ => none }
def RedoTellsWrongFalsely : Prop := redoTellsRow.holds Try.pinned (OpenSpec.ofChange redoTellsWrong)

/-- 'engramlaw16.RedoBack': WHATEVER THE INPUT: true; the input reads as it did. -/
def redoBackSpec : ChangeSpec := { name := "redoBack", fn := fun _ => fun
  | [d1, d2, d3] => { results := [.lit (.bool true)], args := [d1, d2, d3] }
  | _ => none }
def redoBackRow : OpenClaim := { program := "ytlhkmbcjgdjegaa", sum := "b8fb5489ca972176fc3a122922f67d99c385b444dc922095043689684d25a2f7", func := "engram/engramlaw16.RedoBack", spec := "redoBack", apart := false }
def RedoBackSaid : Prop := redoBackRow.holds Try.pinned (OpenSpec.ofChange redoBackSpec)

/-- ITS FALSE NEIGHBOUR: 'it returns false'. Refute it at one input. -/
def redoBackWrong : ChangeSpec := { name := "redoBack", fn := fun _ => fun
  | [d1, d2, d3] => { results := [.lit (.bool false)], args := [d1, d2, d3] }
  | _ => none }
def RedoBackWrongFalsely : Prop := redoBackRow.holds Try.pinned (OpenSpec.ofChange redoBackWrong)

/-- 'engramlaw8.NestNumbers': WHATEVER THE INPUT: true; the input reads as it did. -/
def nestNumbersSpec : ChangeSpec := { name := "nestNumbers", fn := fun _ => fun
  | [] => { results := [.lit (.bool true)], args := [] }
  | _ => none }
def nestNumbersRow : OpenClaim := { program := "ytlhkmbcjgdjegaa", sum := "b8fb5489ca972176fc3a122922f67d99c385b444dc922095043689684d25a2f7", func := "engram/engramlaw8.NestNumbers", spec := "nestNumbers", apart := false }
def NestNumbersSaid : Prop := nestNumbersRow.holds Try.pinned (OpenSpec.ofChange nestNumbersSpec)

/-- ITS FALSE NEIGHBOUR: 'it returns false'. Refute it at one input. -/
def nestNumbersWrong : ChangeSpec := { name := "nestNumbers", fn := fun _ => fun
  | [] => { results := [.lit (.bool false)], args := [] }
  | _ => none }
def NestNumbersWrongFalsely : Prop := nestNumbersRow.holds Try.pinned (OpenSpec.ofChange nestNumbersWrong)

/-- 'engramlaw8.NestTells': WHATEVER THE INPUT: true; the input reads as it did. -/
def nestTellsSpec : ChangeSpec := { name := "nestTells", fn := fun _ => fun
  | [d1, d2, d3] => { results := [.lit (.bool true)], args := [d1, d2, d3] }
  | _ => none }
def nestTellsRow : OpenClaim := { program := "ytlhkmbcjgdjegaa", sum := "b8fb5489ca972176fc3a122922f67d99c385b444dc922095043689684d25a2f7", func := "engram/engramlaw8.NestTells", spec := "nestTells", recurses := true, apart := false }
def NestTellsSaid : Prop := nestTellsRow.holds Try.pinned (OpenSpec.ofChange nestTellsSpec)

/-- ITS FALSE NEIGHBOUR: 'it returns false'. Refute it at one input. -/
def nestTellsWrong : ChangeSpec := { name := "nestTells", fn := fun _ => fun
  | [d1, d2, d3] => { results := [.lit (.bool false)], args := [d1, d2, d3] }
  | _ => none }
def NestTellsWrongFalsely : Prop := nestTellsRow.holds Try.pinned (OpenSpec.ofChange nestTellsWrong)

/-- 'engramlaw8.NestWithin': WHATEVER THE INPUT: true; the input reads as it did. -/
def nestWithinSpec : ChangeSpec := { name := "nestWithin", fn := fun _ => fun
  | [d] => { results := [.lit (.bool true)], args := [d] }
  | _ => none }
def nestWithinRow : OpenClaim := { program := "ytlhkmbcjgdjegaa", sum := "b8fb5489ca972176fc3a122922f67d99c385b444dc922095043689684d25a2f7", func := "engram/engramlaw8.NestWithin", spec := "nestWithin", recurses := true, apart := false }
def NestWithinSaid : Prop := nestWithinRow.holds Try.pinned (OpenSpec.ofChange nestWithinSpec)

/-- ITS FALSE NEIGHBOUR: 'it returns false'. Refute it at one input. -/
def nestWithinWrong : ChangeSpec := { name := "nestWithin", fn := fun _ => fun
  | [d] => { results := [.lit (.bool false)], args := [d] }
  | _ => none }
def NestWithinWrongFalsely : Prop := nestWithinRow.holds Try.pinned (OpenSpec.ofChange nestWithinWrong)

/-- 'engramlaw8.NestAdds': WHATEVER THE INPUT: true; the input reads as it did. -/
def nestAddsSpec : ChangeSpec := { name := "nestAdds", fn := fun _ => fun
  | [d1, d2] => { results := [.lit (.bool true)], args := [d1, d2] }
  | _ => none }
def nestAddsRow : OpenClaim := { program := "ytlhkmbcjgdjegaa", sum := "b8fb5489ca972176fc3a122922f67d99c385b444dc922095043689684d25a2f7", func := "engram/engramlaw8.NestAdds", spec := "nestAdds", recurses := true, apart := false }
def NestAddsSaid : Prop := nestAddsRow.holds Try.pinned (OpenSpec.ofChange nestAddsSpec)

/-- ITS FALSE NEIGHBOUR: 'it returns false'. Refute it at one input. -/
def nestAddsWrong : ChangeSpec := { name := "nestAdds", fn := fun _ => fun
  | [d1, d2] => { results := [.lit (.bool false)], args := [d1, d2] }
  | _ => none }
def NestAddsWrongFalsely : Prop := nestAddsRow.holds Try.pinned (OpenSpec.ofChange nestAddsWrong)

/- THE SECOND FORM. 'bulk': how many values and letters a reading holds, each counted each time it is reached (what is shared counts as often as it is met; a slice's spare places count too). A statement '..UptoSaid' is the law's where the arguments, and the package variables that the reading takes, are together of bulk at most 1048576: NARROWER than '..Said'. Prove '..Said' where nothing that the law and all that it calls make is longer than what came in: it says more and counts as full. Else prove '..UptoSaid'. A law counts once. -/
mutual
def uptoBulk {H : Type} : DataW H → Nat
  | .lit (.string bytes) => bytes.length + 1
  | .lit _ => 1
  | .nil => 1
  | .ptr d => uptoBulk d + 1
  | .slice elems spare => uptoBulkAll elems + uptoBulkAll spare + 1
  | .agg parts => uptoBulkAll parts + 1
  | .iface _ d => uptoBulk d + 1
  | .map entries => uptoBulkEntries entries + 1
  | .held _ => 1
def uptoBulkAll {H : Type} : List (DataW H) → Nat
  | [] => 0
  | d :: r => uptoBulk d + uptoBulkAll r
def uptoBulkEntries {H : Type} : List (Lit × DataW H) → Nat
  | [] => 0
  | x :: r => uptoBulkEntry x + uptoBulkEntries r
def uptoBulkEntry {H : Type} : Lit × DataW H → Nat
  | (.string bytes, d) => bytes.length + uptoBulk d + 1
  | (_, d) => uptoBulk d + 1
 end
def uptoSmall : (H : Type) → List (DataW H) → Bool := fun _ ds => decide (uptoBulkAll ds ≤ 1048576)
def OpenSpec.upto (s : _root_.Go.ChangeSpec) : _root_.Go.OpenSpec := { _root_.Go.OpenSpec.ofChange s with cond := some uptoSmall }

/-- 'engramlaw17.HomeNumbers', WHERE WHAT IT READS IS OF BULK AT MOST 1048576: true; the input reads as it did. -/
def homeNumbersUptoRow : OpenClaim := { program := "ytlhkmbcjgdjegaa", sum := "b8fb5489ca972176fc3a122922f67d99c385b444dc922095043689684d25a2f7", func := "engram/engramlaw17.HomeNumbers", spec := "homeNumbers", apart := false, narrowed := true }
def HomeNumbersUptoSaid : Prop := homeNumbersUptoRow.holds Try.pinned (OpenSpec.upto homeNumbersSpec)

/-- 'engramlaw17.HomeTells', WHERE WHAT IT READS IS OF BULK AT MOST 1048576: true; the input reads as it did. -/
def homeTellsUptoRow : OpenClaim := { program := "ytlhkmbcjgdjegaa", sum := "b8fb5489ca972176fc3a122922f67d99c385b444dc922095043689684d25a2f7", func := "engram/engramlaw17.HomeTells", spec := "homeTells", apart := false, narrowed := true }
def HomeTellsUptoSaid : Prop := homeTellsUptoRow.holds Try.pinned (OpenSpec.upto homeTellsSpec)

/-- 'engramlaw17.HomeBack', WHERE WHAT IT READS IS OF BULK AT MOST 1048576: true; the input reads as it did. -/
def homeBackUptoRow : OpenClaim := { program := "ytlhkmbcjgdjegaa", sum := "b8fb5489ca972176fc3a122922f67d99c385b444dc922095043689684d25a2f7", func := "engram/engramlaw17.HomeBack", spec := "homeBack", apart := false, narrowed := true }
def HomeBackUptoSaid : Prop := homeBackUptoRow.holds Try.pinned (OpenSpec.upto homeBackSpec)

/-- 'engramlaw15.ShadeBack', WHERE WHAT IT READS IS OF BULK AT MOST 1048576: true; the input reads as it did. -/
def shadeBackUptoRow : OpenClaim := { program := "ytlhkmbcjgdjegaa", sum := "b8fb5489ca972176fc3a122922f67d99c385b444dc922095043689684d25a2f7", func := "engram/engramlaw15.ShadeBack", spec := "shadeBack", apart := false, narrowed := true }
def ShadeBackUptoSaid : Prop := shadeBackUptoRow.holds Try.pinned (OpenSpec.upto shadeBackSpec)

/-- 'engramlaw15.ShadeNone', WHERE WHAT IT READS IS OF BULK AT MOST 1048576: true; the input reads as it did. -/
def shadeNoneUptoRow : OpenClaim := { program := "ytlhkmbcjgdjegaa", sum := "b8fb5489ca972176fc3a122922f67d99c385b444dc922095043689684d25a2f7", func := "engram/engramlaw15.ShadeNone", spec := "shadeNone", apart := false, narrowed := true }
def ShadeNoneUptoSaid : Prop := shadeNoneUptoRow.holds Try.pinned (OpenSpec.upto shadeNoneSpec)

/-- 'engramlaw16.RedoNumbers', WHERE WHAT IT READS IS OF BULK AT MOST 1048576: true; the input reads as it did. -/
def redoNumbersUptoRow : OpenClaim := { program := "ytlhkmbcjgdjegaa", sum := "b8fb5489ca972176fc3a122922f67d99c385b444dc922095043689684d25a2f7", func := "engram/engramlaw16.RedoNumbers", spec := "redoNumbers", apart := false, narrowed := true }
def RedoNumbersUptoSaid : Prop := redoNumbersUptoRow.holds Try.pinned (OpenSpec.upto redoNumbersSpec)

/-- 'engramlaw16.RedoTells', WHERE WHAT IT READS IS OF BULK AT MOST 1048576: true; the input reads as it did. -/
def redoTellsUptoRow : OpenClaim := { program := "ytlhkmbcjgdjegaa", sum := "b8fb5489ca972176fc3a122922f67d99c385b444dc922095043689684d25a2f7", func := "engram/engramlaw16.RedoTells", spec := "redoTells", apart := false, narrowed := true }
def RedoTellsUptoSaid : Prop := redoTellsUptoRow.holds Try.pinned (OpenSpec.upto redoTellsSpec)

/-- 'engramlaw16.RedoBack', WHERE WHAT IT READS IS OF BULK AT MOST 1048576: true; the input reads as it did. -/
def redoBackUptoRow : OpenClaim := { program := "ytlhkmbcjgdjegaa", sum := "b8fb5489ca972176fc3a122922f67d99c385b444dc922095043689684d25a2f7", func := "engram/engramlaw16.RedoBack", spec := "redoBack", apart := false, narrowed := true }
def RedoBackUptoSaid : Prop := redoBackUptoRow.holds Try.pinned (OpenSpec.upto redoBackSpec)

/-- 'engramlaw8.NestNumbers', WHERE WHAT IT READS IS OF BULK AT MOST 1048576: true; the input reads as it did. -/
def nestNumbersUptoRow : OpenClaim := { program := "ytlhkmbcjgdjegaa", sum := "b8fb5489ca972176fc3a122922f67d99c385b444dc922095043689684d25a2f7", func := "engram/engramlaw8.NestNumbers", spec := "nestNumbers", apart := false, narrowed := true }
def NestNumbersUptoSaid : Prop := nestNumbersUptoRow.holds Try.pinned (OpenSpec.upto nestNumbersSpec)

/-- 'engramlaw8.NestTells', WHERE WHAT IT READS IS OF BULK AT MOST 1048576: true; the input reads as it did. -/
def nestTellsUptoRow : OpenClaim := { program := "ytlhkmbcjgdjegaa", sum := "b8fb5489ca972176fc3a122922f67d99c385b444dc922095043689684d25a2f7", func := "engram/engramlaw8.NestTells", spec := "nestTells", recurses := true, apart := false, narrowed := true }
def NestTellsUptoSaid : Prop := nestTellsUptoRow.holds Try.pinned (OpenSpec.upto nestTellsSpec)

/-- 'engramlaw8.NestWithin', WHERE WHAT IT READS IS OF BULK AT MOST 1048576: true; the input reads as it did. -/
def nestWithinUptoRow : OpenClaim := { program := "ytlhkmbcjgdjegaa", sum := "b8fb5489ca972176fc3a122922f67d99c385b444dc922095043689684d25a2f7", func := "engram/engramlaw8.NestWithin", spec := "nestWithin", recurses := true, apart := false, narrowed := true }
def NestWithinUptoSaid : Prop := nestWithinUptoRow.holds Try.pinned (OpenSpec.upto nestWithinSpec)

/-- 'engramlaw8.NestAdds', WHERE WHAT IT READS IS OF BULK AT MOST 1048576: true; the input reads as it did. -/
def nestAddsUptoRow : OpenClaim := { program := "ytlhkmbcjgdjegaa", sum := "b8fb5489ca972176fc3a122922f67d99c385b444dc922095043689684d25a2f7", func := "engram/engramlaw8.NestAdds", spec := "nestAdds", recurses := true, apart := false, narrowed := true }
def NestAddsUptoSaid : Prop := nestAddsUptoRow.holds Try.pinned (OpenSpec.upto nestAddsSpec)

end Rows
end Go.Proofs.Ytlhkmbcjgdjegaa
