/-
  No cell of these rows narrows 'for every input' (looked for: loops, veiled, ifaces, maps, wideKeys, modest, calm, conditions, laid).
  DERIVED. THE GIVEN ROWS OF THIS SEAT. 3 by the template 'for every input the law returns true; each argument reads behind the call as it read before'; 0 by the template 'total and deterministic' (their statements: YtddjgncdjdjgeaaTotals.lean).
  GIVEN WITH THE SEED: the statements are not yours to turn. If you find one false, say at which input.
  Laid BY PROGRAM, IN A SANDBOX (cutbox-rows.mjs): the forced cells as the released guide's own fill.sh prints them over the translation c857c79f99d26f2c… (all of the seat's roots in one cut). By AI agents, Wed Nov 11 2026. No macro, syntax, notation, axiom, sorry.
-/
import Derived.Test.YtddjgncdjdjgeaaChecked
import GoSem.Claim
import GoSem.ClaimJoined
import GoSem.ClaimMapViews
import Derived.JoinedTies
import Derived.KernelRfl
namespace Go.Proofs.Ytddjgncdjdjgeaa
/- THE CELL 'sum', in the pinned program and in every row, IS THE sha256 OF THE DUMP (.gsa) THAT YtddjgncdjdjgeaaProg.lean LOADS. Nothing in Lean hashes anything: it is a label: what it is worth is what the hold of that sum in a sandbox is worth. -/
noncomputable def Try.pinned : Pinned := { name := "ytddjgncdjdjgeaa", sum := "c857c79f99d26f2c41769b75cffca2b51f7b308c7bff62e8ceed9360ece449ee", checked := Try.checked }
namespace Rows
def none {H : Type} : Left H := { results := [], args := [] }

/-- 'engramlaw18.StoreKeeps': WHATEVER THE INPUT: true; the input reads as it did. -/
def storeKeepsSpec : ChangeSpec := { name := "storeKeeps", fn := fun _ => fun
  | [d1, d2, d3] => { results := [.lit (.bool true)], args := [d1, d2, d3] }
  | _ => none }
def storeKeepsRow : OpenClaim := { program := "ytddjgncdjdjgeaa", sum := "c857c79f99d26f2c41769b75cffca2b51f7b308c7bff62e8ceed9360ece449ee", func := "engram/engramlaw18.StoreKeeps", spec := "storeKeeps", apart := false }
def StoreKeepsSaid : Prop := storeKeepsRow.holds Try.pinned (OpenSpec.ofChange storeKeepsSpec)

/-- ITS FALSE NEIGHBOUR: 'it returns false'. Refute it at one input. -/
def storeKeepsWrong : ChangeSpec := { name := "storeKeeps", fn := fun _ => fun
  | [d1, d2, d3] => { results := [.lit (.bool false)], args := [d1, d2, d3] }
  | _ => none }
def StoreKeepsWrongFalsely : Prop := storeKeepsRow.holds Try.pinned (OpenSpec.ofChange storeKeepsWrong)

/-- 'engramlaw19.HealTwice': WHATEVER THE INPUT: true; the input reads as it did. -/
def healTwiceSpec : ChangeSpec := { name := "healTwice", fn := fun _ => fun
  | [d1, d2, d3, d4] => { results := [.lit (.bool true)], args := [d1, d2, d3, d4] }
  | _ => none }
def healTwiceRow : OpenClaim := { program := "ytddjgncdjdjgeaa", sum := "c857c79f99d26f2c41769b75cffca2b51f7b308c7bff62e8ceed9360ece449ee", func := "engram/engramlaw19.HealTwice", spec := "healTwice", apart := false }
def HealTwiceSaid : Prop := healTwiceRow.holds Try.pinned (OpenSpec.ofChange healTwiceSpec)

/-- ITS FALSE NEIGHBOUR: 'it returns false'. Refute it at one input. -/
def healTwiceWrong : ChangeSpec := { name := "healTwice", fn := fun _ => fun
  | [d1, d2, d3, d4] => { results := [.lit (.bool false)], args := [d1, d2, d3, d4] }
  | _ => none }
def HealTwiceWrongFalsely : Prop := healTwiceRow.holds Try.pinned (OpenSpec.ofChange healTwiceWrong)

/-- 'engramlaw19.HealCounts': WHATEVER THE INPUT: true; the input reads as it did. -/
def healCountsSpec : ChangeSpec := { name := "healCounts", fn := fun _ => fun
  | [d1, d2] => { results := [.lit (.bool true)], args := [d1, d2] }
  | _ => none }
def healCountsRow : OpenClaim := { program := "ytddjgncdjdjgeaa", sum := "c857c79f99d26f2c41769b75cffca2b51f7b308c7bff62e8ceed9360ece449ee", func := "engram/engramlaw19.HealCounts", spec := "healCounts", apart := false }
def HealCountsSaid : Prop := healCountsRow.holds Try.pinned (OpenSpec.ofChange healCountsSpec)

/-- ITS FALSE NEIGHBOUR: 'it returns false'. Refute it at one input. -/
def healCountsWrong : ChangeSpec := { name := "healCounts", fn := fun _ => fun
  | [d1, d2] => { results := [.lit (.bool false)], args := [d1, d2] }
  | _ => none }
def HealCountsWrongFalsely : Prop := healCountsRow.holds Try.pinned (OpenSpec.ofChange healCountsWrong)

/- THE SECOND FORM. 'bulk': how many values and letters a reading holds, each counted each time it is reached (what is shared counts as often as it is met; a slice's spare places count too). A statement '..UptoSaid' is the law's where the arguments, and the package variables that the reading takes, are together of bulk at most 1048576: NARROWER than '..Said'. Prove '..Said' where nothing that the law and all that it calls make is longer than what came in: it says more and counts as full. Else prove '..UptoSaid'. A law counts once. -/
mutual
def uptoBulk {H : Type} : DataW H → Nat
  | .lit (.string bytes) => bytes.length + 1
  | .lit _ => 1
  | .nil => 1
  | .ptr d => uptoBulk d + 1
  | .slice elems spare => uptoBulkAll elems + uptoBulkAll spare + 1
  | .agg parts => uptoBulkAll parts + 1
  | .iface _ d => uptoBulk d + 1
  | .map entries => uptoBulkEntries entries + 1
  | .held _ => 1
def uptoBulkAll {H : Type} : List (DataW H) → Nat
  | [] => 0
  | d :: r => uptoBulk d + uptoBulkAll r
def uptoBulkEntries {H : Type} : List (Lit × DataW H) → Nat
  | [] => 0
  | x :: r => uptoBulkEntry x + uptoBulkEntries r
def uptoBulkEntry {H : Type} : Lit × DataW H → Nat
  | (.string bytes, d) => bytes.length + uptoBulk d + 1
  | (_, d) => uptoBulk d + 1
 end
def uptoSmall : (H : Type) → List (DataW H) → Bool := fun _ ds => decide (uptoBulkAll ds ≤ 1048576)
def OpenSpec.upto (s : _root_.Go.ChangeSpec) : _root_.Go.OpenSpec := { _root_.Go.OpenSpec.ofChange s with cond := some uptoSmall }

/-- 'engramlaw18.StoreKeeps', WHERE WHAT IT READS IS OF BULK AT MOST 1048576: true; the input reads as it did. -/
def storeKeepsUptoRow : OpenClaim := { program := "ytddjgncdjdjgeaa", sum := "c857c79f99d26f2c41769b75cffca2b51f7b308c7bff62e8ceed9360ece449ee", func := "engram/engramlaw18.StoreKeeps", spec := "storeKeeps", apart := false, narrowed := true }
def StoreKeepsUptoSaid : Prop := storeKeepsUptoRow.holds Try.pinned (OpenSpec.upto storeKeepsSpec)

/-- 'engramlaw19.HealTwice', WHERE WHAT IT READS IS OF BULK AT MOST 1048576: true; the input reads as it did. -/
def healTwiceUptoRow : OpenClaim := { program := "ytddjgncdjdjgeaa", sum := "c857c79f99d26f2c41769b75cffca2b51f7b308c7bff62e8ceed9360ece449ee", func := "engram/engramlaw19.HealTwice", spec := "healTwice", apart := false, narrowed := true }
def HealTwiceUptoSaid : Prop := healTwiceUptoRow.holds Try.pinned (OpenSpec.upto healTwiceSpec)

/-- 'engramlaw19.HealCounts', WHERE WHAT IT READS IS OF BULK AT MOST 1048576: true; the input reads as it did. -/
def healCountsUptoRow : OpenClaim := { program := "ytddjgncdjdjgeaa", sum := "c857c79f99d26f2c41769b75cffca2b51f7b308c7bff62e8ceed9360ece449ee", func := "engram/engramlaw19.HealCounts", spec := "healCounts", apart := false, narrowed := true }
def HealCountsUptoSaid : Prop := healCountsUptoRow.holds Try.pinned (OpenSpec.upto healCountsSpec)

end Rows
end Go.Proofs.Ytddjgncdjdjgeaa
