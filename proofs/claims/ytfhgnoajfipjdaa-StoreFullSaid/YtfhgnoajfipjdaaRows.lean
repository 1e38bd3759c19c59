/-
  No cell of these rows narrows 'for every input' (looked for: loops, veiled, ifaces, maps, wideKeys, modest, calm, conditions, laid).
  DERIVED. THE GIVEN ROWS OF THIS SEAT. 8 by the template 'for every input the law returns true; each argument reads behind the call as it read before'; 0 by the template 'total and deterministic' (their statements: YtfhgnoajfipjdaaTotals.lean).
  GIVEN WITH THE SEED: the statements are not yours to turn. If you find one false, say at which input.
  Laid BY PROGRAM, IN A SANDBOX (cutbox-rows.mjs): the forced cells as the released guide's own fill.sh prints them over the translation e3cdef9319e92c65… (all of the seat's roots in one cut). By AI agents, Wed Nov 11 2026. No macro, syntax, notation, axiom, sorry.
-/
import Derived.Test.YtfhgnoajfipjdaaChecked
import GoSem.Claim
import GoSem.ClaimJoined
import GoSem.ClaimMapViews
import Derived.JoinedTies
import Derived.KernelRfl
namespace Go.Proofs.Ytfhgnoajfipjdaa
/- THE CELL 'sum', in the pinned program and in every row, IS THE sha256 OF THE DUMP (.gsa) THAT YtfhgnoajfipjdaaProg.lean LOADS. Nothing in Lean hashes anything: it is a label: what it is worth is what the hold of that sum in a sandbox is worth. -/
noncomputable def Try.pinned : Pinned := { name := "ytfhgnoajfipjdaa", sum := "e3cdef9319e92c655f460d577fba890571e554589895e6fadc2a5ee8bcbe7166", checked := Try.checked }
namespace Rows
def none {H : Type} : Left H := { results := [], args := [] }

/-- 'engramlaw14.EngineFuel': WHATEVER THE INPUT: true; the input reads as it did. -/
def engineFuelSpec : ChangeSpec := { name := "engineFuel", fn := fun _ => fun
  | [d1, d2] => { results := [.lit (.bool true)], args := [d1, d2] }
  | _ => none }
def engineFuelRow : OpenClaim := { program := "ytfhgnoajfipjdaa", sum := "e3cdef9319e92c655f460d577fba890571e554589895e6fadc2a5ee8bcbe7166", func := "engram/engramlaw14.EngineFuel", spec := "engineFuel", recurses := true, apart := false }
def EngineFuelSaid : Prop := engineFuelRow.holds Try.pinned (OpenSpec.ofChange engineFuelSpec)

/-- ITS FALSE NEIGHBOUR: 'it returns false'. Refute it at one input. -/
def engineFuelWrong : ChangeSpec := { name := "engineFuel", fn := fun _ => fun
  | [d1, d2] => { results := [.lit (.bool false)], args := [d1, d2] }
  | _ => none }
def EngineFuelWrongFalsely : Prop := engineFuelRow.holds Try.pinned (OpenSpec.ofChange engineFuelWrong)

/-- 'engramlaw14.EngineCopies': WHATEVER THE INPUT: true; the input reads as it did. -/
def engineCopiesSpec : ChangeSpec := { name := "engineCopies", fn := fun _ => fun
  | [d1, d2] => { results := [.lit (.bool true)], args := [d1, d2] }
  | _ => none }
def engineCopiesRow : OpenClaim := { program := "ytfhgnoajfipjdaa", sum := "e3cdef9319e92c655f460d577fba890571e554589895e6fadc2a5ee8bcbe7166", func := "engram/engramlaw14.EngineCopies", spec := "engineCopies", recurses := true, apart := false }
def EngineCopiesSaid : Prop := engineCopiesRow.holds Try.pinned (OpenSpec.ofChange engineCopiesSpec)

/-- ITS FALSE NEIGHBOUR: 'it returns false'. Refute it at one input. -/
def engineCopiesWrong : ChangeSpec := { name := "engineCopies", fn := fun _ => fun
  | [d1, d2] => { results := [.lit (.bool false)], args := [d1, d2] }
  | _ => none }
def EngineCopiesWrongFalsely : Prop := engineCopiesRow.holds Try.pinned (OpenSpec.ofChange engineCopiesWrong)

/-- 'engramlaw14.EngineAsks': WHATEVER THE INPUT: true; the input reads as it did. -/
def engineAsksSpec : ChangeSpec := { name := "engineAsks", fn := fun _ => fun
  | [d] => { results := [.lit (.bool true)], args := [d] }
  | _ => none }
def engineAsksRow : OpenClaim := { program := "ytfhgnoajfipjdaa", sum := "e3cdef9319e92c655f460d577fba890571e554589895e6fadc2a5ee8bcbe7166", func := "engram/engramlaw14.EngineAsks", spec := "engineAsks", apart := false }
def EngineAsksSaid : Prop := engineAsksRow.holds Try.pinned (OpenSpec.ofChange engineAsksSpec)

/-- ITS FALSE NEIGHBOUR: 'it returns false'. Refute it at one input. -/
def engineAsksWrong : ChangeSpec := { name := "engineAsks", fn := fun _ => fun
  | [d] => { results := [.lit (.bool false)], args := [d] }
  | _ => none }
def EngineAsksWrongFalsely : Prop := engineAsksRow.holds Try.pinned (OpenSpec.ofChange engineAsksWrong)

/-- 'engramtop.TopVerdicts': WHATEVER THE INPUT: true; the input reads as it did. -/
def topVerdictsSpec : ChangeSpec := { name := "topVerdicts", fn := fun _ => fun
  | [d] => { results := [.lit (.bool true)], args := [d] }
  | _ => none }
def topVerdictsRow : OpenClaim := { program := "ytfhgnoajfipjdaa", sum := "e3cdef9319e92c655f460d577fba890571e554589895e6fadc2a5ee8bcbe7166", func := "engram/engramtop.TopVerdicts", spec := "topVerdicts", apart := false }
def TopVerdictsSaid : Prop := topVerdictsRow.holds Try.pinned (OpenSpec.ofChange topVerdictsSpec)

/-- ITS FALSE NEIGHBOUR: 'it returns false'. Refute it at one input. -/
def topVerdictsWrong : ChangeSpec := { name := "topVerdicts", fn := fun _ => fun
  | [d] => { results := [.lit (.bool false)], args := [d] }
  | _ => none }
def TopVerdictsWrongFalsely : Prop := topVerdictsRow.holds Try.pinned (OpenSpec.ofChange topVerdictsWrong)

/-- 'engramtop.TopReplies': WHATEVER THE INPUT: true; the input reads as it did. -/
def topRepliesSpec : ChangeSpec := { name := "topReplies", fn := fun _ => fun
  | [d] => { results := [.lit (.bool true)], args := [d] }
  | _ => none }
def topRepliesRow : OpenClaim := { program := "ytfhgnoajfipjdaa", sum := "e3cdef9319e92c655f460d577fba890571e554589895e6fadc2a5ee8bcbe7166", func := "engram/engramtop.TopReplies", spec := "topReplies", apart := false }
def TopRepliesSaid : Prop := topRepliesRow.holds Try.pinned (OpenSpec.ofChange topRepliesSpec)

/-- ITS FALSE NEIGHBOUR: 'it returns false'. Refute it at one input. -/
def topRepliesWrong : ChangeSpec := { name := "topReplies", fn := fun _ => fun
  | [d] => { results := [.lit (.bool false)], args := [d] }
  | _ => none }
def TopRepliesWrongFalsely : Prop := topRepliesRow.holds Try.pinned (OpenSpec.ofChange topRepliesWrong)

/-- 'engramlaw18.StoreKeeps': WHATEVER THE INPUT: true; the input reads as it did. -/
def storeKeepsSpec : ChangeSpec := { name := "storeKeeps", fn := fun _ => fun
  | [d1, d2, d3] => { results := [.lit (.bool true)], args := [d1, d2, d3] }
  | _ => none }
def storeKeepsRow : OpenClaim := { program := "ytfhgnoajfipjdaa", sum := "e3cdef9319e92c655f460d577fba890571e554589895e6fadc2a5ee8bcbe7166", func := "engram/engramlaw18.StoreKeeps", spec := "storeKeeps", apart := false }
def StoreKeepsSaid : Prop := storeKeepsRow.holds Try.pinned (OpenSpec.ofChange storeKeepsSpec)

/-- ITS FALSE NEIGHBOUR: 'it returns false'. Refute it at one input. -/
def storeKeepsWrong : ChangeSpec := { name := "storeKeeps", fn := fun _ => fun
  | [d1, d2, d3] => { results := [.lit (.bool false)], args := [d1, d2, d3] }
  | _ => none }
def StoreKeepsWrongFalsely : Prop := storeKeepsRow.holds Try.pinned (OpenSpec.ofChange storeKeepsWrong)

/-- 'engramlaw18.StoreFull': WHATEVER THE INPUT: true; the input reads as it did. -/
def storeFullSpec : ChangeSpec := { name := "storeFull", fn := fun _ => fun
  | [d1, d2] => { results := [.lit (.bool true)], args := [d1, d2] }
  | _ => none }
def storeFullRow : OpenClaim := { program := "ytfhgnoajfipjdaa", sum := "e3cdef9319e92c655f460d577fba890571e554589895e6fadc2a5ee8bcbe7166", func := "engram/engramlaw18.StoreFull", spec := "storeFull", apart := false }
def StoreFullSaid : Prop := storeFullRow.holds Try.pinned (OpenSpec.ofChange storeFullSpec)

/-- ITS FALSE NEIGHBOUR: 'it returns false'. Refute it at one input. -/
def storeFullWrong : ChangeSpec := { name := "storeFull", fn := fun _ => fun
  | [d1, d2] => { results := [.lit (.bool false)], args := [d1, d2] }
  | _ => none }
def StoreFullWrongFalsely : Prop := storeFullRow.holds Try.pinned (OpenSpec.ofChange storeFullWrong)

/-- 'engramlaw18.StoreOpens': WHATEVER THE INPUT: true; the input reads as it did. -/
def storeOpensSpec : ChangeSpec := { name := "storeOpens", fn := fun _ => fun
  | [d1, d2] => { results := [.lit (.bool true)], args := [d1, d2] }
  | _ => none }
def storeOpensRow : OpenClaim := { program := "ytfhgnoajfipjdaa", sum := "e3cdef9319e92c655f460d577fba890571e554589895e6fadc2a5ee8bcbe7166", func := "engram/engramlaw18.StoreOpens", spec := "storeOpens", apart := false }
def StoreOpensSaid : Prop := storeOpensRow.holds Try.pinned (OpenSpec.ofChange storeOpensSpec)

/-- ITS FALSE NEIGHBOUR: 'it returns false'. Refute it at one input. -/
def storeOpensWrong : ChangeSpec := { name := "storeOpens", fn := fun _ => fun
  | [d1, d2] => { results := [.lit (.bool false)], args := [d1, d2] }
  | _ => none }
def StoreOpensWrongFalsely : Prop := storeOpensRow.holds Try.pinned (OpenSpec.ofChange storeOpensWrong)

/- THE SECOND FORM. 'bulk': how many values and letters a reading holds, each counted each time it is reached (what is shared counts as often as it is met; a slice's spare places count too). A statement '..UptoSaid' is the law's where the arguments, and the package variables that the reading takes, are together of bulk at most 1048576: NARROWER than '..Said'. Prove '..Said' where nothing that the law and all that it calls make is longer than what came in: it says more and counts as full. Else prove '..UptoSaid'. A law counts once. -/
mutual
def uptoBulk {H : Type} : DataW H → Nat
  | .lit (.string bytes) => bytes.length + 1
  | .lit _ => 1
  | .nil => 1
  | .ptr d => uptoBulk d + 1
  | .slice elems spare => uptoBulkAll elems + uptoBulkAll spare + 1
  | .agg parts => uptoBulkAll parts + 1
  | .iface _ d => uptoBulk d + 1
  | .map entries => uptoBulkEntries entries + 1
  | .held _ => 1
def uptoBulkAll {H : Type} : List (DataW H) → Nat
  | [] => 0
  | d :: r => uptoBulk d + uptoBulkAll r
def uptoBulkEntries {H : Type} : List (Lit × DataW H) → Nat
  | [] => 0
  | x :: r => uptoBulkEntry x + uptoBulkEntries r
def uptoBulkEntry {H : Type} : Lit × DataW H → Nat
  | (.string bytes, d) => bytes.length + uptoBulk d + 1
  | (_, d) => uptoBulk d + 1
 end
def uptoSmall : (H : Type) → List (DataW H) → Bool := fun _ ds => decide (uptoBulkAll ds ≤ 1048576)
def OpenSpec.upto (s : _root_.Go.ChangeSpec) : _root_.Go.OpenSpec := { _root_.Go.OpenSpec.ofChange s with cond := some uptoSmall }

/-- 'engramlaw14.EngineFuel', WHERE WHAT IT READS IS OF BULK AT MOST 1048576: true; the input reads as it did. -/
def engineFuelUptoRow : OpenClaim := { program := "ytfhgnoajfipjdaa", sum := "e3cdef9319e92c655f460d577fba890571e554589895e6fadc2a5ee8bcbe7166", func := "engram/engramlaw14.EngineFuel", spec := "engineFuel", recurses := true, apart := false, narrowed := true }
def EngineFuelUptoSaid : Prop := engineFuelUptoRow.holds Try.pinned (OpenSpec.upto engineFuelSpec)

/-- 'engramlaw14.EngineCopies', WHERE WHAT IT READS IS OF BULK AT MOST 1048576: true; the input reads as it did. -/
def engineCopiesUptoRow : OpenClaim := { program := "ytfhgnoajfipjdaa", sum := "e3cdef9319e92c655f460d577fba890571e554589895e6fadc2a5ee8bcbe7166", func := "engram/engramlaw14.EngineCopies", spec := "engineCopies", recurses := true, apart := false, narrowed := true }
def EngineCopiesUptoSaid : Prop := engineCopiesUptoRow.holds Try.pinned (OpenSpec.upto engineCopiesSpec)

/-- 'engramlaw14.EngineAsks', WHERE WHAT IT READS IS OF BULK AT MOST 1048576: true; the input reads as it did. -/
def engineAsksUptoRow : OpenClaim := { program := "ytfhgnoajfipjdaa", sum := "e3cdef9319e92c655f460d577fba890571e554589895e6fadc2a5ee8bcbe7166", func := "engram/engramlaw14.EngineAsks", spec := "engineAsks", apart := false, narrowed := true }
def EngineAsksUptoSaid : Prop := engineAsksUptoRow.holds Try.pinned (OpenSpec.upto engineAsksSpec)

/-- 'engramtop.TopVerdicts', WHERE WHAT IT READS IS OF BULK AT MOST 1048576: true; the input reads as it did. -/
def topVerdictsUptoRow : OpenClaim := { program := "ytfhgnoajfipjdaa", sum := "e3cdef9319e92c655f460d577fba890571e554589895e6fadc2a5ee8bcbe7166", func := "engram/engramtop.TopVerdicts", spec := "topVerdicts", apart := false, narrowed := true }
def TopVerdictsUptoSaid : Prop := topVerdictsUptoRow.holds Try.pinned (OpenSpec.upto topVerdictsSpec)

/-- 'engramtop.TopReplies', WHERE WHAT IT READS IS OF BULK AT MOST 1048576: true; the input reads as it did. -/
def topRepliesUptoRow : OpenClaim := { program := "ytfhgnoajfipjdaa", sum := "e3cdef9319e92c655f460d577fba890571e554589895e6fadc2a5ee8bcbe7166", func := "engram/engramtop.TopReplies", spec := "topReplies", apart := false, narrowed := true }
def TopRepliesUptoSaid : Prop := topRepliesUptoRow.holds Try.pinned (OpenSpec.upto topRepliesSpec)

/-- 'engramlaw18.StoreKeeps', WHERE WHAT IT READS IS OF BULK AT MOST 1048576: true; the input reads as it did. -/
def storeKeepsUptoRow : OpenClaim := { program := "ytfhgnoajfipjdaa", sum := "e3cdef9319e92c655f460d577fba890571e554589895e6fadc2a5ee8bcbe7166", func := "engram/engramlaw18.StoreKeeps", spec := "storeKeeps", apart := false, narrowed := true }
def StoreKeepsUptoSaid : Prop := storeKeepsUptoRow.holds Try.pinned (OpenSpec.upto storeKeepsSpec)

/-- 'engramlaw18.StoreFull', WHERE WHAT IT READS IS OF BULK AT MOST 1048576: true; the input reads as it did. -/
def storeFullUptoRow : OpenClaim := { program := "ytfhgnoajfipjdaa", sum := "e3cdef9319e92c655f460d577fba890571e554589895e6fadc2a5ee8bcbe7166", func := "engram/engramlaw18.StoreFull", spec := "storeFull", apart := false, narrowed := true }
def StoreFullUptoSaid : Prop := storeFullUptoRow.holds Try.pinned (OpenSpec.upto storeFullSpec)

/-- 'engramlaw18.StoreOpens', WHERE WHAT IT READS IS OF BULK AT MOST 1048576: true; the input reads as it did. -/
def storeOpensUptoRow : OpenClaim := { program := "ytfhgnoajfipjdaa", sum := "e3cdef9319e92c655f460d577fba890571e554589895e6fadc2a5ee8bcbe7166", func := "engram/engramlaw18.StoreOpens", spec := "storeOpens", apart := false, narrowed := true }
def StoreOpensUptoSaid : Prop := storeOpensUptoRow.holds Try.pinned (OpenSpec.upto storeOpensSpec)

end Rows
end Go.Proofs.Ytfhgnoajfipjdaa
