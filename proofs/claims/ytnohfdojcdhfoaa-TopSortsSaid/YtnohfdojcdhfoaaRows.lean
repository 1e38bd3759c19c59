/-
  No cell of these rows narrows 'for every input' (looked for: loops, veiled, ifaces, maps, wideKeys, modest, calm, conditions, laid).
  DERIVED. THE GIVEN ROWS OF THIS SEAT. 27 by the template 'for every input the law returns true; each argument reads behind the call as it read before'; 0 by the template 'total and deterministic' (their statements: YtnohfdojcdhfoaaTotals.lean).
  GIVEN WITH THE SEED: the statements are not yours to turn. If you find one false, say at which input.
  Laid BY PROGRAM, IN A SANDBOX (cutbox-rows.mjs): the forced cells as the released guide's own fill.sh prints them over the translation 11d18e2e8c411562… (all of the seat's roots in one cut). By AI agents, Wed Nov 11 2026. No macro, syntax, notation, axiom, sorry.
-/
import Derived.Test.YtnohfdojcdhfoaaChecked
import GoSem.Claim
import GoSem.ClaimJoined
import GoSem.ClaimMapViews
import Derived.JoinedTies
import Derived.KernelRfl
namespace Go.Proofs.Ytnohfdojcdhfoaa
/- THE CELL 'sum', in the pinned program and in every row, IS THE sha256 OF THE DUMP (.gsa) THAT YtnohfdojcdhfoaaProg.lean LOADS. Nothing in Lean hashes anything: it is a label: what it is worth is what the hold of that sum in a sandbox is worth. -/
noncomputable def Try.pinned : Pinned := { name := "ytnohfdojcdhfoaa", sum := "11d18e2e8c411562e8a9ff24d860a7edd475fa9d30835ee43639b729b80f465a", checked := Try.checked }
namespace Rows
def none {H : Type} : Left H := { results := [], args := [] }

/-- 'engramlaw14.EngineAsks': WHATEVER THE INPUT: true; the input reads as it did. -/
def engineAsksSpec : ChangeSpec := { name := "engineAsks", fn := fun _ => fun
  | [d] => { results := [.lit (.bool true)], args := [d] }
  | _ => none }
def engineAsksRow : OpenClaim := { program := "ytnohfdojcdhfoaa", sum := "11d18e2e8c411562e8a9ff24d860a7edd475fa9d30835ee43639b729b80f465a", func := "engram/engramlaw14.EngineAsks", spec := "engineAsks", apart := false }
def EngineAsksSaid : Prop := engineAsksRow.holds Try.pinned (OpenSpec.ofChange engineAsksSpec)

/-- ITS FALSE NEIGHBOUR: 'it returns false'. Refute it at one input. -/
def engineAsksWrong : ChangeSpec := { name := "engineAsks", fn := fun _ => fun
  | [d] => { results := [.lit (.bool false)], args := [d] }
  | _ => none }
def EngineAsksWrongFalsely : Prop := engineAsksRow.holds Try.pinned (OpenSpec.ofChange engineAsksWrong)

/-- 'engramlaw14.EngineCopies': WHATEVER THE INPUT: true; the input reads as it did. -/
def engineCopiesSpec : ChangeSpec := { name := "engineCopies", fn := fun _ => fun
  | [d1, d2] => { results := [.lit (.bool true)], args := [d1, d2] }
  | _ => none }
def engineCopiesRow : OpenClaim := { program := "ytnohfdojcdhfoaa", sum := "11d18e2e8c411562e8a9ff24d860a7edd475fa9d30835ee43639b729b80f465a", func := "engram/engramlaw14.EngineCopies", spec := "engineCopies", recurses := true, apart := false }
def EngineCopiesSaid : Prop := engineCopiesRow.holds Try.pinned (OpenSpec.ofChange engineCopiesSpec)

/-- ITS FALSE NEIGHBOUR: 'it returns false'. Refute it at one input. -/
def engineCopiesWrong : ChangeSpec := { name := "engineCopies", fn := fun _ => fun
  | [d1, d2] => { results := [.lit (.bool false)], args := [d1, d2] }
  | _ => none }
def EngineCopiesWrongFalsely : Prop := engineCopiesRow.holds Try.pinned (OpenSpec.ofChange engineCopiesWrong)

/-- 'engramlaw14.EngineFuel': WHATEVER THE INPUT: true; the input reads as it did. -/
def engineFuelSpec : ChangeSpec := { name := "engineFuel", fn := fun _ => fun
  | [d1, d2] => { results := [.lit (.bool true)], args := [d1, d2] }
  | _ => none }
def engineFuelRow : OpenClaim := { program := "ytnohfdojcdhfoaa", sum := "11d18e2e8c411562e8a9ff24d860a7edd475fa9d30835ee43639b729b80f465a", func := "engram/engramlaw14.EngineFuel", spec := "engineFuel", recurses := true, apart := false }
def EngineFuelSaid : Prop := engineFuelRow.holds Try.pinned (OpenSpec.ofChange engineFuelSpec)

/-- ITS FALSE NEIGHBOUR: 'it returns false'. Refute it at one input. -/
def engineFuelWrong : ChangeSpec := { name := "engineFuel", fn := fun _ => fun
  | [d1, d2] => { results := [.lit (.bool false)], args := [d1, d2] }
  | _ => none }
def EngineFuelWrongFalsely : Prop := engineFuelRow.holds Try.pinned (OpenSpec.ofChange engineFuelWrong)

/-- 'engramtop.TopSums': WHATEVER THE INPUT: true; the input reads as it did. -/
def topSumsSpec : ChangeSpec := { name := "topSums", fn := fun _ => fun
  | [d] => { results := [.lit (.bool true)], args := [d] }
  | _ => none }
def topSumsRow : OpenClaim := { program := "ytnohfdojcdhfoaa", sum := "11d18e2e8c411562e8a9ff24d860a7edd475fa9d30835ee43639b729b80f465a", func := "engram/engramtop.TopSums", spec := "topSums", apart := false }
def TopSumsSaid : Prop := topSumsRow.holds Try.pinned (OpenSpec.ofChange topSumsSpec)

/-- ITS FALSE NEIGHBOUR: 'it returns false'. Refute it at one input. -/
def topSumsWrong : ChangeSpec := { name := "topSums", fn := fun _ => fun
  | [d] => { results := [.lit (.bool false)], args := [d] }
  | _ => none }
def TopSumsWrongFalsely : Prop := topSumsRow.holds Try.pinned (OpenSpec.ofChange topSumsWrong)

/-- 'engramtop.TopPowers': WHATEVER THE INPUT: true; the input reads as it did. -/
def topPowersSpec : ChangeSpec := { name := "topPowers", fn := fun _ => fun
  | [d1, d2] => { results := [.lit (.bool true)], args := [d1, d2] }
  | _ => none }
def topPowersRow : OpenClaim := { program := "ytnohfdojcdhfoaa", sum := "11d18e2e8c411562e8a9ff24d860a7edd475fa9d30835ee43639b729b80f465a", func := "engram/engramtop.TopPowers", spec := "topPowers", apart := false }
def TopPowersSaid : Prop := topPowersRow.holds Try.pinned (OpenSpec.ofChange topPowersSpec)

/-- ITS FALSE NEIGHBOUR: 'it returns false'. Refute it at one input. -/
def topPowersWrong : ChangeSpec := { name := "topPowers", fn := fun _ => fun
  | [d1, d2] => { results := [.lit (.bool false)], args := [d1, d2] }
  | _ => none }
def TopPowersWrongFalsely : Prop := topPowersRow.holds Try.pinned (OpenSpec.ofChange topPowersWrong)

/-- 'engramtop.TopGcds': WHATEVER THE INPUT: true; the input reads as it did. -/
def topGcdsSpec : ChangeSpec := { name := "topGcds", fn := fun _ => fun
  | [d1, d2] => { results := [.lit (.bool true)], args := [d1, d2] }
  | _ => none }
def topGcdsRow : OpenClaim := { program := "ytnohfdojcdhfoaa", sum := "11d18e2e8c411562e8a9ff24d860a7edd475fa9d30835ee43639b729b80f465a", func := "engram/engramtop.TopGcds", spec := "topGcds", apart := false }
def TopGcdsSaid : Prop := topGcdsRow.holds Try.pinned (OpenSpec.ofChange topGcdsSpec)

/-- ITS FALSE NEIGHBOUR: 'it returns false'. Refute it at one input. -/
def topGcdsWrong : ChangeSpec := { name := "topGcds", fn := fun _ => fun
  | [d1, d2] => { results := [.lit (.bool false)], args := [d1, d2] }
  | _ => none }
def TopGcdsWrongFalsely : Prop := topGcdsRow.holds Try.pinned (OpenSpec.ofChange topGcdsWrong)

/-- 'engramtop.TopCalls': WHATEVER THE INPUT: true; the input reads as it did. -/
def topCallsSpec : ChangeSpec := { name := "topCalls", fn := fun _ => fun
  | [d] => { results := [.lit (.bool true)], args := [d] }
  | _ => none }
def topCallsRow : OpenClaim := { program := "ytnohfdojcdhfoaa", sum := "11d18e2e8c411562e8a9ff24d860a7edd475fa9d30835ee43639b729b80f465a", func := "engram/engramtop.TopCalls", spec := "topCalls", apart := false }
def TopCallsSaid : Prop := topCallsRow.holds Try.pinned (OpenSpec.ofChange topCallsSpec)

/-- ITS FALSE NEIGHBOUR: 'it returns false'. Refute it at one input. -/
def topCallsWrong : ChangeSpec := { name := "topCalls", fn := fun _ => fun
  | [d] => { results := [.lit (.bool false)], args := [d] }
  | _ => none }
def TopCallsWrongFalsely : Prop := topCallsRow.holds Try.pinned (OpenSpec.ofChange topCallsWrong)

/-- 'engramtop.TopSwaps': WHATEVER THE INPUT: true; the input reads as it did. -/
def topSwapsSpec : ChangeSpec := { name := "topSwaps", fn := fun _ => fun
  | [d1, d2] => { results := [.lit (.bool true)], args := [d1, d2] }
  | _ => none }
def topSwapsRow : OpenClaim := { program := "ytnohfdojcdhfoaa", sum := "11d18e2e8c411562e8a9ff24d860a7edd475fa9d30835ee43639b729b80f465a", func := "engram/engramtop.TopSwaps", spec := "topSwaps", apart := false }
def TopSwapsSaid : Prop := topSwapsRow.holds Try.pinned (OpenSpec.ofChange topSwapsSpec)

/-- ITS FALSE NEIGHBOUR: 'it returns false'. Refute it at one input. -/
def topSwapsWrong : ChangeSpec := { name := "topSwaps", fn := fun _ => fun
  | [d1, d2] => { results := [.lit (.bool false)], args := [d1, d2] }
  | _ => none }
def TopSwapsWrongFalsely : Prop := topSwapsRow.holds Try.pinned (OpenSpec.ofChange topSwapsWrong)

/-- 'engramtop.TopTraps': WHATEVER THE INPUT: true; the input reads as it did. -/
def topTrapsSpec : ChangeSpec := { name := "topTraps", fn := fun _ => fun
  | [d1, d2] => { results := [.lit (.bool true)], args := [d1, d2] }
  | _ => none }
def topTrapsRow : OpenClaim := { program := "ytnohfdojcdhfoaa", sum := "11d18e2e8c411562e8a9ff24d860a7edd475fa9d30835ee43639b729b80f465a", func := "engram/engramtop.TopTraps", spec := "topTraps", apart := false }
def TopTrapsSaid : Prop := topTrapsRow.holds Try.pinned (OpenSpec.ofChange topTrapsSpec)

/-- ITS FALSE NEIGHBOUR: 'it returns false'. Refute it at one input. -/
def topTrapsWrong : ChangeSpec := { name := "topTraps", fn := fun _ => fun
  | [d1, d2] => { results := [.lit (.bool false)], args := [d1, d2] }
  | _ => none }
def TopTrapsWrongFalsely : Prop := topTrapsRow.holds Try.pinned (OpenSpec.ofChange topTrapsWrong)

/-- 'engramtop.TopGrows': WHATEVER THE INPUT: true; the input reads as it did. -/
def topGrowsSpec : ChangeSpec := { name := "topGrows", fn := fun _ => fun
  | [d] => { results := [.lit (.bool true)], args := [d] }
  | _ => none }
def topGrowsRow : OpenClaim := { program := "ytnohfdojcdhfoaa", sum := "11d18e2e8c411562e8a9ff24d860a7edd475fa9d30835ee43639b729b80f465a", func := "engram/engramtop.TopGrows", spec := "topGrows", apart := false }
def TopGrowsSaid : Prop := topGrowsRow.holds Try.pinned (OpenSpec.ofChange topGrowsSpec)

/-- ITS FALSE NEIGHBOUR: 'it returns false'. Refute it at one input. -/
def topGrowsWrong : ChangeSpec := { name := "topGrows", fn := fun _ => fun
  | [d] => { results := [.lit (.bool false)], args := [d] }
  | _ => none }
def TopGrowsWrongFalsely : Prop := topGrowsRow.holds Try.pinned (OpenSpec.ofChange topGrowsWrong)

/-- 'engramtop.TopFibs': WHATEVER THE INPUT: true; the input reads as it did. -/
def topFibsSpec : ChangeSpec := { name := "topFibs", fn := fun _ => fun
  | [d] => { results := [.lit (.bool true)], args := [d] }
  | _ => none }
def topFibsRow : OpenClaim := { program := "ytnohfdojcdhfoaa", sum := "11d18e2e8c411562e8a9ff24d860a7edd475fa9d30835ee43639b729b80f465a", func := "engram/engramtop.TopFibs", spec := "topFibs", apart := false }
def TopFibsSaid : Prop := topFibsRow.holds Try.pinned (OpenSpec.ofChange topFibsSpec)

/-- ITS FALSE NEIGHBOUR: 'it returns false'. Refute it at one input. -/
def topFibsWrong : ChangeSpec := { name := "topFibs", fn := fun _ => fun
  | [d] => { results := [.lit (.bool false)], args := [d] }
  | _ => none }
def TopFibsWrongFalsely : Prop := topFibsRow.holds Try.pinned (OpenSpec.ofChange topFibsWrong)

/-- 'engramtop.TopPrimes': WHATEVER THE INPUT: true; the input reads as it did. -/
def topPrimesSpec : ChangeSpec := { name := "topPrimes", fn := fun _ => fun
  | [d] => { results := [.lit (.bool true)], args := [d] }
  | _ => none }
def topPrimesRow : OpenClaim := { program := "ytnohfdojcdhfoaa", sum := "11d18e2e8c411562e8a9ff24d860a7edd475fa9d30835ee43639b729b80f465a", func := "engram/engramtop.TopPrimes", spec := "topPrimes", apart := false }
def TopPrimesSaid : Prop := topPrimesRow.holds Try.pinned (OpenSpec.ofChange topPrimesSpec)

/-- ITS FALSE NEIGHBOUR: 'it returns false'. Refute it at one input. -/
def topPrimesWrong : ChangeSpec := { name := "topPrimes", fn := fun _ => fun
  | [d] => { results := [.lit (.bool false)], args := [d] }
  | _ => none }
def TopPrimesWrongFalsely : Prop := topPrimesRow.holds Try.pinned (OpenSpec.ofChange topPrimesWrong)

/-- 'engramtop.TopSteps': WHATEVER THE INPUT: true; the input reads as it did. -/
def topStepsSpec : ChangeSpec := { name := "topSteps", fn := fun _ => fun
  | [d] => { results := [.lit (.bool true)], args := [d] }
  | _ => none }
def topStepsRow : OpenClaim := { program := "ytnohfdojcdhfoaa", sum := "11d18e2e8c411562e8a9ff24d860a7edd475fa9d30835ee43639b729b80f465a", func := "engram/engramtop.TopSteps", spec := "topSteps", apart := false }
def TopStepsSaid : Prop := topStepsRow.holds Try.pinned (OpenSpec.ofChange topStepsSpec)

/-- ITS FALSE NEIGHBOUR: 'it returns false'. Refute it at one input. -/
def topStepsWrong : ChangeSpec := { name := "topSteps", fn := fun _ => fun
  | [d] => { results := [.lit (.bool false)], args := [d] }
  | _ => none }
def TopStepsWrongFalsely : Prop := topStepsRow.holds Try.pinned (OpenSpec.ofChange topStepsWrong)

/-- 'engramtop.TopBits': WHATEVER THE INPUT: true; the input reads as it did. -/
def topBitsSpec : ChangeSpec := { name := "topBits", fn := fun _ => fun
  | [d] => { results := [.lit (.bool true)], args := [d] }
  | _ => none }
def topBitsRow : OpenClaim := { program := "ytnohfdojcdhfoaa", sum := "11d18e2e8c411562e8a9ff24d860a7edd475fa9d30835ee43639b729b80f465a", func := "engram/engramtop.TopBits", spec := "topBits", apart := false }
def TopBitsSaid : Prop := topBitsRow.holds Try.pinned (OpenSpec.ofChange topBitsSpec)

/-- ITS FALSE NEIGHBOUR: 'it returns false'. Refute it at one input. -/
def topBitsWrong : ChangeSpec := { name := "topBits", fn := fun _ => fun
  | [d] => { results := [.lit (.bool false)], args := [d] }
  | _ => none }
def TopBitsWrongFalsely : Prop := topBitsRow.holds Try.pinned (OpenSpec.ofChange topBitsWrong)

/-- 'engramtop.TopLeast': WHATEVER THE INPUT: true; the input reads as it did. -/
def topLeastSpec : ChangeSpec := { name := "topLeast", fn := fun _ => fun
  | [d1, d2] => { results := [.lit (.bool true)], args := [d1, d2] }
  | _ => none }
def topLeastRow : OpenClaim := { program := "ytnohfdojcdhfoaa", sum := "11d18e2e8c411562e8a9ff24d860a7edd475fa9d30835ee43639b729b80f465a", func := "engram/engramtop.TopLeast", spec := "topLeast", apart := false }
def TopLeastSaid : Prop := topLeastRow.holds Try.pinned (OpenSpec.ofChange topLeastSpec)

/-- ITS FALSE NEIGHBOUR: 'it returns false'. Refute it at one input. -/
def topLeastWrong : ChangeSpec := { name := "topLeast", fn := fun _ => fun
  | [d1, d2] => { results := [.lit (.bool false)], args := [d1, d2] }
  | _ => none }
def TopLeastWrongFalsely : Prop := topLeastRow.holds Try.pinned (OpenSpec.ofChange topLeastWrong)

/-- 'engramtop.TopCopies': WHATEVER THE INPUT: true; the input reads as it did. -/
def topCopiesSpec : ChangeSpec := { name := "topCopies", fn := fun _ => fun
  | [d1, d2] => { results := [.lit (.bool true)], args := [d1, d2] }
  | _ => none }
def topCopiesRow : OpenClaim := { program := "ytnohfdojcdhfoaa", sum := "11d18e2e8c411562e8a9ff24d860a7edd475fa9d30835ee43639b729b80f465a", func := "engram/engramtop.TopCopies", spec := "topCopies", apart := false }
def TopCopiesSaid : Prop := topCopiesRow.holds Try.pinned (OpenSpec.ofChange topCopiesSpec)

/-- ITS FALSE NEIGHBOUR: 'it returns false'. Refute it at one input. -/
def topCopiesWrong : ChangeSpec := { name := "topCopies", fn := fun _ => fun
  | [d1, d2] => { results := [.lit (.bool false)], args := [d1, d2] }
  | _ => none }
def TopCopiesWrongFalsely : Prop := topCopiesRow.holds Try.pinned (OpenSpec.ofChange topCopiesWrong)

/-- 'engramtop.TopSorts': WHATEVER THE INPUT: true; the input reads as it did. -/
def topSortsSpec : ChangeSpec := { name := "topSorts", fn := fun _ => fun
  | [d] => { results := [.lit (.bool true)], args := [d] }
  | _ => none }
def topSortsRow : OpenClaim := { program := "ytnohfdojcdhfoaa", sum := "11d18e2e8c411562e8a9ff24d860a7edd475fa9d30835ee43639b729b80f465a", func := "engram/engramtop.TopSorts", spec := "topSorts", apart := false }
def TopSortsSaid : Prop := topSortsRow.holds Try.pinned (OpenSpec.ofChange topSortsSpec)

/-- ITS FALSE NEIGHBOUR: 'it returns false'. Refute it at one input. -/
def topSortsWrong : ChangeSpec := { name := "topSorts", fn := fun _ => fun
  | [d] => { results := [.lit (.bool false)], args := [d] }
  | _ => none }
def TopSortsWrongFalsely : Prop := topSortsRow.holds Try.pinned (OpenSpec.ofChange topSortsWrong)

/-- 'engramtop.TopParts': WHATEVER THE INPUT: true; the input reads as it did. -/
def topPartsSpec : ChangeSpec := { name := "topParts", fn := fun _ => fun
  | [d1, d2] => { results := [.lit (.bool true)], args := [d1, d2] }
  | _ => none }
def topPartsRow : OpenClaim := { program := "ytnohfdojcdhfoaa", sum := "11d18e2e8c411562e8a9ff24d860a7edd475fa9d30835ee43639b729b80f465a", func := "engram/engramtop.TopParts", spec := "topParts", apart := false }
def TopPartsSaid : Prop := topPartsRow.holds Try.pinned (OpenSpec.ofChange topPartsSpec)

/-- ITS FALSE NEIGHBOUR: 'it returns false'. Refute it at one input. -/
def topPartsWrong : ChangeSpec := { name := "topParts", fn := fun _ => fun
  | [d1, d2] => { results := [.lit (.bool false)], args := [d1, d2] }
  | _ => none }
def TopPartsWrongFalsely : Prop := topPartsRow.holds Try.pinned (OpenSpec.ofChange topPartsWrong)

/-- 'engramtop.TopNested': WHATEVER THE INPUT: true; the input reads as it did. -/
def topNestedSpec : ChangeSpec := { name := "topNested", fn := fun _ => fun
  | [d1, d2] => { results := [.lit (.bool true)], args := [d1, d2] }
  | _ => none }
def topNestedRow : OpenClaim := { program := "ytnohfdojcdhfoaa", sum := "11d18e2e8c411562e8a9ff24d860a7edd475fa9d30835ee43639b729b80f465a", func := "engram/engramtop.TopNested", spec := "topNested", apart := false }
def TopNestedSaid : Prop := topNestedRow.holds Try.pinned (OpenSpec.ofChange topNestedSpec)

/-- ITS FALSE NEIGHBOUR: 'it returns false'. Refute it at one input. -/
def topNestedWrong : ChangeSpec := { name := "topNested", fn := fun _ => fun
  | [d1, d2] => { results := [.lit (.bool false)], args := [d1, d2] }
  | _ => none }
def TopNestedWrongFalsely : Prop := topNestedRow.holds Try.pinned (OpenSpec.ofChange topNestedWrong)

/-- 'engramtop.TopEvens': WHATEVER THE INPUT: true; the input reads as it did. -/
def topEvensSpec : ChangeSpec := { name := "topEvens", fn := fun _ => fun
  | [d] => { results := [.lit (.bool true)], args := [d] }
  | _ => none }
def topEvensRow : OpenClaim := { program := "ytnohfdojcdhfoaa", sum := "11d18e2e8c411562e8a9ff24d860a7edd475fa9d30835ee43639b729b80f465a", func := "engram/engramtop.TopEvens", spec := "topEvens", apart := false }
def TopEvensSaid : Prop := topEvensRow.holds Try.pinned (OpenSpec.ofChange topEvensSpec)

/-- ITS FALSE NEIGHBOUR: 'it returns false'. Refute it at one input. -/
def topEvensWrong : ChangeSpec := { name := "topEvens", fn := fun _ => fun
  | [d] => { results := [.lit (.bool false)], args := [d] }
  | _ => none }
def TopEvensWrongFalsely : Prop := topEvensRow.holds Try.pinned (OpenSpec.ofChange topEvensWrong)

/-- 'engramtop.TopVerdicts': WHATEVER THE INPUT: true; the input reads as it did. -/
def topVerdictsSpec : ChangeSpec := { name := "topVerdicts", fn := fun _ => fun
  | [d] => { results := [.lit (.bool true)], args := [d] }
  | _ => none }
def topVerdictsRow : OpenClaim := { program := "ytnohfdojcdhfoaa", sum := "11d18e2e8c411562e8a9ff24d860a7edd475fa9d30835ee43639b729b80f465a", func := "engram/engramtop.TopVerdicts", spec := "topVerdicts", apart := false }
def TopVerdictsSaid : Prop := topVerdictsRow.holds Try.pinned (OpenSpec.ofChange topVerdictsSpec)

/-- ITS FALSE NEIGHBOUR: 'it returns false'. Refute it at one input. -/
def topVerdictsWrong : ChangeSpec := { name := "topVerdicts", fn := fun _ => fun
  | [d] => { results := [.lit (.bool false)], args := [d] }
  | _ => none }
def TopVerdictsWrongFalsely : Prop := topVerdictsRow.holds Try.pinned (OpenSpec.ofChange topVerdictsWrong)

/-- 'engramtop.TopReplies': WHATEVER THE INPUT: true; the input reads as it did. -/
def topRepliesSpec : ChangeSpec := { name := "topReplies", fn := fun _ => fun
  | [d] => { results := [.lit (.bool true)], args := [d] }
  | _ => none }
def topRepliesRow : OpenClaim := { program := "ytnohfdojcdhfoaa", sum := "11d18e2e8c411562e8a9ff24d860a7edd475fa9d30835ee43639b729b80f465a", func := "engram/engramtop.TopReplies", spec := "topReplies", apart := false }
def TopRepliesSaid : Prop := topRepliesRow.holds Try.pinned (OpenSpec.ofChange topRepliesSpec)

/-- ITS FALSE NEIGHBOUR: 'it returns false'. Refute it at one input. -/
def topRepliesWrong : ChangeSpec := { name := "topReplies", fn := fun _ => fun
  | [d] => { results := [.lit (.bool false)], args := [d] }
  | _ => none }
def TopRepliesWrongFalsely : Prop := topRepliesRow.holds Try.pinned (OpenSpec.ofChange topRepliesWrong)

/-- 'engramtop.TopDoubles': WHATEVER THE INPUT: true; the input reads as it did. -/
def topDoublesSpec : ChangeSpec := { name := "topDoubles", fn := fun _ => fun
  | [d1, d2] => { results := [.lit (.bool true)], args := [d1, d2] }
  | _ => none }
def topDoublesRow : OpenClaim := { program := "ytnohfdojcdhfoaa", sum := "11d18e2e8c411562e8a9ff24d860a7edd475fa9d30835ee43639b729b80f465a", func := "engram/engramtop.TopDoubles", spec := "topDoubles", apart := false }
def TopDoublesSaid : Prop := topDoublesRow.holds Try.pinned (OpenSpec.ofChange topDoublesSpec)

/-- ITS FALSE NEIGHBOUR: 'it returns false'. Refute it at one input. -/
def topDoublesWrong : ChangeSpec := { name := "topDoubles", fn := fun _ => fun
  | [d1, d2] => { results := [.lit (.bool false)], args := [d1, d2] }
  | _ => none }
def TopDoublesWrongFalsely : Prop := topDoublesRow.holds Try.pinned (OpenSpec.ofChange topDoublesWrong)

/-- 'engramtop.TopFactorials': WHATEVER THE INPUT: true; the input reads as it did. -/
def topFactorialsSpec : ChangeSpec := { name := "topFactorials", fn := fun _ => fun
  | [d] => { results := [.lit (.bool true)], args := [d] }
  | _ => none }
def topFactorialsRow : OpenClaim := { program := "ytnohfdojcdhfoaa", sum := "11d18e2e8c411562e8a9ff24d860a7edd475fa9d30835ee43639b729b80f465a", func := "engram/engramtop.TopFactorials", spec := "topFactorials", apart := false }
def TopFactorialsSaid : Prop := topFactorialsRow.holds Try.pinned (OpenSpec.ofChange topFactorialsSpec)

/-- ITS FALSE NEIGHBOUR: 'it returns false'. Refute it at one input. -/
def topFactorialsWrong : ChangeSpec := { name := "topFactorials", fn := fun _ => fun
  | [d] => { results := [.lit (.bool false)], args := [d] }
  | _ => none }
def TopFactorialsWrongFalsely : Prop := topFactorialsRow.holds Try.pinned (OpenSpec.ofChange topFactorialsWrong)

/-- 'engramtop.TopDigits': WHATEVER THE INPUT: true; the input reads as it did. -/
def topDigitsSpec : ChangeSpec := { name := "topDigits", fn := fun _ => fun
  | [d] => { results := [.lit (.bool true)], args := [d] }
  | _ => none }
def topDigitsRow : OpenClaim := { program := "ytnohfdojcdhfoaa", sum := "11d18e2e8c411562e8a9ff24d860a7edd475fa9d30835ee43639b729b80f465a", func := "engram/engramtop.TopDigits", spec := "topDigits", apart := false }
def TopDigitsSaid : Prop := topDigitsRow.holds Try.pinned (OpenSpec.ofChange topDigitsSpec)

/-- ITS FALSE NEIGHBOUR: 'it returns false'. Refute it at one input. -/
def topDigitsWrong : ChangeSpec := { name := "topDigits", fn := fun _ => fun
  | [d] => { results := [.lit (.bool false)], args := [d] }
  | _ => none }
def TopDigitsWrongFalsely : Prop := topDigitsRow.holds Try.pinned (OpenSpec.ofChange topDigitsWrong)

/-- 'engramtop.TopRoots': WHATEVER THE INPUT: true; the input reads as it did. -/
def topRootsSpec : ChangeSpec := { name := "topRoots", fn := fun _ => fun
  | [d] => { results := [.lit (.bool true)], args := [d] }
  | _ => none }
def topRootsRow : OpenClaim := { program := "ytnohfdojcdhfoaa", sum := "11d18e2e8c411562e8a9ff24d860a7edd475fa9d30835ee43639b729b80f465a", func := "engram/engramtop.TopRoots", spec := "topRoots", apart := false }
def TopRootsSaid : Prop := topRootsRow.holds Try.pinned (OpenSpec.ofChange topRootsSpec)

/-- ITS FALSE NEIGHBOUR: 'it returns false'. Refute it at one input. -/
def topRootsWrong : ChangeSpec := { name := "topRoots", fn := fun _ => fun
  | [d] => { results := [.lit (.bool false)], args := [d] }
  | _ => none }
def TopRootsWrongFalsely : Prop := topRootsRow.holds Try.pinned (OpenSpec.ofChange topRootsWrong)

/-- 'engramtop.TopBytes': WHATEVER THE INPUT: true; the input reads as it did. -/
def topBytesSpec : ChangeSpec := { name := "topBytes", fn := fun _ => fun
  | [d1, d2] => { results := [.lit (.bool true)], args := [d1, d2] }
  | _ => none }
def topBytesRow : OpenClaim := { program := "ytnohfdojcdhfoaa", sum := "11d18e2e8c411562e8a9ff24d860a7edd475fa9d30835ee43639b729b80f465a", func := "engram/engramtop.TopBytes", spec := "topBytes", apart := false }
def TopBytesSaid : Prop := topBytesRow.holds Try.pinned (OpenSpec.ofChange topBytesSpec)

/-- ITS FALSE NEIGHBOUR: 'it returns false'. Refute it at one input. -/
def topBytesWrong : ChangeSpec := { name := "topBytes", fn := fun _ => fun
  | [d1, d2] => { results := [.lit (.bool false)], args := [d1, d2] }
  | _ => none }
def TopBytesWrongFalsely : Prop := topBytesRow.holds Try.pinned (OpenSpec.ofChange topBytesWrong)

/- THE SECOND FORM. 'bulk': how many values and letters a reading holds, each counted each time it is reached (what is shared counts as often as it is met; a slice's spare places count too). A statement '..UptoSaid' is the law's where the arguments, and the package variables that the reading takes, are together of bulk at most 1048576: NARROWER than '..Said'. Prove '..Said' where nothing that the law and all that it calls make is longer than what came in: it says more and counts as full. Else prove '..UptoSaid'. A law counts once. -/
mutual
def uptoBulk {H : Type} : DataW H → Nat
  | .lit (.string bytes) => bytes.length + 1
  | .lit _ => 1
  | .nil => 1
  | .ptr d => uptoBulk d + 1
  | .slice elems spare => uptoBulkAll elems + uptoBulkAll spare + 1
  | .agg parts => uptoBulkAll parts + 1
  | .iface _ d => uptoBulk d + 1
  | .map entries => uptoBulkEntries entries + 1
  | .held _ => 1
def uptoBulkAll {H : Type} : List (DataW H) → Nat
  | [] => 0
  | d :: r => uptoBulk d + uptoBulkAll r
def uptoBulkEntries {H : Type} : List (Lit × DataW H) → Nat
  | [] => 0
  | x :: r => uptoBulkEntry x + uptoBulkEntries r
def uptoBulkEntry {H : Type} : Lit × DataW H → Nat
  | (.string bytes, d) => bytes.length + uptoBulk d + 1
  | (_, d) => uptoBulk d + 1
 end
def uptoSmall : (H : Type) → List (DataW H) → Bool := fun _ ds => decide (uptoBulkAll ds ≤ 1048576)
def OpenSpec.upto (s : _root_.Go.ChangeSpec) : _root_.Go.OpenSpec := { _root_.Go.OpenSpec.ofChange s with cond := some uptoSmall }

/-- 'engramlaw14.EngineAsks', WHERE WHAT IT READS IS OF BULK AT MOST 1048576: true; the input reads as it did. -/
def engineAsksUptoRow : OpenClaim := { program := "ytnohfdojcdhfoaa", sum := "11d18e2e8c411562e8a9ff24d860a7edd475fa9d30835ee43639b729b80f465a", func := "engram/engramlaw14.EngineAsks", spec := "engineAsks", apart := false, narrowed := true }
def EngineAsksUptoSaid : Prop := engineAsksUptoRow.holds Try.pinned (OpenSpec.upto engineAsksSpec)

/-- 'engramlaw14.EngineCopies', WHERE WHAT IT READS IS OF BULK AT MOST 1048576: true; the input reads as it did. -/
def engineCopiesUptoRow : OpenClaim := { program := "ytnohfdojcdhfoaa", sum := "11d18e2e8c411562e8a9ff24d860a7edd475fa9d30835ee43639b729b80f465a", func := "engram/engramlaw14.EngineCopies", spec := "engineCopies", recurses := true, apart := false, narrowed := true }
def EngineCopiesUptoSaid : Prop := engineCopiesUptoRow.holds Try.pinned (OpenSpec.upto engineCopiesSpec)

/-- 'engramlaw14.EngineFuel', WHERE WHAT IT READS IS OF BULK AT MOST 1048576: true; the input reads as it did. -/
def engineFuelUptoRow : OpenClaim := { program := "ytnohfdojcdhfoaa", sum := "11d18e2e8c411562e8a9ff24d860a7edd475fa9d30835ee43639b729b80f465a", func := "engram/engramlaw14.EngineFuel", spec := "engineFuel", recurses := true, apart := false, narrowed := true }
def EngineFuelUptoSaid : Prop := engineFuelUptoRow.holds Try.pinned (OpenSpec.upto engineFuelSpec)

/-- 'engramtop.TopSums', WHERE WHAT IT READS IS OF BULK AT MOST 1048576: true; the input reads as it did. -/
def topSumsUptoRow : OpenClaim := { program := "ytnohfdojcdhfoaa", sum := "11d18e2e8c411562e8a9ff24d860a7edd475fa9d30835ee43639b729b80f465a", func := "engram/engramtop.TopSums", spec := "topSums", apart := false, narrowed := true }
def TopSumsUptoSaid : Prop := topSumsUptoRow.holds Try.pinned (OpenSpec.upto topSumsSpec)

/-- 'engramtop.TopPowers', WHERE WHAT IT READS IS OF BULK AT MOST 1048576: true; the input reads as it did. -/
def topPowersUptoRow : OpenClaim := { program := "ytnohfdojcdhfoaa", sum := "11d18e2e8c411562e8a9ff24d860a7edd475fa9d30835ee43639b729b80f465a", func := "engram/engramtop.TopPowers", spec := "topPowers", apart := false, narrowed := true }
def TopPowersUptoSaid : Prop := topPowersUptoRow.holds Try.pinned (OpenSpec.upto topPowersSpec)

/-- 'engramtop.TopGcds', WHERE WHAT IT READS IS OF BULK AT MOST 1048576: true; the input reads as it did. -/
def topGcdsUptoRow : OpenClaim := { program := "ytnohfdojcdhfoaa", sum := "11d18e2e8c411562e8a9ff24d860a7edd475fa9d30835ee43639b729b80f465a", func := "engram/engramtop.TopGcds", spec := "topGcds", apart := false, narrowed := true }
def TopGcdsUptoSaid : Prop := topGcdsUptoRow.holds Try.pinned (OpenSpec.upto topGcdsSpec)

/-- 'engramtop.TopCalls', WHERE WHAT IT READS IS OF BULK AT MOST 1048576: true; the input reads as it did. -/
def topCallsUptoRow : OpenClaim := { program := "ytnohfdojcdhfoaa", sum := "11d18e2e8c411562e8a9ff24d860a7edd475fa9d30835ee43639b729b80f465a", func := "engram/engramtop.TopCalls", spec := "topCalls", apart := false, narrowed := true }
def TopCallsUptoSaid : Prop := topCallsUptoRow.holds Try.pinned (OpenSpec.upto topCallsSpec)

/-- 'engramtop.TopSwaps', WHERE WHAT IT READS IS OF BULK AT MOST 1048576: true; the input reads as it did. -/
def topSwapsUptoRow : OpenClaim := { program := "ytnohfdojcdhfoaa", sum := "11d18e2e8c411562e8a9ff24d860a7edd475fa9d30835ee43639b729b80f465a", func := "engram/engramtop.TopSwaps", spec := "topSwaps", apart := false, narrowed := true }
def TopSwapsUptoSaid : Prop := topSwapsUptoRow.holds Try.pinned (OpenSpec.upto topSwapsSpec)

/-- 'engramtop.TopTraps', WHERE WHAT IT READS IS OF BULK AT MOST 1048576: true; the input reads as it did. -/
def topTrapsUptoRow : OpenClaim := { program := "ytnohfdojcdhfoaa", sum := "11d18e2e8c411562e8a9ff24d860a7edd475fa9d30835ee43639b729b80f465a", func := "engram/engramtop.TopTraps", spec := "topTraps", apart := false, narrowed := true }
def TopTrapsUptoSaid : Prop := topTrapsUptoRow.holds Try.pinned (OpenSpec.upto topTrapsSpec)

/-- 'engramtop.TopGrows', WHERE WHAT IT READS IS OF BULK AT MOST 1048576: true; the input reads as it did. -/
def topGrowsUptoRow : OpenClaim := { program := "ytnohfdojcdhfoaa", sum := "11d18e2e8c411562e8a9ff24d860a7edd475fa9d30835ee43639b729b80f465a", func := "engram/engramtop.TopGrows", spec := "topGrows", apart := false, narrowed := true }
def TopGrowsUptoSaid : Prop := topGrowsUptoRow.holds Try.pinned (OpenSpec.upto topGrowsSpec)

/-- 'engramtop.TopFibs', WHERE WHAT IT READS IS OF BULK AT MOST 1048576: true; the input reads as it did. -/
def topFibsUptoRow : OpenClaim := { program := "ytnohfdojcdhfoaa", sum := "11d18e2e8c411562e8a9ff24d860a7edd475fa9d30835ee43639b729b80f465a", func := "engram/engramtop.TopFibs", spec := "topFibs", apart := false, narrowed := true }
def TopFibsUptoSaid : Prop := topFibsUptoRow.holds Try.pinned (OpenSpec.upto topFibsSpec)

/-- 'engramtop.TopPrimes', WHERE WHAT IT READS IS OF BULK AT MOST 1048576: true; the input reads as it did. -/
def topPrimesUptoRow : OpenClaim := { program := "ytnohfdojcdhfoaa", sum := "11d18e2e8c411562e8a9ff24d860a7edd475fa9d30835ee43639b729b80f465a", func := "engram/engramtop.TopPrimes", spec := "topPrimes", apart := false, narrowed := true }
def TopPrimesUptoSaid : Prop := topPrimesUptoRow.holds Try.pinned (OpenSpec.upto topPrimesSpec)

/-- 'engramtop.TopSteps', WHERE WHAT IT READS IS OF BULK AT MOST 1048576: true; the input reads as it did. -/
def topStepsUptoRow : OpenClaim := { program := "ytnohfdojcdhfoaa", sum := "11d18e2e8c411562e8a9ff24d860a7edd475fa9d30835ee43639b729b80f465a", func := "engram/engramtop.TopSteps", spec := "topSteps", apart := false, narrowed := true }
def TopStepsUptoSaid : Prop := topStepsUptoRow.holds Try.pinned (OpenSpec.upto topStepsSpec)

/-- 'engramtop.TopBits', WHERE WHAT IT READS IS OF BULK AT MOST 1048576: true; the input reads as it did. -/
def topBitsUptoRow : OpenClaim := { program := "ytnohfdojcdhfoaa", sum := "11d18e2e8c411562e8a9ff24d860a7edd475fa9d30835ee43639b729b80f465a", func := "engram/engramtop.TopBits", spec := "topBits", apart := false, narrowed := true }
def TopBitsUptoSaid : Prop := topBitsUptoRow.holds Try.pinned (OpenSpec.upto topBitsSpec)

/-- 'engramtop.TopLeast', WHERE WHAT IT READS IS OF BULK AT MOST 1048576: true; the input reads as it did. -/
def topLeastUptoRow : OpenClaim := { program := "ytnohfdojcdhfoaa", sum := "11d18e2e8c411562e8a9ff24d860a7edd475fa9d30835ee43639b729b80f465a", func := "engram/engramtop.TopLeast", spec := "topLeast", apart := false, narrowed := true }
def TopLeastUptoSaid : Prop := topLeastUptoRow.holds Try.pinned (OpenSpec.upto topLeastSpec)

/-- 'engramtop.TopCopies', WHERE WHAT IT READS IS OF BULK AT MOST 1048576: true; the input reads as it did. -/
def topCopiesUptoRow : OpenClaim := { program := "ytnohfdojcdhfoaa", sum := "11d18e2e8c411562e8a9ff24d860a7edd475fa9d30835ee43639b729b80f465a", func := "engram/engramtop.TopCopies", spec := "topCopies", apart := false, narrowed := true }
def TopCopiesUptoSaid : Prop := topCopiesUptoRow.holds Try.pinned (OpenSpec.upto topCopiesSpec)

/-- 'engramtop.TopSorts', WHERE WHAT IT READS IS OF BULK AT MOST 1048576: true; the input reads as it did. -/
def topSortsUptoRow : OpenClaim := { program := "ytnohfdojcdhfoaa", sum := "11d18e2e8c411562e8a9ff24d860a7edd475fa9d30835ee43639b729b80f465a", func := "engram/engramtop.TopSorts", spec := "topSorts", apart := false, narrowed := true }
def TopSortsUptoSaid : Prop := topSortsUptoRow.holds Try.pinned (OpenSpec.upto topSortsSpec)

/-- 'engramtop.TopParts', WHERE WHAT IT READS IS OF BULK AT MOST 1048576: true; the input reads as it did. -/
def topPartsUptoRow : OpenClaim := { program := "ytnohfdojcdhfoaa", sum := "11d18e2e8c411562e8a9ff24d860a7edd475fa9d30835ee43639b729b80f465a", func := "engram/engramtop.TopParts", spec := "topParts", apart := false, narrowed := true }
def TopPartsUptoSaid : Prop := topPartsUptoRow.holds Try.pinned (OpenSpec.upto topPartsSpec)

/-- 'engramtop.TopNested', WHERE WHAT IT READS IS OF BULK AT MOST 1048576: true; the input reads as it did. -/
def topNestedUptoRow : OpenClaim := { program := "ytnohfdojcdhfoaa", sum := "11d18e2e8c411562e8a9ff24d860a7edd475fa9d30835ee43639b729b80f465a", func := "engram/engramtop.TopNested", spec := "topNested", apart := false, narrowed := true }
def TopNestedUptoSaid : Prop := topNestedUptoRow.holds Try.pinned (OpenSpec.upto topNestedSpec)

/-- 'engramtop.TopEvens', WHERE WHAT IT READS IS OF BULK AT MOST 1048576: true; the input reads as it did. -/
def topEvensUptoRow : OpenClaim := { program := "ytnohfdojcdhfoaa", sum := "11d18e2e8c411562e8a9ff24d860a7edd475fa9d30835ee43639b729b80f465a", func := "engram/engramtop.TopEvens", spec := "topEvens", apart := false, narrowed := true }
def TopEvensUptoSaid : Prop := topEvensUptoRow.holds Try.pinned (OpenSpec.upto topEvensSpec)

/-- 'engramtop.TopVerdicts', WHERE WHAT IT READS IS OF BULK AT MOST 1048576: true; the input reads as it did. -/
def topVerdictsUptoRow : OpenClaim := { program := "ytnohfdojcdhfoaa", sum := "11d18e2e8c411562e8a9ff24d860a7edd475fa9d30835ee43639b729b80f465a", func := "engram/engramtop.TopVerdicts", spec := "topVerdicts", apart := false, narrowed := true }
def TopVerdictsUptoSaid : Prop := topVerdictsUptoRow.holds Try.pinned (OpenSpec.upto topVerdictsSpec)

/-- 'engramtop.TopReplies', WHERE WHAT IT READS IS OF BULK AT MOST 1048576: true; the input reads as it did. -/
def topRepliesUptoRow : OpenClaim := { program := "ytnohfdojcdhfoaa", sum := "11d18e2e8c411562e8a9ff24d860a7edd475fa9d30835ee43639b729b80f465a", func := "engram/engramtop.TopReplies", spec := "topReplies", apart := false, narrowed := true }
def TopRepliesUptoSaid : Prop := topRepliesUptoRow.holds Try.pinned (OpenSpec.upto topRepliesSpec)

/-- 'engramtop.TopDoubles', WHERE WHAT IT READS IS OF BULK AT MOST 1048576: true; the input reads as it did. -/
def topDoublesUptoRow : OpenClaim := { program := "ytnohfdojcdhfoaa", sum := "11d18e2e8c411562e8a9ff24d860a7edd475fa9d30835ee43639b729b80f465a", func := "engram/engramtop.TopDoubles", spec := "topDoubles", apart := false, narrowed := true }
def TopDoublesUptoSaid : Prop := topDoublesUptoRow.holds Try.pinned (OpenSpec.upto topDoublesSpec)

/-- 'engramtop.TopFactorials', WHERE WHAT IT READS IS OF BULK AT MOST 1048576: true; the input reads as it did. -/
def topFactorialsUptoRow : OpenClaim := { program := "ytnohfdojcdhfoaa", sum := "11d18e2e8c411562e8a9ff24d860a7edd475fa9d30835ee43639b729b80f465a", func := "engram/engramtop.TopFactorials", spec := "topFactorials", apart := false, narrowed := true }
def TopFactorialsUptoSaid : Prop := topFactorialsUptoRow.holds Try.pinned (OpenSpec.upto topFactorialsSpec)

/-- 'engramtop.TopDigits', WHERE WHAT IT READS IS OF BULK AT MOST 1048576: true; the input reads as it did. -/
def topDigitsUptoRow : OpenClaim := { program := "ytnohfdojcdhfoaa", sum := "11d18e2e8c411562e8a9ff24d860a7edd475fa9d30835ee43639b729b80f465a", func := "engram/engramtop.TopDigits", spec := "topDigits", apart := false, narrowed := true }
def TopDigitsUptoSaid : Prop := topDigitsUptoRow.holds Try.pinned (OpenSpec.upto topDigitsSpec)

/-- 'engramtop.TopRoots', WHERE WHAT IT READS IS OF BULK AT MOST 1048576: true; the input reads as it did. -/
def topRootsUptoRow : OpenClaim := { program := "ytnohfdojcdhfoaa", sum := "11d18e2e8c411562e8a9ff24d860a7edd475fa9d30835ee43639b729b80f465a", func := "engram/engramtop.TopRoots", spec := "topRoots", apart := false, narrowed := true }
def TopRootsUptoSaid : Prop := topRootsUptoRow.holds Try.pinned (OpenSpec.upto topRootsSpec)

/-- 'engramtop.TopBytes', WHERE WHAT IT READS IS OF BULK AT MOST 1048576: true; the input reads as it did. -/
def topBytesUptoRow : OpenClaim := { program := "ytnohfdojcdhfoaa", sum := "11d18e2e8c411562e8a9ff24d860a7edd475fa9d30835ee43639b729b80f465a", func := "engram/engramtop.TopBytes", spec := "topBytes", apart := false, narrowed := true }
def TopBytesUptoSaid : Prop := topBytesUptoRow.holds Try.pinned (OpenSpec.upto topBytesSpec)

end Rows
end Go.Proofs.Ytnohfdojcdhfoaa
