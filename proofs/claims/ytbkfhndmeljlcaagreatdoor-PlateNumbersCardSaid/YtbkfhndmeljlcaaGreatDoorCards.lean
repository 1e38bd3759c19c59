/-
  DERIVED. GIVEN WITH THE SEED: THE CARDS: each row of YtbkfhndmeljlcaaGreatDoorRows.lean that lists a variable, with what it lists TIED to the program's text (the seventh form; the later family's looks); each row that meets fmt, with fmt's text TOLD by the authors' own Lean function (tested against real Go, not proved from fmt's source: count such statements apart). THE CARD IS WHAT COUNTS. Prove the row's statement (the work); the ties are given (YtbkfhndmeljlcaaGreatDoorTie.lean); close each card by the builder's one call (the guide's Derived/Test/ToyasCard.lean, 'card_holds'). Laid BY PROGRAM, IN A SANDBOX (cutbox-door.mjs). By AI agents, Wed Nov 11 2026. No macro, syntax, notation, axiom, sorry.
-/
import Derived.Test.YtbkfhndmeljlcaaGreatDoorRows
import GoSem.ClaimSeven
namespace Go.Proofs.YtbkfhndmeljlcaaGreatDoor
namespace Rows

/-- THE TIED CARD OF 'engramlaw20.PlateNumbers'. -/
def plateNumbersCard : Claim7 := { stood := { row := plateNumbersRow, standIns := [], harness := (true, "b7fc116107dedab735140f73d952fe8ec20d71e953ced42d6ee43fbe44276474"), looks := false }, kinds := [], alts := [], laidByText := true, laidKinds := [.data, .data, .data], laidTests := true, laidLooks := .later }
def PlateNumbersCardSaid : Prop := Claim7.holds Tryz.pinned (.plain (OpenSpec.ofChange plateNumbersSpec)) plateNumbersCard

/-- THE TIED CARD OF 'engramlaw20.PlateTells'. -/
def plateTellsCard : Claim7 := { stood := { row := plateTellsRow, standIns := [], harness := (true, "b7fc116107dedab735140f73d952fe8ec20d71e953ced42d6ee43fbe44276474"), looks := false }, kinds := [], alts := [], laidByText := true, laidKinds := [.data, .data, .data], laidTests := true, laidLooks := .later }
def PlateTellsCardSaid : Prop := Claim7.holds Tryz.pinned (.plain (OpenSpec.ofChange plateTellsSpec)) plateTellsCard

/-- THE TIED CARD OF 'engramlaw20.PlateBack'. -/
def plateBackCard : Claim7 := { stood := { row := plateBackRow, standIns := [], harness := (true, "b7fc116107dedab735140f73d952fe8ec20d71e953ced42d6ee43fbe44276474"), looks := false }, kinds := [], alts := [], laidByText := true, laidKinds := [.data, .data, .data], laidTests := true, laidLooks := .later }
def PlateBackCardSaid : Prop := Claim7.holds Tryz.pinned (.plain (OpenSpec.ofChange plateBackSpec)) plateBackCard

/-- THE TIED CARD OF 'engramlaw20.PlateNeeds'. -/
def plateNeedsCard : Claim7 := { stood := { row := plateNeedsRow, standIns := [], harness := (true, "b7fc116107dedab735140f73d952fe8ec20d71e953ced42d6ee43fbe44276474"), looks := false }, kinds := [], alts := [], laidByText := true, laidKinds := [.data, .data, .data], laidTests := true, laidLooks := .later }
def PlateNeedsCardSaid : Prop := Claim7.holds Tryz.pinned (.plain (OpenSpec.ofChange plateNeedsSpec)) plateNeedsCard

/-- THE TIED CARD OF 'engramlaw13.UnitNumbers'. -/
def unitNumbersCard : Claim7 := { stood := { row := unitNumbersRow, standIns := [], harness := (true, "b7fc116107dedab735140f73d952fe8ec20d71e953ced42d6ee43fbe44276474"), looks := false }, kinds := [], alts := [], laidByText := true, laidKinds := [.data, .data, .data], laidTests := true, laidLooks := .later }
def UnitNumbersCardSaid : Prop := Claim7.holds Tryz.pinned (.plain (OpenSpec.ofChange unitNumbersSpec)) unitNumbersCard

/-- THE TIED CARD OF 'engramlaw13.UnitTells'. -/
def unitTellsCard : Claim7 := { stood := { row := unitTellsRow, standIns := [], harness := (true, "b7fc116107dedab735140f73d952fe8ec20d71e953ced42d6ee43fbe44276474"), looks := false }, kinds := [], alts := [], laidByText := true, laidKinds := [.data, .data, .data], laidTests := true, laidLooks := .later }
def UnitTellsCardSaid : Prop := Claim7.holds Tryz.pinned (.plain (OpenSpec.ofChange unitTellsSpec)) unitTellsCard

/-- THE TIED CARD OF 'engramlaw13.UnitBack'. -/
def unitBackCard : Claim7 := { stood := { row := unitBackRow, standIns := [], harness := (true, "b7fc116107dedab735140f73d952fe8ec20d71e953ced42d6ee43fbe44276474"), looks := false }, kinds := [], alts := [], laidByText := true, laidKinds := [.data, .data, .data], laidTests := true, laidLooks := .later }
def UnitBackCardSaid : Prop := Claim7.holds Tryz.pinned (.plain (OpenSpec.ofChange unitBackSpec)) unitBackCard

/-- THE SECOND FORM's CARD OF 'engramlaw20.PlateNumbers'. -/
def plateNumbersUptoCard : Claim7 := { stood := { row := plateNumbersUptoRow, standIns := [], harness := (true, "b7fc116107dedab735140f73d952fe8ec20d71e953ced42d6ee43fbe44276474"), looks := false }, kinds := [], alts := [], laidByText := true, laidKinds := [.data, .data, .data], laidTests := true, laidLooks := .later }
def PlateNumbersUptoCardSaid : Prop := Claim7.holds Tryz.pinned (.plain (OpenSpec.upto plateNumbersSpec)) plateNumbersUptoCard

/-- THE SECOND FORM's CARD OF 'engramlaw20.PlateTells'. -/
def plateTellsUptoCard : Claim7 := { stood := { row := plateTellsUptoRow, standIns := [], harness := (true, "b7fc116107dedab735140f73d952fe8ec20d71e953ced42d6ee43fbe44276474"), looks := false }, kinds := [], alts := [], laidByText := true, laidKinds := [.data, .data, .data], laidTests := true, laidLooks := .later }
def PlateTellsUptoCardSaid : Prop := Claim7.holds Tryz.pinned (.plain (OpenSpec.upto plateTellsSpec)) plateTellsUptoCard

/-- THE SECOND FORM's CARD OF 'engramlaw20.PlateBack'. -/
def plateBackUptoCard : Claim7 := { stood := { row := plateBackUptoRow, standIns := [], harness := (true, "b7fc116107dedab735140f73d952fe8ec20d71e953ced42d6ee43fbe44276474"), looks := false }, kinds := [], alts := [], laidByText := true, laidKinds := [.data, .data, .data], laidTests := true, laidLooks := .later }
def PlateBackUptoCardSaid : Prop := Claim7.holds Tryz.pinned (.plain (OpenSpec.upto plateBackSpec)) plateBackUptoCard

/-- THE SECOND FORM's CARD OF 'engramlaw20.PlateNeeds'. -/
def plateNeedsUptoCard : Claim7 := { stood := { row := plateNeedsUptoRow, standIns := [], harness := (true, "b7fc116107dedab735140f73d952fe8ec20d71e953ced42d6ee43fbe44276474"), looks := false }, kinds := [], alts := [], laidByText := true, laidKinds := [.data, .data, .data], laidTests := true, laidLooks := .later }
def PlateNeedsUptoCardSaid : Prop := Claim7.holds Tryz.pinned (.plain (OpenSpec.upto plateNeedsSpec)) plateNeedsUptoCard

/-- THE SECOND FORM's CARD OF 'engramlaw13.UnitNumbers'. -/
def unitNumbersUptoCard : Claim7 := { stood := { row := unitNumbersUptoRow, standIns := [], harness := (true, "b7fc116107dedab735140f73d952fe8ec20d71e953ced42d6ee43fbe44276474"), looks := false }, kinds := [], alts := [], laidByText := true, laidKinds := [.data, .data, .data], laidTests := true, laidLooks := .later }
def UnitNumbersUptoCardSaid : Prop := Claim7.holds Tryz.pinned (.plain (OpenSpec.upto unitNumbersSpec)) unitNumbersUptoCard

/-- THE SECOND FORM's CARD OF 'engramlaw13.UnitTells'. -/
def unitTellsUptoCard : Claim7 := { stood := { row := unitTellsUptoRow, standIns := [], harness := (true, "b7fc116107dedab735140f73d952fe8ec20d71e953ced42d6ee43fbe44276474"), looks := false }, kinds := [], alts := [], laidByText := true, laidKinds := [.data, .data, .data], laidTests := true, laidLooks := .later }
def UnitTellsUptoCardSaid : Prop := Claim7.holds Tryz.pinned (.plain (OpenSpec.upto unitTellsSpec)) unitTellsUptoCard

/-- THE SECOND FORM's CARD OF 'engramlaw13.UnitBack'. -/
def unitBackUptoCard : Claim7 := { stood := { row := unitBackUptoRow, standIns := [], harness := (true, "b7fc116107dedab735140f73d952fe8ec20d71e953ced42d6ee43fbe44276474"), looks := false }, kinds := [], alts := [], laidByText := true, laidKinds := [.data, .data, .data], laidTests := true, laidLooks := .later }
def UnitBackUptoCardSaid : Prop := Claim7.holds Tryz.pinned (.plain (OpenSpec.upto unitBackSpec)) unitBackUptoCard
end Rows
end Go.Proofs.YtbkfhndmeljlcaaGreatDoor
