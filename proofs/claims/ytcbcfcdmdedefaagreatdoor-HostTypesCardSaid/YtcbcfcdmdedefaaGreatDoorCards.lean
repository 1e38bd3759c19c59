/-
  DERIVED. GIVEN WITH THE SEED: THE CARDS: each row of YtcbcfcdmdedefaaGreatDoorRows.lean that lists a variable, with what it lists TIED to the program's text (the seventh form; the later family's looks); each row that meets fmt, with fmt's text TOLD by the authors' own Lean function (tested against real Go, not proved from fmt's source: count such statements apart). THE CARD IS WHAT COUNTS. Prove the row's statement (the work); the ties are given (YtcbcfcdmdedefaaGreatDoorTie.lean); close each card by the builder's one call (the guide's Derived/Test/ToyasCard.lean, 'card_holds'). Laid BY PROGRAM, IN A SANDBOX (cutbox-door.mjs). By AI agents, Wed Nov 11 2026. No macro, syntax, notation, axiom, sorry.
-/
import Derived.Test.YtcbcfcdmdedefaaGreatDoorRows
import GoSem.ClaimSeven
namespace Go.Proofs.YtcbcfcdmdedefaaGreatDoor
namespace Rows

/-- THE TIED CARD OF 'engramtop.TopEmpties'. -/
def topEmptiesCard : Claim7 := { stood := { row := topEmptiesRow, standIns := [], harness := (true, "6b2587b1dd08c1d0fd64d29657d27d5c862eb110b502ce6b08d9e7119af737af"), looks := true }, kinds := [], alts := [], laidByText := true, laidKinds := [.data, .data, .data], laidTests := true, laidLooks := .later }
def TopEmptiesCardSaid : Prop := Claim7.holds Tryz.pinned (.plain (OpenSpec.ofChange topEmptiesSpec)) topEmptiesCard

/-- THE TIED CARD OF 'engramtop.TopAlone'. -/
def topAloneCard : Claim7 := { stood := { row := topAloneRow, standIns := [], harness := (true, "6b2587b1dd08c1d0fd64d29657d27d5c862eb110b502ce6b08d9e7119af737af"), looks := true }, kinds := [], alts := [], laidByText := true, laidKinds := [.data, .data, .data], laidTests := true, laidLooks := .later }
def TopAloneCardSaid : Prop := Claim7.holds Tryz.pinned (.plain (OpenSpec.ofChange topAloneSpec)) topAloneCard

/-- THE TIED CARD OF 'engramlaw21.HostTypes'. -/
def hostTypesCard : Claim7 := { stood := { row := hostTypesRow, standIns := [], harness := (true, "6b2587b1dd08c1d0fd64d29657d27d5c862eb110b502ce6b08d9e7119af737af"), looks := true }, kinds := [], alts := [], laidByText := true, laidKinds := [.data, .data, .data], laidTests := true, laidLooks := .later }
def HostTypesCardSaid : Prop := Claim7.holds Tryz.pinned (.plain (OpenSpec.ofChange hostTypesSpec)) hostTypesCard

/-- THE TIED CARD OF 'engramlaw21.HostQuiet'. -/
def hostQuietCard : Claim7 := { stood := { row := hostQuietRow, standIns := [], harness := (true, "6b2587b1dd08c1d0fd64d29657d27d5c862eb110b502ce6b08d9e7119af737af"), looks := true }, kinds := [], alts := [], laidByText := true, laidKinds := [.data, .data, .data], laidTests := true, laidLooks := .later }
def HostQuietCardSaid : Prop := Claim7.holds Tryz.pinned (.plain (OpenSpec.ofChange hostQuietSpec)) hostQuietCard

/-- THE SECOND FORM's CARD OF 'engramtop.TopEmpties'. -/
def topEmptiesUptoCard : Claim7 := { stood := { row := topEmptiesUptoRow, standIns := [], harness := (true, "6b2587b1dd08c1d0fd64d29657d27d5c862eb110b502ce6b08d9e7119af737af"), looks := true }, kinds := [], alts := [], laidByText := true, laidKinds := [.data, .data, .data], laidTests := true, laidLooks := .later }
def TopEmptiesUptoCardSaid : Prop := Claim7.holds Tryz.pinned (.plain (OpenSpec.upto topEmptiesSpec)) topEmptiesUptoCard

/-- THE SECOND FORM's CARD OF 'engramtop.TopAlone'. -/
def topAloneUptoCard : Claim7 := { stood := { row := topAloneUptoRow, standIns := [], harness := (true, "6b2587b1dd08c1d0fd64d29657d27d5c862eb110b502ce6b08d9e7119af737af"), looks := true }, kinds := [], alts := [], laidByText := true, laidKinds := [.data, .data, .data], laidTests := true, laidLooks := .later }
def TopAloneUptoCardSaid : Prop := Claim7.holds Tryz.pinned (.plain (OpenSpec.upto topAloneSpec)) topAloneUptoCard

/-- THE SECOND FORM's CARD OF 'engramlaw21.HostTypes'. -/
def hostTypesUptoCard : Claim7 := { stood := { row := hostTypesUptoRow, standIns := [], harness := (true, "6b2587b1dd08c1d0fd64d29657d27d5c862eb110b502ce6b08d9e7119af737af"), looks := true }, kinds := [], alts := [], laidByText := true, laidKinds := [.data, .data, .data], laidTests := true, laidLooks := .later }
def HostTypesUptoCardSaid : Prop := Claim7.holds Tryz.pinned (.plain (OpenSpec.upto hostTypesSpec)) hostTypesUptoCard

/-- THE SECOND FORM's CARD OF 'engramlaw21.HostQuiet'. -/
def hostQuietUptoCard : Claim7 := { stood := { row := hostQuietUptoRow, standIns := [], harness := (true, "6b2587b1dd08c1d0fd64d29657d27d5c862eb110b502ce6b08d9e7119af737af"), looks := true }, kinds := [], alts := [], laidByText := true, laidKinds := [.data, .data, .data], laidTests := true, laidLooks := .later }
def HostQuietUptoCardSaid : Prop := Claim7.holds Tryz.pinned (.plain (OpenSpec.upto hostQuietSpec)) hostQuietUptoCard
end Rows
end Go.Proofs.YtcbcfcdmdedefaaGreatDoor
