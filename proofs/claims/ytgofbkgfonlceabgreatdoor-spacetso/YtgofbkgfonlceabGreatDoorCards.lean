/-
  DERIVED. GIVEN WITH THE SEED: THE CARDS: each row of YtgofbkgfonlceabGreatDoorRows.lean that lists a variable, with what it lists TIED to the program's text (the seventh form; the later family's looks); each row that meets fmt, with fmt's text TOLD by the authors' own Lean function (tested against real Go, not proved from fmt's source: count such statements apart). THE CARD IS WHAT COUNTS. Prove the row's statement (the work); the ties are given (YtgofbkgfonlceabGreatDoorTie.lean); close each card by the builder's one call (the guide's Derived/Test/ToyasCard.lean, 'card_holds'). Laid BY PROGRAM, IN A SANDBOX (cutbox-door.mjs). By AI agents, Wed Nov 11 2026. No macro, syntax, notation, axiom, sorry.
-/
import Derived.Test.YtgofbkgfonlceabGreatDoorRows
import GoSem.ClaimSeven
namespace Go.Proofs.YtgofbkgfonlceabGreatDoor
namespace Rows

/-- THE TIED CARD OF 'sluicelaw.SpaceSC'. -/
def spaceSCCard : Claim7 := { stood := { row := spaceSCRow, standIns := [], harness := (true, "4a1590ff77776e300b76f8fb65f4ef3cac6df6ae1e565c3bfc64446fab798a64"), looks := false }, kinds := [], alts := [], laidByText := true, laidKinds := [.data, .data, .data], laidTests := true, laidLooks := .later }
def SpaceSCCardSaid : Prop := Claim7.holds Tryz.pinned (.plain (OpenSpec.ofChange spaceSCSpec)) spaceSCCard

/-- THE TIED CARD OF 'sluicelaw.SpaceTSO'. -/
def spaceTSOCard : Claim7 := { stood := { row := spaceTSORow, standIns := [], harness := (true, "4a1590ff77776e300b76f8fb65f4ef3cac6df6ae1e565c3bfc64446fab798a64"), looks := false }, kinds := [], alts := [], laidByText := true, laidKinds := [.data, .data, .data], laidTests := true, laidLooks := .later }
def SpaceTSOCardSaid : Prop := Claim7.holds Tryz.pinned (.plain (OpenSpec.ofChange spaceTSOSpec)) spaceTSOCard

/-- THE TIED CARD OF 'sluicekeep.SpaceRuns'. -/
def spaceRunsCard : Claim7 := { stood := { row := spaceRunsRow, standIns := [], harness := (true, "4a1590ff77776e300b76f8fb65f4ef3cac6df6ae1e565c3bfc64446fab798a64"), looks := false }, kinds := [], alts := [], laidByText := true, laidKinds := [.data, .data, .data], laidTests := true, laidLooks := .later }
def SpaceRunsCardSaid : Prop := Claim7.holds Tryz.pinned (.plain (OpenSpec.ofChange spaceRunsSpec)) spaceRunsCard

/-- THE TIED CARD OF 'sluicelaw.RaceFinds'. -/
def raceFindsCard : Claim7 := { stood := { row := raceFindsRow, standIns := [], harness := (true, "4a1590ff77776e300b76f8fb65f4ef3cac6df6ae1e565c3bfc64446fab798a64"), looks := false }, kinds := [], alts := [], laidByText := true, laidKinds := [.data, .data, .data], laidTests := true, laidLooks := .later }
def RaceFindsCardSaid : Prop := Claim7.holds Tryz.pinned (.plain (OpenSpec.ofChange raceFindsSpec)) raceFindsCard

/-- THE SECOND FORM's CARD OF 'sluicelaw.SpaceSC'. -/
def spaceSCUptoCard : Claim7 := { stood := { row := spaceSCUptoRow, standIns := [], harness := (true, "4a1590ff77776e300b76f8fb65f4ef3cac6df6ae1e565c3bfc64446fab798a64"), looks := false }, kinds := [], alts := [], laidByText := true, laidKinds := [.data, .data, .data], laidTests := true, laidLooks := .later }
def SpaceSCUptoCardSaid : Prop := Claim7.holds Tryz.pinned (.plain (OpenSpec.upto spaceSCSpec)) spaceSCUptoCard

/-- THE SECOND FORM's CARD OF 'sluicelaw.SpaceTSO'. -/
def spaceTSOUptoCard : Claim7 := { stood := { row := spaceTSOUptoRow, standIns := [], harness := (true, "4a1590ff77776e300b76f8fb65f4ef3cac6df6ae1e565c3bfc64446fab798a64"), looks := false }, kinds := [], alts := [], laidByText := true, laidKinds := [.data, .data, .data], laidTests := true, laidLooks := .later }
def SpaceTSOUptoCardSaid : Prop := Claim7.holds Tryz.pinned (.plain (OpenSpec.upto spaceTSOSpec)) spaceTSOUptoCard

/-- THE SECOND FORM's CARD OF 'sluicekeep.SpaceRuns'. -/
def spaceRunsUptoCard : Claim7 := { stood := { row := spaceRunsUptoRow, standIns := [], harness := (true, "4a1590ff77776e300b76f8fb65f4ef3cac6df6ae1e565c3bfc64446fab798a64"), looks := false }, kinds := [], alts := [], laidByText := true, laidKinds := [.data, .data, .data], laidTests := true, laidLooks := .later }
def SpaceRunsUptoCardSaid : Prop := Claim7.holds Tryz.pinned (.plain (OpenSpec.upto spaceRunsSpec)) spaceRunsUptoCard

/-- THE SECOND FORM's CARD OF 'sluicelaw.RaceFinds'. -/
def raceFindsUptoCard : Claim7 := { stood := { row := raceFindsUptoRow, standIns := [], harness := (true, "4a1590ff77776e300b76f8fb65f4ef3cac6df6ae1e565c3bfc64446fab798a64"), looks := false }, kinds := [], alts := [], laidByText := true, laidKinds := [.data, .data, .data], laidTests := true, laidLooks := .later }
def RaceFindsUptoCardSaid : Prop := Claim7.holds Tryz.pinned (.plain (OpenSpec.upto raceFindsSpec)) raceFindsUptoCard
end Rows
end Go.Proofs.YtgofbkgfonlceabGreatDoor
