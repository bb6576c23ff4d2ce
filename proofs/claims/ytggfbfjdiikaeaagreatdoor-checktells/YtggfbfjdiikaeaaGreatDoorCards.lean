/-
  DERIVED. GIVEN WITH THE SEED: THE CARDS: each row of YtggfbfjdiikaeaaGreatDoorRows.lean that lists a variable, with what it lists TIED to the program's text (the seventh form; the later family's looks); each row that meets fmt, with fmt's text TOLD by the authors' own Lean function (tested against real Go, not proved from fmt's source: count such statements apart). THE CARD IS WHAT COUNTS. Prove the row's statement (the work); the ties are given (YtggfbfjdiikaeaaGreatDoorTie.lean); close each card by the builder's one call (the guide's Derived/Test/ToyasCard.lean, 'card_holds'). Laid BY PROGRAM, IN A SANDBOX (cutbox-door.mjs). By AI agents, Wed Nov 11 2026. No macro, syntax, notation, axiom, sorry.
-/
import Derived.Test.YtggfbfjdiikaeaaGreatDoorRows
import GoSem.ClaimSeven
namespace Go.Proofs.YtggfbfjdiikaeaaGreatDoor
namespace Rows

/-- THE TIED CARD OF 'sluicelaw.CheckTells'. -/
def checkTellsCard : Claim7 := { stood := { row := checkTellsRow, standIns := [], harness := (true, "45f6d0298db8a8685be1bdb1251aed46263f9a17cff6f5f420b96da61559de5b"), looks := true }, kinds := [], alts := [], laidByText := true, laidKinds := [.data, .data, .data, .sentinel, .sentinel, .data], laidTests := true, laidLooks := .later }
def CheckTellsCardSaid : Prop := Claim7.holds Tryz.pinned (.plain (OpenSpec.ofChange checkTellsSpec)) checkTellsCard

/-- THE TIED CARD OF 'sluicelaw.RtlMakes'. -/
def rtlMakesCard : Claim7 := { stood := { row := rtlMakesRow, standIns := [], harness := (true, "45f6d0298db8a8685be1bdb1251aed46263f9a17cff6f5f420b96da61559de5b"), looks := true }, kinds := [], alts := [], laidByText := true, laidKinds := [.data, .data, .data, .sentinel, .sentinel, .data], laidTests := true, laidLooks := .later }
def RtlMakesCardSaid : Prop := Claim7.holds Tryz.pinned (.plain (OpenSpec.ofChange rtlMakesSpec)) rtlMakesCard

/-- THE SECOND FORM's CARD OF 'sluicelaw.CheckTells'. -/
def checkTellsUptoCard : Claim7 := { stood := { row := checkTellsUptoRow, standIns := [], harness := (true, "45f6d0298db8a8685be1bdb1251aed46263f9a17cff6f5f420b96da61559de5b"), looks := true }, kinds := [], alts := [], laidByText := true, laidKinds := [.data, .data, .data, .sentinel, .sentinel, .data], laidTests := true, laidLooks := .later }
def CheckTellsUptoCardSaid : Prop := Claim7.holds Tryz.pinned (.plain (OpenSpec.upto checkTellsSpec)) checkTellsUptoCard

/-- THE SECOND FORM's CARD OF 'sluicelaw.RtlMakes'. -/
def rtlMakesUptoCard : Claim7 := { stood := { row := rtlMakesUptoRow, standIns := [], harness := (true, "45f6d0298db8a8685be1bdb1251aed46263f9a17cff6f5f420b96da61559de5b"), looks := true }, kinds := [], alts := [], laidByText := true, laidKinds := [.data, .data, .data, .sentinel, .sentinel, .data], laidTests := true, laidLooks := .later }
def RtlMakesUptoCardSaid : Prop := Claim7.holds Tryz.pinned (.plain (OpenSpec.upto rtlMakesSpec)) rtlMakesUptoCard
end Rows
end Go.Proofs.YtggfbfjdiikaeaaGreatDoor
