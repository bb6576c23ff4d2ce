/-
  DERIVED. GIVEN WITH THE SEED: THE CARDS: each row of YtipdnfpomdcenacGreatDoorRows.lean that lists a variable, with what it lists TIED to the program's text (the seventh form; the later family's looks); each row that meets fmt, with fmt's text TOLD by the authors' own Lean function (tested against real Go, not proved from fmt's source: count such statements apart). THE CARD IS WHAT COUNTS. Prove the row's statement (the work); the ties are given (YtipdnfpomdcenacGreatDoorTie.lean); close each card by the builder's one call (the guide's Derived/Test/ToyasCard.lean, 'card_holds'). Laid BY PROGRAM, IN A SANDBOX (cutbox-door.mjs). By AI agents, Wed Nov 11 2026. No macro, syntax, notation, axiom, sorry.
-/
import Derived.Test.YtipdnfpomdcenacGreatDoorRows
import GoSem.ClaimSeven
namespace Go.Proofs.YtipdnfpomdcenacGreatDoor
namespace Rows

/-- THE TIED CARD OF 'sluicelaw.RaceFree'. -/
def raceFreeCard : Claim7 := { stood := { row := raceFreeRow, standIns := [], harness := (true, "ab4cc9a134f9fe0355b4fc349c1334994221a7ffbbb8624387e8fad6075b0bc7"), looks := false }, kinds := [], alts := [], laidByText := true, laidKinds := [.data, .data, .data], laidTests := true, laidLooks := .later }
def RaceFreeCardSaid : Prop := Claim7.holds Tryz.pinned (.plain (OpenSpec.ofChange raceFreeSpec)) raceFreeCard

/-- THE TIED CARD OF 'sluicetop.TopFree'. -/
def topFreeCard : Claim7 := { stood := { row := topFreeRow, standIns := [], harness := (true, "ab4cc9a134f9fe0355b4fc349c1334994221a7ffbbb8624387e8fad6075b0bc7"), looks := false }, kinds := [], alts := [], laidByText := true, laidKinds := [.data, .data, .data], laidTests := true, laidLooks := .later }
def TopFreeCardSaid : Prop := Claim7.holds Tryz.pinned (.plain (OpenSpec.ofChange topFreeSpec)) topFreeCard

/-- THE SECOND FORM's CARD OF 'sluicelaw.RaceFree'. -/
def raceFreeUptoCard : Claim7 := { stood := { row := raceFreeUptoRow, standIns := [], harness := (true, "ab4cc9a134f9fe0355b4fc349c1334994221a7ffbbb8624387e8fad6075b0bc7"), looks := false }, kinds := [], alts := [], laidByText := true, laidKinds := [.data, .data, .data], laidTests := true, laidLooks := .later }
def RaceFreeUptoCardSaid : Prop := Claim7.holds Tryz.pinned (.plain (OpenSpec.upto raceFreeSpec)) raceFreeUptoCard

/-- THE SECOND FORM's CARD OF 'sluicetop.TopFree'. -/
def topFreeUptoCard : Claim7 := { stood := { row := topFreeUptoRow, standIns := [], harness := (true, "ab4cc9a134f9fe0355b4fc349c1334994221a7ffbbb8624387e8fad6075b0bc7"), looks := false }, kinds := [], alts := [], laidByText := true, laidKinds := [.data, .data, .data], laidTests := true, laidLooks := .later }
def TopFreeUptoCardSaid : Prop := Claim7.holds Tryz.pinned (.plain (OpenSpec.upto topFreeSpec)) topFreeUptoCard
end Rows
end Go.Proofs.YtipdnfpomdcenacGreatDoor
