/-
  DERIVED. GIVEN WITH THE SEED: THE CARDS: each row of YtelckcpjmekgcacGreatDoorRows.lean that lists a variable, with what it lists TIED to the program's text (the seventh form; the later family's looks); each row that meets fmt, with fmt's text TOLD by the authors' own Lean function (tested against real Go, not proved from fmt's source: count such statements apart). THE CARD IS WHAT COUNTS. Prove the row's statement (the work); the ties are given (YtelckcpjmekgcacGreatDoorTie.lean); close each card by the builder's one call (the guide's Derived/Test/ToyasCard.lean, 'card_holds'). Laid BY PROGRAM, IN A SANDBOX (cutbox-door.mjs). By AI agents, Wed Nov 11 2026. No macro, syntax, notation, axiom, sorry.
-/
import Derived.Test.YtelckcpjmekgcacGreatDoorRows
import GoSem.ClaimSeven
namespace Go.Proofs.YtelckcpjmekgcacGreatDoor
namespace Rows

/-- THE TIED CARD OF 'sluicelaw.RaceFree'. -/
def raceFreeCard : Claim7 := { stood := { row := raceFreeRow, standIns := [], harness := (true, "c437ce73b633e99d9c37ec9428a51352c3eb8169ed971b38f41805e8530e087e"), looks := false }, kinds := [], alts := [], laidByText := true, laidKinds := [.data, .data, .data], laidTests := true, laidLooks := .later }
def RaceFreeCardSaid : Prop := Claim7.holds Tryz.pinned (.plain (OpenSpec.ofChange raceFreeSpec)) raceFreeCard

/-- THE TIED CARD OF 'sluicetop.TopFree'. -/
def topFreeCard : Claim7 := { stood := { row := topFreeRow, standIns := [], harness := (true, "c437ce73b633e99d9c37ec9428a51352c3eb8169ed971b38f41805e8530e087e"), looks := false }, kinds := [], alts := [], laidByText := true, laidKinds := [.data, .data, .data], laidTests := true, laidLooks := .later }
def TopFreeCardSaid : Prop := Claim7.holds Tryz.pinned (.plain (OpenSpec.ofChange topFreeSpec)) topFreeCard

/-- THE TIED CARD OF 'sluicelaw.FenceFewest'. -/
def fenceFewestCard : Claim7 := { stood := { row := fenceFewestRow, standIns := [], harness := (true, "c437ce73b633e99d9c37ec9428a51352c3eb8169ed971b38f41805e8530e087e"), looks := false }, kinds := [], alts := [], laidByText := true, laidKinds := [.data, .data, .data], laidTests := true, laidLooks := .later }
def FenceFewestCardSaid : Prop := Claim7.holds Tryz.pinned (.plain (OpenSpec.ofChange fenceFewestSpec)) fenceFewestCard

/-- THE SECOND FORM's CARD OF 'sluicelaw.RaceFree'. -/
def raceFreeUptoCard : Claim7 := { stood := { row := raceFreeUptoRow, standIns := [], harness := (true, "c437ce73b633e99d9c37ec9428a51352c3eb8169ed971b38f41805e8530e087e"), looks := false }, kinds := [], alts := [], laidByText := true, laidKinds := [.data, .data, .data], laidTests := true, laidLooks := .later }
def RaceFreeUptoCardSaid : Prop := Claim7.holds Tryz.pinned (.plain (OpenSpec.upto raceFreeSpec)) raceFreeUptoCard

/-- THE SECOND FORM's CARD OF 'sluicetop.TopFree'. -/
def topFreeUptoCard : Claim7 := { stood := { row := topFreeUptoRow, standIns := [], harness := (true, "c437ce73b633e99d9c37ec9428a51352c3eb8169ed971b38f41805e8530e087e"), looks := false }, kinds := [], alts := [], laidByText := true, laidKinds := [.data, .data, .data], laidTests := true, laidLooks := .later }
def TopFreeUptoCardSaid : Prop := Claim7.holds Tryz.pinned (.plain (OpenSpec.upto topFreeSpec)) topFreeUptoCard

/-- THE SECOND FORM's CARD OF 'sluicelaw.FenceFewest'. -/
def fenceFewestUptoCard : Claim7 := { stood := { row := fenceFewestUptoRow, standIns := [], harness := (true, "c437ce73b633e99d9c37ec9428a51352c3eb8169ed971b38f41805e8530e087e"), looks := false }, kinds := [], alts := [], laidByText := true, laidKinds := [.data, .data, .data], laidTests := true, laidLooks := .later }
def FenceFewestUptoCardSaid : Prop := Claim7.holds Tryz.pinned (.plain (OpenSpec.upto fenceFewestSpec)) fenceFewestUptoCard
end Rows
end Go.Proofs.YtelckcpjmekgcacGreatDoor
