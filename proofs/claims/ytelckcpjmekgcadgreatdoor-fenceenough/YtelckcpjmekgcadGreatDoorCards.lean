/-
  DERIVED. GIVEN WITH THE SEED: THE CARDS: each row of YtelckcpjmekgcadGreatDoorRows.lean that lists a variable, with what it lists TIED to the program's text (the seventh form; the later family's looks); each row that meets fmt, with fmt's text TOLD by the authors' own Lean function (tested against real Go, not proved from fmt's source: count such statements apart). THE CARD IS WHAT COUNTS. Prove the row's statement (the work); the ties are given (YtelckcpjmekgcadGreatDoorTie.lean); close each card by the builder's one call (the guide's Derived/Test/ToyasCard.lean, 'card_holds'). Laid BY PROGRAM, IN A SANDBOX (cutbox-door.mjs). By AI agents, Wed Nov 11 2026. No macro, syntax, notation, axiom, sorry.
-/
import Derived.Test.YtelckcpjmekgcadGreatDoorRows
import GoSem.ClaimSeven
namespace Go.Proofs.YtelckcpjmekgcadGreatDoor
namespace Rows

/-- THE TIED CARD OF 'sluicekeep.FenceEnough'. -/
def fenceEnoughCard : Claim7 := { stood := { row := fenceEnoughRow, standIns := [], harness := (true, "fb6cc43c2626262d000fa3af29827e80c4c4dc0ccf4b23bd6f09a8cbb320aa4c"), looks := false }, kinds := [], alts := [], laidByText := true, laidKinds := [.data, .data, .data], laidTests := true, laidLooks := .later }
def FenceEnoughCardSaid : Prop := Claim7.holds Tryz.pinned (.plain (OpenSpec.ofChange fenceEnoughSpec)) fenceEnoughCard

/-- THE TIED CARD OF 'sluicetop.TopFenced'. -/
def topFencedCard : Claim7 := { stood := { row := topFencedRow, standIns := [], harness := (true, "fb6cc43c2626262d000fa3af29827e80c4c4dc0ccf4b23bd6f09a8cbb320aa4c"), looks := false }, kinds := [], alts := [], laidByText := true, laidKinds := [.data, .data, .data], laidTests := true, laidLooks := .later }
def TopFencedCardSaid : Prop := Claim7.holds Tryz.pinned (.plain (OpenSpec.ofChange topFencedSpec)) topFencedCard

/-- THE SECOND FORM's CARD OF 'sluicekeep.FenceEnough'. -/
def fenceEnoughUptoCard : Claim7 := { stood := { row := fenceEnoughUptoRow, standIns := [], harness := (true, "fb6cc43c2626262d000fa3af29827e80c4c4dc0ccf4b23bd6f09a8cbb320aa4c"), looks := false }, kinds := [], alts := [], laidByText := true, laidKinds := [.data, .data, .data], laidTests := true, laidLooks := .later }
def FenceEnoughUptoCardSaid : Prop := Claim7.holds Tryz.pinned (.plain (OpenSpec.upto fenceEnoughSpec)) fenceEnoughUptoCard

/-- THE SECOND FORM's CARD OF 'sluicetop.TopFenced'. -/
def topFencedUptoCard : Claim7 := { stood := { row := topFencedUptoRow, standIns := [], harness := (true, "fb6cc43c2626262d000fa3af29827e80c4c4dc0ccf4b23bd6f09a8cbb320aa4c"), looks := false }, kinds := [], alts := [], laidByText := true, laidKinds := [.data, .data, .data], laidTests := true, laidLooks := .later }
def TopFencedUptoCardSaid : Prop := Claim7.holds Tryz.pinned (.plain (OpenSpec.upto topFencedSpec)) topFencedUptoCard
end Rows
end Go.Proofs.YtelckcpjmekgcadGreatDoor
