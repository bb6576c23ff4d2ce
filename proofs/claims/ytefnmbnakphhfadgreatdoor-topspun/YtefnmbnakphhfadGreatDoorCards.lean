/-
  DERIVED. GIVEN WITH THE SEED: THE CARDS: each row of YtefnmbnakphhfadGreatDoorRows.lean that lists a variable, with what it lists TIED to the program's text (the seventh form; the later family's looks); each row that meets fmt, with fmt's text TOLD by the authors' own Lean function (tested against real Go, not proved from fmt's source: count such statements apart). THE CARD IS WHAT COUNTS. Prove the row's statement (the work); the ties are given (YtefnmbnakphhfadGreatDoorTie.lean); close each card by the builder's one call (the guide's Derived/Test/ToyasCard.lean, 'card_holds'). Laid BY PROGRAM, IN A SANDBOX (cutbox-door.mjs). By AI agents, Wed Nov 11 2026. No macro, syntax, notation, axiom, sorry.
-/
import Derived.Test.YtefnmbnakphhfadGreatDoorRows
import GoSem.ClaimSeven
namespace Go.Proofs.YtefnmbnakphhfadGreatDoor
namespace Rows

/-- THE TIED CARD OF 'sluicekeep.FenceEnough'. -/
def fenceEnoughCard : Claim7 := { stood := { row := fenceEnoughRow, standIns := [], harness := (true, "d17f9c2ef4a4bdeefd50117a60ee4c026b63a911f2143b471d919e2686c28a01"), looks := false }, kinds := [], alts := [], laidByText := true, laidKinds := [.data, .data, .data], laidTests := true, laidLooks := .later }
def FenceEnoughCardSaid : Prop := Claim7.holds Tryz.pinned (.plain (OpenSpec.ofChange fenceEnoughSpec)) fenceEnoughCard

/-- THE TIED CARD OF 'sluicetop.TopFenced'. -/
def topFencedCard : Claim7 := { stood := { row := topFencedRow, standIns := [], harness := (true, "d17f9c2ef4a4bdeefd50117a60ee4c026b63a911f2143b471d919e2686c28a01"), looks := false }, kinds := [], alts := [], laidByText := true, laidKinds := [.data, .data, .data], laidTests := true, laidLooks := .later }
def TopFencedCardSaid : Prop := Claim7.holds Tryz.pinned (.plain (OpenSpec.ofChange topFencedSpec)) topFencedCard

/-- THE TIED CARD OF 'sluicetop.TopSpun'. -/
def topSpunCard : Claim7 := { stood := { row := topSpunRow, standIns := [], harness := (true, "d17f9c2ef4a4bdeefd50117a60ee4c026b63a911f2143b471d919e2686c28a01"), looks := false }, kinds := [], alts := [], laidByText := true, laidKinds := [.data, .data, .data], laidTests := true, laidLooks := .later }
def TopSpunCardSaid : Prop := Claim7.holds Tryz.pinned (.plain (OpenSpec.ofChange topSpunSpec)) topSpunCard

/-- THE SECOND FORM's CARD OF 'sluicekeep.FenceEnough'. -/
def fenceEnoughUptoCard : Claim7 := { stood := { row := fenceEnoughUptoRow, standIns := [], harness := (true, "d17f9c2ef4a4bdeefd50117a60ee4c026b63a911f2143b471d919e2686c28a01"), looks := false }, kinds := [], alts := [], laidByText := true, laidKinds := [.data, .data, .data], laidTests := true, laidLooks := .later }
def FenceEnoughUptoCardSaid : Prop := Claim7.holds Tryz.pinned (.plain (OpenSpec.upto fenceEnoughSpec)) fenceEnoughUptoCard

/-- THE SECOND FORM's CARD OF 'sluicetop.TopFenced'. -/
def topFencedUptoCard : Claim7 := { stood := { row := topFencedUptoRow, standIns := [], harness := (true, "d17f9c2ef4a4bdeefd50117a60ee4c026b63a911f2143b471d919e2686c28a01"), looks := false }, kinds := [], alts := [], laidByText := true, laidKinds := [.data, .data, .data], laidTests := true, laidLooks := .later }
def TopFencedUptoCardSaid : Prop := Claim7.holds Tryz.pinned (.plain (OpenSpec.upto topFencedSpec)) topFencedUptoCard

/-- THE SECOND FORM's CARD OF 'sluicetop.TopSpun'. -/
def topSpunUptoCard : Claim7 := { stood := { row := topSpunUptoRow, standIns := [], harness := (true, "d17f9c2ef4a4bdeefd50117a60ee4c026b63a911f2143b471d919e2686c28a01"), looks := false }, kinds := [], alts := [], laidByText := true, laidKinds := [.data, .data, .data], laidTests := true, laidLooks := .later }
def TopSpunUptoCardSaid : Prop := Claim7.holds Tryz.pinned (.plain (OpenSpec.upto topSpunSpec)) topSpunUptoCard
end Rows
end Go.Proofs.YtefnmbnakphhfadGreatDoor
