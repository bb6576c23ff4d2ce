/-
  DERIVED. GIVEN WITH THE SEED: THE CARDS: each row of YtkailbdjilkneaaDoorRows.lean that lists a variable, with what it lists TIED to the program's text (the seventh form; the later family's looks); each row that meets fmt, with fmt's text TOLD by the authors' own Lean function (tested against real Go, not proved from fmt's source: count such statements apart). THE CARD IS WHAT COUNTS. Prove the row's statement (the work); the ties are given (YtkailbdjilkneaaDoorTie.lean); close each card by the builder's one call (the guide's Derived/Test/ToyasCard.lean, 'card_holds'). Laid BY PROGRAM, IN A SANDBOX (cutbox-door.mjs). By AI agents, Wed Nov 11 2026. No macro, syntax, notation, axiom, sorry.
-/
import Derived.Test.YtkailbdjilkneaaDoorRows
import GoSem.ClaimSeven
namespace Go.Proofs.YtkailbdjilkneaaDoor
namespace Rows

/-- THE TIED CARD OF 'sluicelaw.OptMakes'. -/
def optMakesCard : Claim7 := { stood := { row := optMakesRow, standIns := [], harness := (true, "729194b8829ecceaa70c0eb48aee825b606c0fb741ae3349eaa31d1a0c3cb9dd"), looks := false }, kinds := [], alts := [], laidByText := true, laidKinds := [.data], laidTests := true, laidLooks := .later }
def OptMakesCardSaid : Prop := Claim7.holds Tryd.pinned (.plain (OpenSpec.ofChange optMakesSpec)) optMakesCard

/-- THE TIED CARD OF 'sluicelaw.OptHolds'. -/
def optHoldsCard : Claim7 := { stood := { row := optHoldsRow, standIns := [], harness := (true, "729194b8829ecceaa70c0eb48aee825b606c0fb741ae3349eaa31d1a0c3cb9dd"), looks := false }, kinds := [], alts := [], laidByText := true, laidKinds := [.data], laidTests := true, laidLooks := .later }
def OptHoldsCardSaid : Prop := Claim7.holds Tryd.pinned (.plain (OpenSpec.ofChange optHoldsSpec)) optHoldsCard

/-- THE TIED CARD OF 'sluicekeep.OptLess'. -/
def optLessCard : Claim7 := { stood := { row := optLessRow, standIns := [], harness := (true, "729194b8829ecceaa70c0eb48aee825b606c0fb741ae3349eaa31d1a0c3cb9dd"), looks := false }, kinds := [], alts := [], laidByText := true, laidKinds := [.data], laidTests := true, laidLooks := .later }
def OptLessCardSaid : Prop := Claim7.holds Tryd.pinned (.plain (OpenSpec.ofChange optLessSpec)) optLessCard

/-- THE TIED CARD OF 'sluicelaw.AllocChecks'. -/
def allocChecksCard : Claim7 := { stood := { row := allocChecksRow, standIns := [], harness := (true, "729194b8829ecceaa70c0eb48aee825b606c0fb741ae3349eaa31d1a0c3cb9dd"), looks := false }, kinds := [], alts := [], laidByText := true, laidKinds := [.data], laidTests := true, laidLooks := .later }
def AllocChecksCardSaid : Prop := Claim7.holds Tryd.pinned (.plain (OpenSpec.ofChange allocChecksSpec)) allocChecksCard

/-- THE TIED CARD OF 'sluicelaw.AllocApplies'. -/
def allocAppliesCard : Claim7 := { stood := { row := allocAppliesRow, standIns := [], harness := (true, "729194b8829ecceaa70c0eb48aee825b606c0fb741ae3349eaa31d1a0c3cb9dd"), looks := false }, kinds := [], alts := [], laidByText := true, laidKinds := [.data], laidTests := true, laidLooks := .later }
def AllocAppliesCardSaid : Prop := Claim7.holds Tryd.pinned (.plain (OpenSpec.ofChange allocAppliesSpec)) allocAppliesCard

/-- THE TIED CARD OF 'sluicelaw.AllocHolds'. -/
def allocHoldsCard : Claim7 := { stood := { row := allocHoldsRow, standIns := [], harness := (true, "729194b8829ecceaa70c0eb48aee825b606c0fb741ae3349eaa31d1a0c3cb9dd"), looks := false }, kinds := [], alts := [], laidByText := true, laidKinds := [.data], laidTests := true, laidLooks := .later }
def AllocHoldsCardSaid : Prop := Claim7.holds Tryd.pinned (.plain (OpenSpec.ofChange allocHoldsSpec)) allocHoldsCard

/-- THE SECOND FORM's CARD OF 'sluicelaw.OptMakes'. -/
def optMakesUptoCard : Claim7 := { stood := { row := optMakesUptoRow, standIns := [], harness := (true, "729194b8829ecceaa70c0eb48aee825b606c0fb741ae3349eaa31d1a0c3cb9dd"), looks := false }, kinds := [], alts := [], laidByText := true, laidKinds := [.data], laidTests := true, laidLooks := .later }
def OptMakesUptoCardSaid : Prop := Claim7.holds Tryd.pinned (.plain (OpenSpec.upto optMakesSpec)) optMakesUptoCard

/-- THE SECOND FORM's CARD OF 'sluicelaw.OptHolds'. -/
def optHoldsUptoCard : Claim7 := { stood := { row := optHoldsUptoRow, standIns := [], harness := (true, "729194b8829ecceaa70c0eb48aee825b606c0fb741ae3349eaa31d1a0c3cb9dd"), looks := false }, kinds := [], alts := [], laidByText := true, laidKinds := [.data], laidTests := true, laidLooks := .later }
def OptHoldsUptoCardSaid : Prop := Claim7.holds Tryd.pinned (.plain (OpenSpec.upto optHoldsSpec)) optHoldsUptoCard

/-- THE SECOND FORM's CARD OF 'sluicekeep.OptLess'. -/
def optLessUptoCard : Claim7 := { stood := { row := optLessUptoRow, standIns := [], harness := (true, "729194b8829ecceaa70c0eb48aee825b606c0fb741ae3349eaa31d1a0c3cb9dd"), looks := false }, kinds := [], alts := [], laidByText := true, laidKinds := [.data], laidTests := true, laidLooks := .later }
def OptLessUptoCardSaid : Prop := Claim7.holds Tryd.pinned (.plain (OpenSpec.upto optLessSpec)) optLessUptoCard

/-- THE SECOND FORM's CARD OF 'sluicelaw.AllocChecks'. -/
def allocChecksUptoCard : Claim7 := { stood := { row := allocChecksUptoRow, standIns := [], harness := (true, "729194b8829ecceaa70c0eb48aee825b606c0fb741ae3349eaa31d1a0c3cb9dd"), looks := false }, kinds := [], alts := [], laidByText := true, laidKinds := [.data], laidTests := true, laidLooks := .later }
def AllocChecksUptoCardSaid : Prop := Claim7.holds Tryd.pinned (.plain (OpenSpec.upto allocChecksSpec)) allocChecksUptoCard

/-- THE SECOND FORM's CARD OF 'sluicelaw.AllocApplies'. -/
def allocAppliesUptoCard : Claim7 := { stood := { row := allocAppliesUptoRow, standIns := [], harness := (true, "729194b8829ecceaa70c0eb48aee825b606c0fb741ae3349eaa31d1a0c3cb9dd"), looks := false }, kinds := [], alts := [], laidByText := true, laidKinds := [.data], laidTests := true, laidLooks := .later }
def AllocAppliesUptoCardSaid : Prop := Claim7.holds Tryd.pinned (.plain (OpenSpec.upto allocAppliesSpec)) allocAppliesUptoCard

/-- THE SECOND FORM's CARD OF 'sluicelaw.AllocHolds'. -/
def allocHoldsUptoCard : Claim7 := { stood := { row := allocHoldsUptoRow, standIns := [], harness := (true, "729194b8829ecceaa70c0eb48aee825b606c0fb741ae3349eaa31d1a0c3cb9dd"), looks := false }, kinds := [], alts := [], laidByText := true, laidKinds := [.data], laidTests := true, laidLooks := .later }
def AllocHoldsUptoCardSaid : Prop := Claim7.holds Tryd.pinned (.plain (OpenSpec.upto allocHoldsSpec)) allocHoldsUptoCard
end Rows
end Go.Proofs.YtkailbdjilkneaaDoor
