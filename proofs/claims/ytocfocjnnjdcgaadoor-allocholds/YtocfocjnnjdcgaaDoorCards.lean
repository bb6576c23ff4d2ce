/-
  DERIVED. GIVEN WITH THE SEED: THE CARDS: each row of YtocfocjnnjdcgaaDoorRows.lean that lists a variable, with what it lists TIED to the program's text (the seventh form; the later family's looks); each row that meets fmt, with fmt's text TOLD by the authors' own Lean function (tested against real Go, not proved from fmt's source: count such statements apart). THE CARD IS WHAT COUNTS. Prove the row's statement (the work); the ties are given (YtocfocjnnjdcgaaDoorTie.lean); close each card by the builder's one call (the guide's Derived/Test/ToyasCard.lean, 'card_holds'). Laid BY PROGRAM, IN A SANDBOX (cutbox-door.mjs). By AI agents, Wed Nov 11 2026. No macro, syntax, notation, axiom, sorry.
-/
import Derived.Test.YtocfocjnnjdcgaaDoorRows
import GoSem.ClaimSeven
namespace Go.Proofs.YtocfocjnnjdcgaaDoor
namespace Rows

/-- THE TIED CARD OF 'sluicelaw.LiveTells'. -/
def liveTellsCard : Claim7 := { stood := { row := liveTellsRow, standIns := [], harness := (true, "46da40c3f2acab4e3c06306f698ed4d004527f0d889c550f9f2bb8165de662ed"), looks := false }, kinds := [], alts := [], laidByText := true, laidKinds := [.data], laidTests := true, laidLooks := .later }
def LiveTellsCardSaid : Prop := Claim7.holds Tryd.pinned (.plain (OpenSpec.ofChange liveTellsSpec)) liveTellsCard

/-- THE TIED CARD OF 'sluicekeep.LiveEnds'. -/
def liveEndsCard : Claim7 := { stood := { row := liveEndsRow, standIns := [], harness := (true, "46da40c3f2acab4e3c06306f698ed4d004527f0d889c550f9f2bb8165de662ed"), looks := false }, kinds := [], alts := [], laidByText := true, laidKinds := [.data], laidTests := true, laidLooks := .later }
def LiveEndsCardSaid : Prop := Claim7.holds Tryd.pinned (.plain (OpenSpec.ofChange liveEndsSpec)) liveEndsCard

/-- THE TIED CARD OF 'sluicelaw.AllocApplies'. -/
def allocAppliesCard : Claim7 := { stood := { row := allocAppliesRow, standIns := [], harness := (true, "46da40c3f2acab4e3c06306f698ed4d004527f0d889c550f9f2bb8165de662ed"), looks := false }, kinds := [], alts := [], laidByText := true, laidKinds := [.data], laidTests := true, laidLooks := .later }
def AllocAppliesCardSaid : Prop := Claim7.holds Tryd.pinned (.plain (OpenSpec.ofChange allocAppliesSpec)) allocAppliesCard

/-- THE TIED CARD OF 'sluicelaw.AllocHolds'. -/
def allocHoldsCard : Claim7 := { stood := { row := allocHoldsRow, standIns := [], harness := (true, "46da40c3f2acab4e3c06306f698ed4d004527f0d889c550f9f2bb8165de662ed"), looks := false }, kinds := [], alts := [], laidByText := true, laidKinds := [.data], laidTests := true, laidLooks := .later }
def AllocHoldsCardSaid : Prop := Claim7.holds Tryd.pinned (.plain (OpenSpec.ofChange allocHoldsSpec)) allocHoldsCard

/-- THE SECOND FORM's CARD OF 'sluicelaw.LiveTells'. -/
def liveTellsUptoCard : Claim7 := { stood := { row := liveTellsUptoRow, standIns := [], harness := (true, "46da40c3f2acab4e3c06306f698ed4d004527f0d889c550f9f2bb8165de662ed"), looks := false }, kinds := [], alts := [], laidByText := true, laidKinds := [.data], laidTests := true, laidLooks := .later }
def LiveTellsUptoCardSaid : Prop := Claim7.holds Tryd.pinned (.plain (OpenSpec.upto liveTellsSpec)) liveTellsUptoCard

/-- THE SECOND FORM's CARD OF 'sluicekeep.LiveEnds'. -/
def liveEndsUptoCard : Claim7 := { stood := { row := liveEndsUptoRow, standIns := [], harness := (true, "46da40c3f2acab4e3c06306f698ed4d004527f0d889c550f9f2bb8165de662ed"), looks := false }, kinds := [], alts := [], laidByText := true, laidKinds := [.data], laidTests := true, laidLooks := .later }
def LiveEndsUptoCardSaid : Prop := Claim7.holds Tryd.pinned (.plain (OpenSpec.upto liveEndsSpec)) liveEndsUptoCard

/-- THE SECOND FORM's CARD OF 'sluicelaw.AllocApplies'. -/
def allocAppliesUptoCard : Claim7 := { stood := { row := allocAppliesUptoRow, standIns := [], harness := (true, "46da40c3f2acab4e3c06306f698ed4d004527f0d889c550f9f2bb8165de662ed"), looks := false }, kinds := [], alts := [], laidByText := true, laidKinds := [.data], laidTests := true, laidLooks := .later }
def AllocAppliesUptoCardSaid : Prop := Claim7.holds Tryd.pinned (.plain (OpenSpec.upto allocAppliesSpec)) allocAppliesUptoCard

/-- THE SECOND FORM's CARD OF 'sluicelaw.AllocHolds'. -/
def allocHoldsUptoCard : Claim7 := { stood := { row := allocHoldsUptoRow, standIns := [], harness := (true, "46da40c3f2acab4e3c06306f698ed4d004527f0d889c550f9f2bb8165de662ed"), looks := false }, kinds := [], alts := [], laidByText := true, laidKinds := [.data], laidTests := true, laidLooks := .later }
def AllocHoldsUptoCardSaid : Prop := Claim7.holds Tryd.pinned (.plain (OpenSpec.upto allocHoldsSpec)) allocHoldsUptoCard
end Rows
end Go.Proofs.YtocfocjnnjdcgaaDoor
