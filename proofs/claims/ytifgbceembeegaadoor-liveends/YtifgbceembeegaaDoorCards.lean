/-
  DERIVED. GIVEN WITH THE SEED: THE CARDS: each row of YtifgbceembeegaaDoorRows.lean that lists a variable, with what it lists TIED to the program's text (the seventh form; the later family's looks); each row that meets fmt, with fmt's text TOLD by the authors' own Lean function (tested against real Go, not proved from fmt's source: count such statements apart). THE CARD IS WHAT COUNTS. Prove the row's statement (the work); the ties are given (YtifgbceembeegaaDoorTie.lean); close each card by the builder's one call (the guide's Derived/Test/ToyasCard.lean, 'card_holds'). Laid BY PROGRAM, IN A SANDBOX (cutbox-door.mjs). By AI agents, Wed Nov 11 2026. No macro, syntax, notation, axiom, sorry.
-/
import Derived.Test.YtifgbceembeegaaDoorRows
import GoSem.ClaimSeven
namespace Go.Proofs.YtifgbceembeegaaDoor
namespace Rows

/-- THE TIED CARD OF 'sluicelaw.LiveTells'. -/
def liveTellsCard : Claim7 := { stood := { row := liveTellsRow, standIns := [], harness := (true, "3e11118ccb362e2b9f53ee07090bc331c9f77873c01d1370073cf9cd1a52ee22"), looks := false }, kinds := [], alts := [], laidByText := true, laidKinds := [.data], laidTests := true, laidLooks := .later }
def LiveTellsCardSaid : Prop := Claim7.holds Tryd.pinned (.plain (OpenSpec.ofChange liveTellsSpec)) liveTellsCard

/-- THE TIED CARD OF 'sluicekeep.LiveEnds'. -/
def liveEndsCard : Claim7 := { stood := { row := liveEndsRow, standIns := [], harness := (true, "3e11118ccb362e2b9f53ee07090bc331c9f77873c01d1370073cf9cd1a52ee22"), looks := false }, kinds := [], alts := [], laidByText := true, laidKinds := [.data], laidTests := true, laidLooks := .later }
def LiveEndsCardSaid : Prop := Claim7.holds Tryd.pinned (.plain (OpenSpec.ofChange liveEndsSpec)) liveEndsCard

/-- THE SECOND FORM's CARD OF 'sluicelaw.LiveTells'. -/
def liveTellsUptoCard : Claim7 := { stood := { row := liveTellsUptoRow, standIns := [], harness := (true, "3e11118ccb362e2b9f53ee07090bc331c9f77873c01d1370073cf9cd1a52ee22"), looks := false }, kinds := [], alts := [], laidByText := true, laidKinds := [.data], laidTests := true, laidLooks := .later }
def LiveTellsUptoCardSaid : Prop := Claim7.holds Tryd.pinned (.plain (OpenSpec.upto liveTellsSpec)) liveTellsUptoCard

/-- THE SECOND FORM's CARD OF 'sluicekeep.LiveEnds'. -/
def liveEndsUptoCard : Claim7 := { stood := { row := liveEndsUptoRow, standIns := [], harness := (true, "3e11118ccb362e2b9f53ee07090bc331c9f77873c01d1370073cf9cd1a52ee22"), looks := false }, kinds := [], alts := [], laidByText := true, laidKinds := [.data], laidTests := true, laidLooks := .later }
def LiveEndsUptoCardSaid : Prop := Claim7.holds Tryd.pinned (.plain (OpenSpec.upto liveEndsSpec)) liveEndsUptoCard
end Rows
end Go.Proofs.YtifgbceembeegaaDoor
