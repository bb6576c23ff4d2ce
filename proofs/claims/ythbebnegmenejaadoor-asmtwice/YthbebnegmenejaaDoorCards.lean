/-
  DERIVED. GIVEN WITH THE SEED: THE CARDS: each row of YthbebnegmenejaaDoorRows.lean that lists a variable, with what it lists TIED to the program's text (the seventh form; the later family's looks); each row that meets fmt, with fmt's text TOLD by the authors' own Lean function (tested against real Go, not proved from fmt's source: count such statements apart). THE CARD IS WHAT COUNTS. Prove the row's statement (the work); the ties are given (YthbebnegmenejaaDoorTie.lean); close each card by the builder's one call (the guide's Derived/Test/ToyasCard.lean, 'card_holds'). Laid BY PROGRAM, IN A SANDBOX (cutbox-door.mjs). By AI agents, Wed Nov 11 2026. No macro, syntax, notation, axiom, sorry.
-/
import Derived.Test.YthbebnegmenejaaDoorRows
import GoSem.ClaimSeven
namespace Go.Proofs.YthbebnegmenejaaDoor
namespace Rows

/-- THE TIED CARD OF 'sluicelaw.AsmParses'. -/
def asmParsesCard : Claim7 := { stood := { row := asmParsesRow, standIns := [], harness := (true, "a30950d02d957e9870a12468288b7ef520a528aa43e4a38452cb9d82202f1c50"), looks := true }, kinds := [], alts := [], laidByText := true, laidKinds := [.data, .data, .data, .data, .sentinel, .sentinel, .sentinel, .pinned], laidTests := true, laidLooks := .later }
def AsmParsesCardSaid : Prop := Claim7.holds Tryd.pinned (.plain (OpenSpec.ofChange asmParsesSpec)) asmParsesCard

/-- THE TIED CARD OF 'sluicekeep.AsmTwice'. -/
def asmTwiceCard : Claim7 := { stood := { row := asmTwiceRow, standIns := [], harness := (true, "a30950d02d957e9870a12468288b7ef520a528aa43e4a38452cb9d82202f1c50"), looks := true }, kinds := [], alts := [], laidByText := true, laidKinds := [.data, .data, .data, .data, .sentinel, .sentinel, .sentinel, .pinned], laidTests := true, laidLooks := .later }
def AsmTwiceCardSaid : Prop := Claim7.holds Tryd.pinned (.plain (OpenSpec.ofChange asmTwiceSpec)) asmTwiceCard

/-- THE SECOND FORM's CARD OF 'sluicelaw.AsmParses'. -/
def asmParsesUptoCard : Claim7 := { stood := { row := asmParsesUptoRow, standIns := [], harness := (true, "a30950d02d957e9870a12468288b7ef520a528aa43e4a38452cb9d82202f1c50"), looks := true }, kinds := [], alts := [], laidByText := true, laidKinds := [.data, .data, .data, .data, .sentinel, .sentinel, .sentinel, .pinned], laidTests := true, laidLooks := .later }
def AsmParsesUptoCardSaid : Prop := Claim7.holds Tryd.pinned (.plain (OpenSpec.upto asmParsesSpec)) asmParsesUptoCard

/-- THE SECOND FORM's CARD OF 'sluicekeep.AsmTwice'. -/
def asmTwiceUptoCard : Claim7 := { stood := { row := asmTwiceUptoRow, standIns := [], harness := (true, "a30950d02d957e9870a12468288b7ef520a528aa43e4a38452cb9d82202f1c50"), looks := true }, kinds := [], alts := [], laidByText := true, laidKinds := [.data, .data, .data, .data, .sentinel, .sentinel, .sentinel, .pinned], laidTests := true, laidLooks := .later }
def AsmTwiceUptoCardSaid : Prop := Claim7.holds Tryd.pinned (.plain (OpenSpec.upto asmTwiceSpec)) asmTwiceUptoCard
end Rows
end Go.Proofs.YthbebnegmenejaaDoor
