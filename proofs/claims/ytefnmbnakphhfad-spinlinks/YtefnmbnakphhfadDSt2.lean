/-
  A state that is being begun: its words, one lock more, one thread more.
-/
import Derived.Test.YtefnmbnakphhfadInProg
import Derived.Test.YtefnmbnakphhfadAppB
import Derived.Test.YtefnmbnakphhfadRunP
import Derived.Test.YtefnmbnakphhfadSOk
import Derived.Deep.QuietTactic
import Derived.BigQuiet
import Derived.BigRegion
import Derived.Deep.AppendSrc
import Derived.Deep.OwnRows
namespace Go.Proofs.Ytefnmbnakphhfad
open Go.RowKit

section
variable {w w1 : World} {B : Nat} {P : Pg} {sb : Nat} {v : Rl → Value} {s : Sx}
end
/-- The state's box alone. -/
def v0 (sb : Nat) : Rl → Value := fun q => if q = .box then boxV sb else nilV
def s0 : Sx := { ths := [], words := [], own := [], prints := [], fell := false }

end Go.Proofs.Ytefnmbnakphhfad
