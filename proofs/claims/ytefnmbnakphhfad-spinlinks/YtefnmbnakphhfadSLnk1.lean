/-
  Words in place of locks, by the program: small functions.
-/
import Derived.Test.YtefnmbnakphhfadNewB
import Derived.Test.YtefnmbnakphhfadSpnA
import Derived.Test.YtefnmbnakphhfadCheckA
import Derived.Test.YtefnmbnakphhfadInProg
import Derived.Test.YtefnmbnakphhfadAppB
import Derived.Test.YtefnmbnakphhfadRunP
import Derived.Test.YtefnmbnakphhfadSOk
import Derived.Deep.QuietTactic
import Derived.BigQuiet
import Derived.BigRegion
import Derived.StillTailTactics
import Derived.Deep.RegionHeld3
namespace Go.Proofs.Ytefnmbnakphhfad
open Go.RowKit

theorem take_any (w : World) (wd at' : Int) : Calls Try.prog 18 #[.int .i64 wd, .int .i64 at'] w fun e w' => ∃ sa c, e = .returned (.slice sa 4 c) ∧ SrcL w' sa (cellsT (takeL wd at')) ∧ Below w.heap.size w w' := by
  go_enter Try.func18, Try.ntmps18
  go_wp2
  go_ret
  exact ⟨_, _, rfl, srcL_block (heap_alloc_new w _), (Below.refl _ _).alloc (Nat.le_refl _) _⟩
theorem give_any (w : World) (wd : Int) : Calls Try.prog 20 #[.int .i64 wd] w fun e w' => ∃ sa c, e = .returned (.slice sa 2 c) ∧ SrcL w' sa (cellsT (giveL wd)) ∧ Below w.heap.size w w' := by
  go_enter Try.func20, Try.ntmps20
  go_wp2
  go_ret
  exact ⟨_, _, rfl, srcL_block (heap_alloc_new w _), (Below.refl _ _).alloc (Nat.le_refl _) _⟩
theorem wordOf_any (w : World) (ca : Option Addr) (n cc : Nat) (wa : Option Addr) (m wc : Nat) (lk rg l : Int) (hm : m ≤ 64) (h0 : 0 ≤ l) (hl : l < 100) :
    Calls Try.prog 19 #[prgV ca n cc wa m wc lk rg, .int .i64 l] w fun e w' => e = .returned (.int .i64 ((m : Int) + l)) ∧ Below w.heap.size w w' := by
  go_enter Try.func19, Try.ntmps19
  go_wp2
  go_ret
  exact ⟨by go_num, (Below.refl _ _).alloc (Nat.le_refl _) _⟩

end Go.Proofs.Ytefnmbnakphhfad
