/-
  Blocks that lie there later; two boxes.
-/
import Derived.Test.YtkailbdjilkneaaDoorLivC
namespace Go.Proofs.YtkailbdjilkneaaDoor
open Go.RowKit

theorem two_at (W : World) (O P : Obj) : Below W.heap.size W ((W.alloc O).alloc P) ∧ ((W.alloc O).alloc P).heap[W.heap.size]? = some O ∧ ((W.alloc O).alloc P).heap[W.heap.size + 1]? = some P := by
  refine ⟨below_two _ _ _, box_later (heap_alloc_new _ _) _, ?_⟩
  have := heap_alloc_new (W.alloc O) P
  rwa [World.size_alloc] at this
theorem blk {W V : World} {g : Nat} {o : Obj} (hb : Below W.heap.size W V) (h : W.heap[g]? = some o) : V.heap[g]? = some o := (hb.block _ (Array.getElem?_eq_some_iff.1 h).1).trans h

end Go.Proofs.YtkailbdjilkneaaDoor
