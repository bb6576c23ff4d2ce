/-
  A trace and a fault are laid into boxes that hold others.
-/
import Derived.Test.YtipdnfpomdcenaaKAhead
import Derived.Test.YtipdnfpomdcenaaBox
namespace Go.Proofs.Ytipdnfpomdcenaa
open Go.RowKit

/-- A trace and a fault are laid into their boxes. -/
abbrev set7 (w : World) (g : Nat) (a0 a1 a2 a3 b0 b1 b2 : Value) : World := ((((((w.setCell ⟨g, 0, none⟩ a0).setCell ⟨g, 1, none⟩ a1).setCell ⟨g, 2, none⟩ a2).setCell ⟨g, 3, none⟩ a3).setCell ⟨g + 1, 0, none⟩ b0).setCell ⟨g + 1, 1, none⟩ b1).setCell ⟨g + 1, 2, none⟩ b2
theorem set7_is {w : World} {g : Nat} {c0 c1 c2 c3 d0 d1 d2 : Value} {t f : TypeId} (ht : w.heap[g]? = some (.cells #[c0, c1, c2, c3] t)) (hf : w.heap[g + 1]? = some (.cells #[d0, d1, d2] f)) (a0 a1 a2 a3 b0 b1 b2 : Value) :
    (set7 w g a0 a1 a2 a3 b0 b1 b2).heap[g]? = some (.cells #[a0, a1, a2, a3] t) ∧ (set7 w g a0 a1 a2 a3 b0 b1 b2).heap[g + 1]? = some (.cells #[b0, b1, b2] f) ∧ (∀ j, j ≠ g → j ≠ g + 1 → (set7 w g a0 a1 a2 a3 b0 b1 b2).heap[j]? = w.heap[j]?) ∧ (set7 w g a0 a1 a2 a3 b0 b1 b2).heap.size = w.heap.size := by
  have n1 : g ≠ g + 1 := by omega
  have n2 : g + 1 ≠ g := by omega
  refine ⟨?_, ?_, fun j h1 h2 => ?_, by simp [set7, World.setCell]⟩
  · show (World.setCell _ _ _).heap[g]? = _
    rw [Below.heap_setCell _ _ _ _ n1, Below.heap_setCell _ _ _ _ n1, Below.heap_setCell _ _ _ _ n1]
    exact (heap_set_same (heap_set_same (heap_set_same (heap_set_same ht)))).trans rfl
  · have h1 : ((((w.setCell ⟨g, 0, none⟩ a0).setCell ⟨g, 1, none⟩ a1).setCell ⟨g, 2, none⟩ a2).setCell ⟨g, 3, none⟩ a3).heap[g + 1]? = some (.cells #[d0, d1, d2] f) := by
      rw [Below.heap_setCell _ _ _ _ n2, Below.heap_setCell _ _ _ _ n2, Below.heap_setCell _ _ _ _ n2, Below.heap_setCell _ _ _ _ n2]; exact hf
    exact (heap_set_same (heap_set_same (heap_set_same h1))).trans rfl
  · show (World.setCell _ _ _).heap[j]? = _
    rw [Below.heap_setCell _ _ _ _ h2, Below.heap_setCell _ _ _ _ h2, Below.heap_setCell _ _ _ _ h2, Below.heap_setCell _ _ _ _ h1, Below.heap_setCell _ _ _ _ h1, Below.heap_setCell _ _ _ _ h1, Below.heap_setCell _ _ _ _ h1]
theorem IsI.apart7 {w w' : World} {B : Nat} {a : Option Addr} {len c : Nat} {xs : List Int} (h : IsI w B a len c xs) (hk : ∀ j, B ≤ j → w'.heap[j]? = w.heap[j]?) : IIn w' a len (fun i => xs.getD i 0) :=
  IsI.iin (B := B) (c := c) ⟨h.is, fam_keeps h.own (fun g hg => hk g (h.own.lt g hg).1)⟩
theorem set7_below {w w5 : World} {B g : Nat} (h : Below B w w5) (hg : B ≤ g) (a0 a1 a2 a3 b0 b1 b2 : Value) : Below B w (set7 w5 g a0 a1 a2 a3 b0 b1 b2) :=
  ((((((h.setCell hg _).setCell hg _).setCell hg _).setCell hg _).setCell (by show _ ≤ g + 1; omega) _).setCell (by show _ ≤ g + 1; omega) _).setCell (by show _ ≤ g + 1; omega) _

end Go.Proofs.Ytipdnfpomdcenaa
