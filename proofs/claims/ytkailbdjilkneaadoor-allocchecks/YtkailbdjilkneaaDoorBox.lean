/-
  The box of a program that was handed in.
  Three stores into a box.
-/
import Derived.Test.YtkailbdjilkneaaDoorInProg
import Derived.Test.YtkailbdjilkneaaDoorFam
namespace Go.Proofs.YtkailbdjilkneaaDoor
section
open Go.RowKit

theorem box_lt {w : World} {g : Nat} {o : Obj} (h : w.heap[g]? = some o) : g < w.heap.size := by
  rcases Nat.lt_or_ge g w.heap.size with h1 | h1
  · exact h1
  · rw [Array.getElem?_eq_none h1] at h; cases h

theorem heap_set_same {w : World} {g i : Nat} {cs : Array Value} {t : TypeId} {u : Value} (h : w.heap[g]? = some (.cells cs t)) : (w.setCell ⟨g, i, none⟩ u).heap[g]? = some (.cells (cs.setIfInBounds i u) t) := by
  simp only [World.setCell, Array.getElem?_modify, if_true, h, Option.map_some]
  rfl

theorem own_type {w : World} {B : Nat} {e t : TypeId} {size : Nat} {v : Value} {n g : Nat} {xs : List Value} {c : Array Value} (h : w.ownsRow B e size v n xs) (hg : w.heap[g]? = some (.cells c t (0, 0))) (hne : e ≠ t) : v.ownBlock ≠ some g := fun e1 => by
  rcases h.2 with ⟨h0, _⟩ | ⟨g', cap, cur, hv, _, hh, _⟩
  · rw [h0] at e1; simp [Value.ownBlock] at e1
  · rw [hv] at e1
    have e2 : g' = g := by simpa [Value.ownBlock] using e1
    subst e2
    rw [hh] at hg
    simp only [Option.some.injEq, Obj.cells.injEq] at hg
    exact hne hg.2.1
end

section
open Go.RowKit

/-- Three stores into a box change nothing else. -/
theorem set3_far {W : World} {F g : Nat} (hg : g ≠ F) (x y z : Value) : (((W.setCell ⟨F, 0, none⟩ x).setCell ⟨F, 1, none⟩ y).setCell ⟨F, 2, none⟩ z).heap[g]? = W.heap[g]? := by
  have e : ∀ (Z : World) (q : Nat) (u : Value), (Z.setCell ⟨F, q, none⟩ u).heap[g]? = Z.heap[g]? := fun Z q u => Below.heap_setCell _ _ _ _ (fun x => hg (by simpa using x))
  rw [e, e, e]
theorem set3_is {W : World} {F : Nat} {a b c : Value} (h : W.heap[F]? = some (.cells #[a, b, c] 29)) (x y z : Value) : (((W.setCell ⟨F, 0, none⟩ x).setCell ⟨F, 1, none⟩ y).setCell ⟨F, 2, none⟩ z).heap[F]? = some (.cells #[x, y, z] 29) :=
  heap_set_same (i := 2) (u := z) (heap_set_same (i := 1) (u := y) (heap_set_same (i := 0) (u := x) h))
theorem set3_low {B : Nat} {w W : World} (h : Below B w W) {F : Nat} (hF : B ≤ F) (x y z : Value) : Below B w (((W.setCell ⟨F, 0, none⟩ x).setCell ⟨F, 1, none⟩ y).setCell ⟨F, 2, none⟩ z) := ((h.setCell (p := ⟨F, 0, none⟩) hF x).setCell (p := ⟨F, 1, none⟩) hF y).setCell (p := ⟨F, 2, none⟩) hF z
end

end Go.Proofs.YtkailbdjilkneaaDoor
