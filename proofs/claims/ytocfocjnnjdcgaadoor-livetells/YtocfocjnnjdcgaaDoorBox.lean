/-
  The box of a program that was handed in.
-/
import Derived.Test.YtocfocjnnjdcgaaDoorInProg
import Derived.Test.YtocfocjnnjdcgaaDoorFam
namespace Go.Proofs.YtocfocjnnjdcgaaDoor
open Go.RowKit

abbrev boxQ (ca : Option Addr) (n cc : Nat) (wa : Option Addr) (m wc : Nat) (lk rg : Int) : Obj := .cells #[.slice ca n cc, .slice wa m wc, .int .i64 lk, .int .i64 rg] 25

theorem box_lt {w : World} {g : Nat} {o : Obj} (h : w.heap[g]? = some o) : g < w.heap.size := by
  rcases Nat.lt_or_ge g w.heap.size with h1 | h1
  · exact h1
  · rw [Array.getElem?_eq_none h1] at h; cases h

theorem heap_set_same {w : World} {g i : Nat} {cs : Array Value} {t : TypeId} {u : Value} (h : w.heap[g]? = some (.cells cs t)) : (w.setCell ⟨g, i, none⟩ u).heap[g]? = some (.cells (cs.setIfInBounds i u) t) := by
  simp only [World.setCell, Array.getElem?_modify, if_true, h, Option.map_some]
  rfl

theorem own_type {w : World} {B : Nat} {e t : TypeId} {size : Nat} {v : Value} {n g : Nat} {xs : List Value} {c : Array Value} (h : w.ownsRow B e size v n xs) (hg : w.heap[g]? = some (.cells c t (0, 0))) (hne : e ≠ t) : v.ownBlock ≠ some g := fun e1 => by
  rcases h.2 with ⟨h0, _⟩ | ⟨g', cap, cur, hv, _, hh, _⟩
  · rw [h0] at e1; simp [Value.ownBlock] at e1
  · rw [hv] at e1
    have e2 : g' = g := by simpa [Value.ownBlock] using e1
    subst e2
    rw [hh] at hg
    simp only [Option.some.injEq, Obj.cells.injEq] at hg
    exact hne hg.2.1
end Go.Proofs.YtocfocjnnjdcgaaDoor
