/-
  Rows that stay where others grow.
-/
import Derived.Test.YtocfocjnnjdcgaaDoorFam
namespace Go.Proofs.YtocfocjnnjdcgaaDoor
open Go.RowKit

theorem grown_block {w w' : World} {r : Option Nat} (h : w.grownBy w' r) {g : Nat} (hg : g < w.heap.size) (hne : r ≠ some g) : w'.heap[g]? = w.heap[g]? := h.block g hg (fun e => hne e.symm)
/-- A row stays where another one grows. -/
theorem own_grown {w w' : World} {r : Option Nat} {B : Nat} {e : TypeId} {size : Nat} {v : Value} {n : Nat} {xs : List Value} (h : w.ownsRow B e size v n xs) (hg : w.grownBy w' r) (hne : ∀ g, v.ownBlock = some g → r ≠ some g) : w'.ownsRow B e size v n xs :=
  fam_keeps h fun g e => grown_block hg (h.lt g e).2 (hne g e)
theorem owns_two {W : World} {B B' : Nat} {e e' : TypeId} {size size' : Nat} {v v' : Value} {n n' : Nat} {xs xs' : List Value} (h : W.ownsRow B e size v n xs) (h' : W.ownsRow B' e' size' v' n' xs') (hne : e ≠ e') {g : Nat} (h1 : v.ownBlock = some g) : v'.ownBlock ≠ some g := fun h2 => by
  rcases h.2 with ⟨h0, _⟩ | ⟨g1, cap, cur, hv, _, hh, _⟩
  · rw [h0] at h1; simp [Value.ownBlock] at h1
  rcases h'.2 with ⟨h0, _⟩ | ⟨g2, cap2, cur2, hv2, _, hh2, _⟩
  · rw [h0] at h2; simp [Value.ownBlock] at h2
  rw [hv] at h1
  rw [hv2] at h2
  have e1 : g1 = g := by simpa [Value.ownBlock] using h1
  have e2 : g2 = g := by simpa [Value.ownBlock] using h2
  rw [e1] at hh
  rw [e2, hh] at hh2
  simp only [Option.some.injEq, Obj.cells.injEq] at hh2
  exact hne hh2.2.1


end Go.Proofs.YtocfocjnnjdcgaaDoor
