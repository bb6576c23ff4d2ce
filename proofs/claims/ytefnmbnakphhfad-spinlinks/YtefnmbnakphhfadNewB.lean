/-
  Boxes that a call makes first, and what is stored into them at its end.
-/
import Derived.Test.YtefnmbnakphhfadNewC
namespace Go.Proofs.Ytefnmbnakphhfad
open Go.RowKit

abbrev noP : Value := .agg #[nilV, nilV, .int .i64 0, .int .i64 0]
/-- Three boxes that a call makes first. -/
theorem box3 (w : World) (P R F : Obj) : ∃ W, ((w.alloc P).alloc R).alloc F = W ∧ w.heap.size + 3 = W.heap.size ∧ ∀ V, Below W.heap.size W V → Below w.heap.size w V ∧ V.heap[w.heap.size]? = some P ∧ V.heap[w.heap.size + 1]? = some R ∧ V.heap[w.heap.size + 1 + 1]? = some F := by
  refine ⟨_, rfl, by simp, fun V hb => ⟨?_, ?_, ?_, ?_⟩⟩
  · exact ((((Below.refl _ _).alloc (Nat.le_refl _) _).alloc (by simp) _).alloc (by simp; omega) _).trans (hb.mono (by simp; omega))
  · exact (hb.block _ (by simp; omega)).trans (box_later (box_later (heap_alloc_new _ _) _) _)
  · have := (hb.block (w.heap.size + 1) (by simp)).trans (box_later (show ((w.alloc P).alloc R).heap[w.heap.size + 1]? = some R by have := heap_alloc_new (w.alloc P) R; simpa using this) _)
    exact this
  · have := (hb.block (w.heap.size + 1 + 1) (by simp)).trans (show (((w.alloc P).alloc R).alloc F).heap[w.heap.size + 1 + 1]? = some F by have := heap_alloc_new ((w.alloc P).alloc R) F; simpa using this)
    exact this
theorem below7n {w w' : World} (h : Below w.heap.size w w') (a b c d e f g : Value) : Below w.heap.size w (((((((w'.setCell ⟨w.heap.size + 1, 0, none⟩ a).setCell ⟨w.heap.size + 1, 1, none⟩ b).setCell ⟨w.heap.size + 1, 2, none⟩ c).setCell ⟨w.heap.size + 1, 3, none⟩ d).setCell ⟨w.heap.size + 1 + 1, 0, none⟩ e).setCell ⟨w.heap.size + 1 + 1, 1, none⟩ f).setCell ⟨w.heap.size + 1 + 1, 2, none⟩ g) := by
  have h1 : w.heap.size ≤ w.heap.size + 1 := by omega
  have h2 : w.heap.size ≤ w.heap.size + 1 + 1 := by omega
  exact ((((((h.setCell h1 _).setCell h1 _).setCell h1 _).setCell h1 _).setCell h2 _).setCell h2 _).setCell h2 _
theorem below7 {w w' : World} (h : Below w.heap.size w w') (a b c d e f g : Value) : Below w.heap.size w (((((((w'.setCell ⟨w.heap.size + 1, 0, none⟩ a).setCell ⟨w.heap.size + 1, 1, none⟩ b).setCell ⟨w.heap.size + 1, 2, none⟩ c).setCell ⟨w.heap.size + 1, 3, none⟩ d).setCell ⟨w.heap.size + 1 + 1, 0, none⟩ e).setCell ⟨w.heap.size + 1 + 1, 1, none⟩ f).setCell ⟨w.heap.size + 1 + 1, 2, none⟩ g).drew := (below7n h a b c d e f g).drew
theorem far7 {w' : World} {k g : Nat} (h1 : g ≠ k + 1) (h2 : g ≠ k + 1 + 1) (a b c d e f q : Value) : (((((((w'.setCell ⟨k + 1, 0, none⟩ a).setCell ⟨k + 1, 1, none⟩ b).setCell ⟨k + 1, 2, none⟩ c).setCell ⟨k + 1, 3, none⟩ d).setCell ⟨k + 1 + 1, 0, none⟩ e).setCell ⟨k + 1 + 1, 1, none⟩ f).setCell ⟨k + 1 + 1, 2, none⟩ q).heap[g]? = w'.heap[g]? := by
  have e1 : ∀ (Z : World) (q : Nat) (u : Value), (Z.setCell ⟨k + 1, q, none⟩ u).heap[g]? = Z.heap[g]? := fun Z q u => Below.heap_setCell _ _ _ _ (fun x => h1 (by simpa using x))
  have e2 : ∀ (Z : World) (q : Nat) (u : Value), (Z.setCell ⟨k + 1 + 1, q, none⟩ u).heap[g]? = Z.heap[g]? := fun Z q u => Below.heap_setCell _ _ _ _ (fun x => h2 (by simpa using x))
  rw [e2, e2, e2, e1, e1, e1, e1]

end Go.Proofs.Ytefnmbnakphhfad
