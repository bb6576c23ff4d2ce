/-
  Truths that grow.
-/
import Derived.Test.YtocfocjnnjdcgaaDoorPlain
namespace Go.Proofs.YtocfocjnnjdcgaaDoor

def cntF (R : List Bool) : Nat := (R.filter fun b => !b).length
theorem cnt_set : ∀ {R : List Bool} {j : Nat}, R.getD j true = false → cntF (R.set j true) < cntF R
  | [], j, h => by simp at h
  | b :: R, 0, h => by
    have : b = false := h
    subst this
    simp [cntF]
  | b :: R, j + 1, h => by
    have := cnt_set (R := R) (j := j) (by simpa using h)
    cases b
    · simpa [cntF] using this
    · simpa [cntF] using this
theorem getD_setT {R : List Bool} {j i : Nat} (hj : j < R.length) : (R.set j true).getD i false = if i = j then true else R.getD i false := by
  rw [List.getD_eq_getElem?_getD, List.getD_eq_getElem?_getD]
  by_cases e : i = j
  · subst e
    rw [List.getElem?_set_self hj, if_pos rfl]
    rfl
  · rw [List.getElem?_set_ne (fun x => e x.symm), if_neg e]

end Go.Proofs.YtocfocjnnjdcgaaDoor
