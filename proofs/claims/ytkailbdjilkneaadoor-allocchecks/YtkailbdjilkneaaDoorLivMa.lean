/-
  What the program tells of all threads: which registers are live.
-/
import Derived.Test.YtkailbdjilkneaaDoorLivK
import Derived.Test.YtkailbdjilkneaaDoorLivF
namespace Go.Proofs.YtkailbdjilkneaaDoor
open Go.RowKit Go.Shelf

theorem O3.low {w : World} {B B' : Nat} {u : Value} {ysss : List (List (List Int))} (h : O3 w B u ysss) (hB : B' ≤ B) : O3 w B' u ysss := by
  obtain ⟨xs, h1, h2⟩ := h
  exact ⟨xs, own_low h1 hB, fun k hk => (h2 k hk).low hB⟩

end Go.Proofs.YtkailbdjilkneaaDoor
