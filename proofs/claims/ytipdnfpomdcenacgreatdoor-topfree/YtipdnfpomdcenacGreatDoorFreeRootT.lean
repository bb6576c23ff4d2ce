/-
  What the laws of programs without clashes lean on.
-/
import Derived.Test.YtipdnfpomdcenacGreatDoorOcRob
import Derived.Test.YtipdnfpomdcenacGreatDoorOcCmp
namespace Go.Proofs.YtipdnfpomdcenacGreatDoor
theorem free_rootT : True := by
  have _h2 := @find_lit
  have _h5 := @open_prog3
  have _k0 := @box_cell
  have _k1 := @box_free
  have _k2 := @box_later
  have _k3 := @box_lt
  have _k4 := @cell_up
  have _k5 := @cell_drw
  have _k6 := @lt_of_cell
  have _k8 := @PIn.below
  have _k9 := @SIs.below
  have _k10 := @TabB.up
  have _k11 := @told_same
  have _k12 := @free_same
  have _k13 := @chk_cok
  have _k14 := @intsV_at
  have _k15 := @box_below
  have _g1 := @lit_lay
  have _g2 := @find_litAt
  have _g3 := @find_top
  trivial

end Go.Proofs.YtipdnfpomdcenacGreatDoor
