/-
  What the law of fenced programs leans on.
-/
import Derived.Test.YtgofbkgfonlceadGreatDoorFFull2
import Derived.Test.YtgofbkgfonlceadGreatDoorOcEq
import Derived.Test.YtgofbkgfonlceadGreatDoorDSt
import Derived.Test.YtgofbkgfonlceadGreatDoorOpens3
namespace Go.Proofs.YtgofbkgfonlceadGreatDoor
theorem fen_root : True := by
  have _h0 := @full_no
  have _h1 := @full_may
  have _h2 := @full_robust
  have _h3 := @robust_yes
  have _h5 := @open_prog3
  have _k0 := @box_cell
  have _k1 := @box_free
  have _k2 := @box_later
  have _k3 := @box_lt
  have _k4 := @cell_up
  have _k5 := @cell_drw
  have _k6 := @lt_of_cell
  have _k8 := @PIn.below
  have _k9 := @SIs.below
  have _k10 := @TabB.up
  have _k11 := @told_same
  have _k13 := @chk_cok
  have _k14 := @intsV_at
  have _k16 := @new_cok
  have _k17 := @new_chk
  have _k18 := @new_pin
  have _k19 := @long_cases
  have _k20 := @bFull_in
  have _k21 := @NewQ.below
  have _k22 := @NewQ.far
  have _k23 := @heap_set_same
  have _k24 := @fam_block
  have _k25 := @fam_cell
  have _k26 := @fam_form
  have _k27 := @fam_keeps
  have _k28 := @code_len
  have _k29 := @raw_mem
  have _k30 := @new_led
  have _k31 := @code_at
  have _k32 := @raw_find
  have _k33 := @long_none
  trivial

end Go.Proofs.YtgofbkgfonlceadGreatDoor
