/-
  What the law of linked programs by the program's own machines leans on.
-/
import Derived.Test.YtefnmbnakphhfadGreatDoorRwW
import Derived.Test.YtefnmbnakphhfadGreatDoorSpnS
import Derived.Test.YtefnmbnakphhfadGreatDoorDSt
import Derived.Test.YtefnmbnakphhfadGreatDoorOcOut
import Derived.Test.YtefnmbnakphhfadGreatDoorOpens3
import Derived.Test.YtefnmbnakphhfadGreatDoorFPut
namespace Go.Proofs.YtefnmbnakphhfadGreatDoor
theorem spn_root : True := by
  have _h0 := @link_no
  have _h1 := @link_may
  have _h2 := @spin_told
  have _h3 := @told_noFall
  have _h4 := @told_words
  have _h5 := @spin_chk
  have _h6 := @spin_cok
  have _h7 := @spin_pl
  have _h8 := @spin_ord
  have _h9 := @spin_len
  have _k0 := @box_cell
  have _k1 := @box_free
  have _k2 := @box_later
  have _k3 := @box_lt
  have _k4 := @cell_up
  have _k5 := @cell_drw
  have _k6 := @lt_of_cell
  have _k7 := @cell_far4
  have _k8 := @PIn.below
  have _k9 := @SIs.below
  have _k13 := @chk_cok
  have _k14 := @intsV_at
  have _k18 := @new_pin
  have _k19 := @long_cases
  have _k21 := @NewQ.below
  have _k22 := @NewQ.far
  have _k23 := @heap_set_same
  have _k24 := @fam_block
  have _k25 := @fam_cell
  have _k26 := @fam_form
  have _k27 := @fam_keeps
  have _k28 := @code_len
  have _k29 := @raw_mem
  have _k31 := @code_at
  have _k32 := @raw_find
  have _k33 := @long_none
  have _k34 := @sis_own
  have _k35 := @below_drewN
  have _m0 := @tso_yes
  have _m1 := @open_prog3
  have _m2 := @TabB.up
  have _m3 := @sis_own2
  have _m4 := @take_next
  have _m5 := @map_getD
  have _m6 := @EIn.below
  have _m7 := @EnOk.below
  have _m8 := @told_same
  have _m9 := @IIn.below
  have _n0 := @take_ext
  have _n1 := @region_tail
  trivial

end Go.Proofs.YtefnmbnakphhfadGreatDoor
