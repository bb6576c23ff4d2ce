/-
  A truth as a number, by the program.
  What the program makes of orders that a thread's registers alone have to do with.
  Outcomes and their order; all that can be come to, and what is told of it: plain functions.
  What the document's Ints does with two lists of the same numbers.
  A list of numbers that was made is one that can be read.
  An outcome put into its place, one behind the other: plain functions.
  States are found again by their sums: the last one of a sum, and the one ahead of it: plain functions.
  The fault that tells that there are too many states.
-/
import Derived.Test.YtgofbkgfonlceabGreatDoorPlain
import Derived.Test.YtgofbkgfonlceabGreatDoorPMem
import Derived.Test.YtgofbkgfonlceabGreatDoorOrder
import Derived.Test.YtgofbkgfonlceabGreatDoorRAble
namespace Go.Proofs.YtgofbkgfonlceabGreatDoor
section
open Go.RowKit

theorem truth_any (b : Bool) (w : World) : Calls Tryz.prog 138 #[.bool b] w fun e w' => e = .returned (.int .i64 (bitI b)) ∧ w' = w := by
  go_enter Tryz.func138, Tryz.ntmps138
  cases b <;> go_wp2 <;> go_ret <;> exact ⟨rfl, rfl⟩
end

section
open Go.RowKit

set_option maxRecDepth 100000 in
set_option maxHeartbeats 3200000 in
theorem reckon_1 (w : World) (B : Nat) (Q : Cd) (sb mb : Nat) (v : Rp → Value) (s : Sx) (rg t tb : Nat) (ia : Nat) (b : Int) (c : Int) (hs : QSt w B Q sb mb v s) (htb : (v .thr).ownBlock = some tb) (ht : t < s.ths.length) (_hn : s.ths.length ≤ 4) (hrl : (thOf s t).regs.length = rg) (_hrg : rg ≤ 200) (ha : ia < rg) :
    Calls Tryz.prog 121 #[.pointer (some ⟨tb, t * 3, none⟩), ints4 1 (ia : Int) b c] w fun e w' => e = .returned (.tuple #[]) ∧ QSt w' B Q sb mb v (orderX Q.K.mode s t 1 (ia : Int) b c) ∧ Moved w w' v v := by
  have hst : orderX Q.K.mode s t 1 (ia : Int) b c = setR s t (ia : Int) (b) := by
    rfl
  rw [hst]
  obtain ⟨rb, rc, hrv, hrb, hlt⟩ := hs.blk (.regs t) (by show 0 < (thOf s t).regs.length; omega)
  have hrn : pN Q s (.regs t) = rg := hrl
  rw [hrn] at hrv
  have cr := hs.regs htb ht
  rw [hrv] at cr
  have wa := hs.reg hrb (r := ia) (by omega)
  have fa := hs.fam.frozen hrb ia
  have cru := cell_up cr
  have wau := cell_up wa
  have fau := frozen_up (a := ⟨rb, ia, none⟩) hlt fa
  have HF := Hid.out (p := Hid _) (⟨hs.setReg hrb ht ia (b), (Moved.refl w v).put hrb ia _⟩ : QSt (w.setCell ⟨rb, ia, none⟩ (.int .i64 (b))) B Q sb mb v (setR s t (ia : Int) (b)) ∧ Moved w (w.setCell ⟨rb, ia, none⟩ (.int .i64 (b))) v v)
  obtain ⟨VA, eA⟩ : ∃ x, getR s t (ia : Int) = x := ⟨_, rfl⟩
  have wa' := wau
  simp only [eA] at wa'
  clear wau wa hs hrv hrb hst hrn eA
  go_enter Tryz.func121, Tryz.ntmps121
  go_wp2
  go_end0
  exact ⟨rfl, QSt.same (HF.out.1.alloc _) rfl, Moved.same (HF.out.2.alloc _) rfl rfl rfl rfl⟩

set_option maxRecDepth 100000 in
set_option maxHeartbeats 3200000 in
theorem reckon_2 (w : World) (B : Nat) (Q : Cd) (sb mb : Nat) (v : Rp → Value) (s : Sx) (rg t tb : Nat) (ia : Nat) (ib : Nat) (c : Int) (hs : QSt w B Q sb mb v s) (htb : (v .thr).ownBlock = some tb) (ht : t < s.ths.length) (_hn : s.ths.length ≤ 4) (hrl : (thOf s t).regs.length = rg) (_hrg : rg ≤ 200) (ha : ia < rg) (hb : ib < rg) :
    Calls Tryz.prog 121 #[.pointer (some ⟨tb, t * 3, none⟩), ints4 2 (ia : Int) (ib : Int) c] w fun e w' => e = .returned (.tuple #[]) ∧ QSt w' B Q sb mb v (orderX Q.K.mode s t 2 (ia : Int) (ib : Int) c) ∧ Moved w w' v v := by
  have hst : orderX Q.K.mode s t 2 (ia : Int) (ib : Int) c = setR s t (ia : Int) ((getR s t (ib : Int))) := by
    rfl
  rw [hst]
  obtain ⟨rb, rc, hrv, hrb, hlt⟩ := hs.blk (.regs t) (by show 0 < (thOf s t).regs.length; omega)
  have hrn : pN Q s (.regs t) = rg := hrl
  rw [hrn] at hrv
  have cr := hs.regs htb ht
  rw [hrv] at cr
  have wa := hs.reg hrb (r := ia) (by omega)
  have fa := hs.fam.frozen hrb ia
  have cru := cell_up cr
  have wau := cell_up wa
  have fau := frozen_up (a := ⟨rb, ia, none⟩) hlt fa
  have wb := hs.reg hrb (r := ib) (by omega)
  have wbu := cell_up wb
  have HF := Hid.out (p := Hid _) (⟨hs.setReg hrb ht ia ((getR s t (ib : Int))), (Moved.refl w v).put hrb ia _⟩ : QSt (w.setCell ⟨rb, ia, none⟩ (.int .i64 ((getR s t (ib : Int))))) B Q sb mb v (setR s t (ia : Int) ((getR s t (ib : Int)))) ∧ Moved w (w.setCell ⟨rb, ia, none⟩ (.int .i64 ((getR s t (ib : Int))))) v v)
  obtain ⟨Vb, eb⟩ : ∃ x, getR s t (ib : Int) = x := ⟨_, rfl⟩
  rw [eb] at HF ⊢
  rw [eb] at wb wbu
  obtain ⟨VA, eA⟩ : ∃ x, getR s t (ia : Int) = x := ⟨_, rfl⟩
  have wa' := wau
  simp only [eA] at wa'
  clear wau wa hs hrv hrb hst hrn eA eb
  go_enter Tryz.func121, Tryz.ntmps121
  go_wp2
  refine region_tail 9 (by kernel_rfl) (by kernel_rfl) ?_
  simp only [List.take_succ_cons, List.take_zero, List.drop_succ_cons, List.drop_zero]
  repeat still_step
  refine wpStill_nil ?_
  go_wp2
  go_end0
  exact ⟨rfl, QSt.same (HF.out.1.alloc _) rfl, Moved.same (HF.out.2.alloc _) rfl rfl rfl rfl⟩

set_option maxRecDepth 100000 in
set_option maxHeartbeats 3200000 in
theorem reckon_3 (w : World) (B : Nat) (Q : Cd) (sb mb : Nat) (v : Rp → Value) (s : Sx) (rg t tb : Nat) (ia : Nat) (ib : Nat) (ic : Nat) (hs : QSt w B Q sb mb v s) (htb : (v .thr).ownBlock = some tb) (ht : t < s.ths.length) (_hn : s.ths.length ≤ 4) (hrl : (thOf s t).regs.length = rg) (_hrg : rg ≤ 200) (ha : ia < rg) (hb : ib < rg) (hc : ic < rg) :
    Calls Tryz.prog 121 #[.pointer (some ⟨tb, t * 3, none⟩), ints4 3 (ia : Int) (ib : Int) (ic : Int)] w fun e w' => e = .returned (.tuple #[]) ∧ QSt w' B Q sb mb v (orderX Q.K.mode s t 3 (ia : Int) (ib : Int) (ic : Int)) ∧ Moved w w' v v := by
  have hst : orderX Q.K.mode s t 3 (ia : Int) (ib : Int) (ic : Int) = setR s t (ia : Int) (wrap64 ((getR s t (ib : Int)) + (getR s t (ic : Int)))) := by
    show setR s t (ia : Int) _ = _
    rw [IntWalk.i64_left]
  rw [hst]
  obtain ⟨rb, rc, hrv, hrb, hlt⟩ := hs.blk (.regs t) (by show 0 < (thOf s t).regs.length; omega)
  have hrn : pN Q s (.regs t) = rg := hrl
  rw [hrn] at hrv
  have cr := hs.regs htb ht
  rw [hrv] at cr
  have wa := hs.reg hrb (r := ia) (by omega)
  have fa := hs.fam.frozen hrb ia
  have cru := cell_up cr
  have wau := cell_up wa
  have fau := frozen_up (a := ⟨rb, ia, none⟩) hlt fa
  have wb := hs.reg hrb (r := ib) (by omega)
  have wbu := cell_up wb
  have wc := hs.reg hrb (r := ic) (by omega)
  have wcu := cell_up wc
  have HF := Hid.out (p := Hid _) (⟨hs.setReg hrb ht ia (wrap64 ((getR s t (ib : Int)) + (getR s t (ic : Int)))), (Moved.refl w v).put hrb ia _⟩ : QSt (w.setCell ⟨rb, ia, none⟩ (.int .i64 (wrap64 ((getR s t (ib : Int)) + (getR s t (ic : Int)))))) B Q sb mb v (setR s t (ia : Int) (wrap64 ((getR s t (ib : Int)) + (getR s t (ic : Int))))) ∧ Moved w (w.setCell ⟨rb, ia, none⟩ (.int .i64 (wrap64 ((getR s t (ib : Int)) + (getR s t (ic : Int)))))) v v)
  obtain ⟨Vb, eb⟩ : ∃ x, getR s t (ib : Int) = x := ⟨_, rfl⟩
  obtain ⟨Vc, ec⟩ : ∃ x, getR s t (ic : Int) = x := ⟨_, rfl⟩
  rw [eb, ec] at HF ⊢
  rw [eb] at wb wbu
  rw [ec] at wc wcu
  obtain ⟨VA, eA⟩ : ∃ x, getR s t (ia : Int) = x := ⟨_, rfl⟩
  have wa' := wau
  simp only [eA] at wa'
  clear wau wa hs hrv hrb hst hrn eA eb ec
  go_enter Tryz.func121, Tryz.ntmps121
  go_wp2
  refine region_tail 15 (by kernel_rfl) (by kernel_rfl) ?_
  simp only [List.take_succ_cons, List.take_zero, List.drop_succ_cons, List.drop_zero]
  repeat still_step
  refine wpStill_nil ?_
  go_wp2
  go_end0
  exact ⟨rfl, QSt.same (HF.out.1.alloc _) rfl, Moved.same (HF.out.2.alloc _) rfl rfl rfl rfl⟩

set_option maxRecDepth 100000 in
set_option maxHeartbeats 3200000 in
theorem reckon_4 (w : World) (B : Nat) (Q : Cd) (sb mb : Nat) (v : Rp → Value) (s : Sx) (rg t tb : Nat) (ia : Nat) (ib : Nat) (ic : Nat) (hs : QSt w B Q sb mb v s) (htb : (v .thr).ownBlock = some tb) (ht : t < s.ths.length) (_hn : s.ths.length ≤ 4) (hrl : (thOf s t).regs.length = rg) (_hrg : rg ≤ 200) (ha : ia < rg) (hb : ib < rg) (hc : ic < rg) :
    Calls Tryz.prog 121 #[.pointer (some ⟨tb, t * 3, none⟩), ints4 4 (ia : Int) (ib : Int) (ic : Int)] w fun e w' => e = .returned (.tuple #[]) ∧ QSt w' B Q sb mb v (orderX Q.K.mode s t 4 (ia : Int) (ib : Int) (ic : Int)) ∧ Moved w w' v v := by
  have hst : orderX Q.K.mode s t 4 (ia : Int) (ib : Int) (ic : Int) = setR s t (ia : Int) (wrap64 ((getR s t (ib : Int)) - (getR s t (ic : Int)))) := by
    show setR s t (ia : Int) _ = _
    rw [IntWalk.i64_left]
  rw [hst]
  obtain ⟨rb, rc, hrv, hrb, hlt⟩ := hs.blk (.regs t) (by show 0 < (thOf s t).regs.length; omega)
  have hrn : pN Q s (.regs t) = rg := hrl
  rw [hrn] at hrv
  have cr := hs.regs htb ht
  rw [hrv] at cr
  have wa := hs.reg hrb (r := ia) (by omega)
  have fa := hs.fam.frozen hrb ia
  have cru := cell_up cr
  have wau := cell_up wa
  have fau := frozen_up (a := ⟨rb, ia, none⟩) hlt fa
  have wb := hs.reg hrb (r := ib) (by omega)
  have wbu := cell_up wb
  have wc := hs.reg hrb (r := ic) (by omega)
  have wcu := cell_up wc
  have HF := Hid.out (p := Hid _) (⟨hs.setReg hrb ht ia (wrap64 ((getR s t (ib : Int)) - (getR s t (ic : Int)))), (Moved.refl w v).put hrb ia _⟩ : QSt (w.setCell ⟨rb, ia, none⟩ (.int .i64 (wrap64 ((getR s t (ib : Int)) - (getR s t (ic : Int)))))) B Q sb mb v (setR s t (ia : Int) (wrap64 ((getR s t (ib : Int)) - (getR s t (ic : Int))))) ∧ Moved w (w.setCell ⟨rb, ia, none⟩ (.int .i64 (wrap64 ((getR s t (ib : Int)) - (getR s t (ic : Int)))))) v v)
  obtain ⟨Vb, eb⟩ : ∃ x, getR s t (ib : Int) = x := ⟨_, rfl⟩
  obtain ⟨Vc, ec⟩ : ∃ x, getR s t (ic : Int) = x := ⟨_, rfl⟩
  rw [eb, ec] at HF ⊢
  rw [eb] at wb wbu
  rw [ec] at wc wcu
  obtain ⟨VA, eA⟩ : ∃ x, getR s t (ia : Int) = x := ⟨_, rfl⟩
  have wa' := wau
  simp only [eA] at wa'
  clear wau wa hs hrv hrb hst hrn eA eb ec
  go_enter Tryz.func121, Tryz.ntmps121
  go_wp2
  refine region_tail 15 (by kernel_rfl) (by kernel_rfl) ?_
  simp only [List.take_succ_cons, List.take_zero, List.drop_succ_cons, List.drop_zero]
  repeat still_step
  refine wpStill_nil ?_
  go_wp2
  go_end0
  exact ⟨rfl, QSt.same (HF.out.1.alloc _) rfl, Moved.same (HF.out.2.alloc _) rfl rfl rfl rfl⟩

set_option maxRecDepth 100000 in
set_option maxHeartbeats 3200000 in
theorem reckon_5 (w : World) (B : Nat) (Q : Cd) (sb mb : Nat) (v : Rp → Value) (s : Sx) (rg t tb : Nat) (ia : Nat) (ib : Nat) (ic : Nat) (hs : QSt w B Q sb mb v s) (htb : (v .thr).ownBlock = some tb) (ht : t < s.ths.length) (_hn : s.ths.length ≤ 4) (hrl : (thOf s t).regs.length = rg) (_hrg : rg ≤ 200) (ha : ia < rg) (hb : ib < rg) (hc : ic < rg) :
    Calls Tryz.prog 121 #[.pointer (some ⟨tb, t * 3, none⟩), ints4 5 (ia : Int) (ib : Int) (ic : Int)] w fun e w' => e = .returned (.tuple #[]) ∧ QSt w' B Q sb mb v (orderX Q.K.mode s t 5 (ia : Int) (ib : Int) (ic : Int)) ∧ Moved w w' v v := by
  have hst : orderX Q.K.mode s t 5 (ia : Int) (ib : Int) (ic : Int) = setR s t (ia : Int) (wrap64 ((getR s t (ib : Int)) * (getR s t (ic : Int)))) := by
    show setR s t (ia : Int) _ = _
    rw [IntWalk.i64_left]
  rw [hst]
  obtain ⟨rb, rc, hrv, hrb, hlt⟩ := hs.blk (.regs t) (by show 0 < (thOf s t).regs.length; omega)
  have hrn : pN Q s (.regs t) = rg := hrl
  rw [hrn] at hrv
  have cr := hs.regs htb ht
  rw [hrv] at cr
  have wa := hs.reg hrb (r := ia) (by omega)
  have fa := hs.fam.frozen hrb ia
  have cru := cell_up cr
  have wau := cell_up wa
  have fau := frozen_up (a := ⟨rb, ia, none⟩) hlt fa
  have wb := hs.reg hrb (r := ib) (by omega)
  have wbu := cell_up wb
  have wc := hs.reg hrb (r := ic) (by omega)
  have wcu := cell_up wc
  have HF := Hid.out (p := Hid _) (⟨hs.setReg hrb ht ia (wrap64 ((getR s t (ib : Int)) * (getR s t (ic : Int)))), (Moved.refl w v).put hrb ia _⟩ : QSt (w.setCell ⟨rb, ia, none⟩ (.int .i64 (wrap64 ((getR s t (ib : Int)) * (getR s t (ic : Int)))))) B Q sb mb v (setR s t (ia : Int) (wrap64 ((getR s t (ib : Int)) * (getR s t (ic : Int))))) ∧ Moved w (w.setCell ⟨rb, ia, none⟩ (.int .i64 (wrap64 ((getR s t (ib : Int)) * (getR s t (ic : Int)))))) v v)
  obtain ⟨Vb, eb⟩ : ∃ x, getR s t (ib : Int) = x := ⟨_, rfl⟩
  obtain ⟨Vc, ec⟩ : ∃ x, getR s t (ic : Int) = x := ⟨_, rfl⟩
  rw [eb, ec] at HF ⊢
  rw [eb] at wb wbu
  rw [ec] at wc wcu
  obtain ⟨VA, eA⟩ : ∃ x, getR s t (ia : Int) = x := ⟨_, rfl⟩
  have wa' := wau
  simp only [eA] at wa'
  clear wau wa hs hrv hrb hst hrn eA eb ec
  go_enter Tryz.func121, Tryz.ntmps121
  go_wp2
  refine region_tail 15 (by kernel_rfl) (by kernel_rfl) ?_
  simp only [List.take_succ_cons, List.take_zero, List.drop_succ_cons, List.drop_zero]
  repeat still_step
  refine wpStill_nil ?_
  go_wp2
  go_end0
  exact ⟨rfl, QSt.same (HF.out.1.alloc _) rfl, Moved.same (HF.out.2.alloc _) rfl rfl rfl rfl⟩

set_option maxRecDepth 100000 in
set_option maxHeartbeats 3200000 in
theorem reckon_6 (w : World) (B : Nat) (Q : Cd) (sb mb : Nat) (v : Rp → Value) (s : Sx) (rg t tb : Nat) (ia : Nat) (ib : Nat) (ic : Nat) (hs : QSt w B Q sb mb v s) (htb : (v .thr).ownBlock = some tb) (ht : t < s.ths.length) (_hn : s.ths.length ≤ 4) (hrl : (thOf s t).regs.length = rg) (_hrg : rg ≤ 200) (ha : ia < rg) (hb : ib < rg) (hc : ic < rg) :
    Calls Tryz.prog 121 #[.pointer (some ⟨tb, t * 3, none⟩), ints4 6 (ia : Int) (ib : Int) (ic : Int)] w fun e w' => e = .returned (.tuple #[]) ∧ QSt w' B Q sb mb v (orderX Q.K.mode s t 6 (ia : Int) (ib : Int) (ic : Int)) ∧ Moved w w' v v := by
  have hst : orderX Q.K.mode s t 6 (ia : Int) (ib : Int) (ic : Int) = setR s t (ia : Int) (bitI (decide ((getR s t (ib : Int)) < (getR s t (ic : Int))))) := by
    rfl
  rw [hst]
  obtain ⟨rb, rc, hrv, hrb, hlt⟩ := hs.blk (.regs t) (by show 0 < (thOf s t).regs.length; omega)
  have hrn : pN Q s (.regs t) = rg := hrl
  rw [hrn] at hrv
  have cr := hs.regs htb ht
  rw [hrv] at cr
  have wa := hs.reg hrb (r := ia) (by omega)
  have fa := hs.fam.frozen hrb ia
  have cru := cell_up cr
  have wau := cell_up wa
  have fau := frozen_up (a := ⟨rb, ia, none⟩) hlt fa
  have wb := hs.reg hrb (r := ib) (by omega)
  have wbu := cell_up wb
  have wc := hs.reg hrb (r := ic) (by omega)
  have wcu := cell_up wc
  have HF := Hid.out (p := Hid _) (⟨hs.setReg hrb ht ia (bitI (decide ((getR s t (ib : Int)) < (getR s t (ic : Int))))), (Moved.refl w v).put hrb ia _⟩ : QSt (w.setCell ⟨rb, ia, none⟩ (.int .i64 (bitI (decide ((getR s t (ib : Int)) < (getR s t (ic : Int))))))) B Q sb mb v (setR s t (ia : Int) (bitI (decide ((getR s t (ib : Int)) < (getR s t (ic : Int)))))) ∧ Moved w (w.setCell ⟨rb, ia, none⟩ (.int .i64 (bitI (decide ((getR s t (ib : Int)) < (getR s t (ic : Int))))))) v v)
  obtain ⟨Vb, eb⟩ : ∃ x, getR s t (ib : Int) = x := ⟨_, rfl⟩
  obtain ⟨Vc, ec⟩ : ∃ x, getR s t (ic : Int) = x := ⟨_, rfl⟩
  rw [eb, ec] at HF ⊢
  rw [eb] at wb wbu
  rw [ec] at wc wcu
  obtain ⟨VA, eA⟩ : ∃ x, getR s t (ia : Int) = x := ⟨_, rfl⟩
  have wa' := wau
  simp only [eA] at wa'
  clear wau wa hs hrv hrb hst hrn eA eb ec
  go_enter Tryz.func121, Tryz.ntmps121
  go_wp2
  refine region_tail 16 (by kernel_rfl) (by kernel_rfl) ?_
  simp only [List.take_succ_cons, List.take_zero, List.drop_succ_cons, List.drop_zero]
  repeat still_step
  still_call (truth_any _ _)
  repeat still_step
  refine wpStill_nil ?_
  go_wp2
  go_end0
  exact ⟨rfl, QSt.same (HF.out.1.alloc _) rfl, Moved.same (HF.out.2.alloc _) rfl rfl rfl rfl⟩

set_option maxRecDepth 100000 in
set_option maxHeartbeats 3200000 in
theorem reckon_7 (w : World) (B : Nat) (Q : Cd) (sb mb : Nat) (v : Rp → Value) (s : Sx) (rg t tb : Nat) (ia : Nat) (ib : Nat) (ic : Nat) (hs : QSt w B Q sb mb v s) (htb : (v .thr).ownBlock = some tb) (ht : t < s.ths.length) (_hn : s.ths.length ≤ 4) (hrl : (thOf s t).regs.length = rg) (_hrg : rg ≤ 200) (ha : ia < rg) (hb : ib < rg) (hc : ic < rg) :
    Calls Tryz.prog 121 #[.pointer (some ⟨tb, t * 3, none⟩), ints4 7 (ia : Int) (ib : Int) (ic : Int)] w fun e w' => e = .returned (.tuple #[]) ∧ QSt w' B Q sb mb v (orderX Q.K.mode s t 7 (ia : Int) (ib : Int) (ic : Int)) ∧ Moved w w' v v := by
  have hst : orderX Q.K.mode s t 7 (ia : Int) (ib : Int) (ic : Int) = setR s t (ia : Int) (bitI (decide ((getR s t (ib : Int)) = (getR s t (ic : Int))))) := by
    rfl
  rw [hst]
  obtain ⟨rb, rc, hrv, hrb, hlt⟩ := hs.blk (.regs t) (by show 0 < (thOf s t).regs.length; omega)
  have hrn : pN Q s (.regs t) = rg := hrl
  rw [hrn] at hrv
  have cr := hs.regs htb ht
  rw [hrv] at cr
  have wa := hs.reg hrb (r := ia) (by omega)
  have fa := hs.fam.frozen hrb ia
  have cru := cell_up cr
  have wau := cell_up wa
  have fau := frozen_up (a := ⟨rb, ia, none⟩) hlt fa
  have wb := hs.reg hrb (r := ib) (by omega)
  have wbu := cell_up wb
  have wc := hs.reg hrb (r := ic) (by omega)
  have wcu := cell_up wc
  have HF := Hid.out (p := Hid _) (⟨hs.setReg hrb ht ia (bitI (decide ((getR s t (ib : Int)) = (getR s t (ic : Int))))), (Moved.refl w v).put hrb ia _⟩ : QSt (w.setCell ⟨rb, ia, none⟩ (.int .i64 (bitI (decide ((getR s t (ib : Int)) = (getR s t (ic : Int))))))) B Q sb mb v (setR s t (ia : Int) (bitI (decide ((getR s t (ib : Int)) = (getR s t (ic : Int)))))) ∧ Moved w (w.setCell ⟨rb, ia, none⟩ (.int .i64 (bitI (decide ((getR s t (ib : Int)) = (getR s t (ic : Int))))))) v v)
  obtain ⟨Vb, eb⟩ : ∃ x, getR s t (ib : Int) = x := ⟨_, rfl⟩
  obtain ⟨Vc, ec⟩ : ∃ x, getR s t (ic : Int) = x := ⟨_, rfl⟩
  rw [eb, ec] at HF ⊢
  rw [eb] at wb wbu
  rw [ec] at wc wcu
  obtain ⟨VA, eA⟩ : ∃ x, getR s t (ia : Int) = x := ⟨_, rfl⟩
  have wa' := wau
  simp only [eA] at wa'
  clear wau wa hs hrv hrb hst hrn eA eb ec
  go_enter Tryz.func121, Tryz.ntmps121
  go_wp2
  refine region_tail 16 (by kernel_rfl) (by kernel_rfl) ?_
  simp only [List.take_succ_cons, List.take_zero, List.drop_succ_cons, List.drop_zero]
  repeat still_step
  still_call (truth_any _ _)
  repeat still_step
  refine wpStill_nil ?_
  go_wp2
  go_end0
  exact ⟨rfl, QSt.same (HF.out.1.alloc _) rfl, Moved.same (HF.out.2.alloc _) rfl rfl rfl rfl⟩

set_option maxRecDepth 100000 in
set_option maxHeartbeats 3200000 in
theorem reckon_12 (w : World) (B : Nat) (Q : Cd) (sb mb : Nat) (v : Rp → Value) (s : Sx) (_rg t tb : Nat) (a b c : Int) (hs : QSt w B Q sb mb v s) (htb : (v .thr).ownBlock = some tb) (ht : t < s.ths.length) :
    Calls Tryz.prog 121 #[.pointer (some ⟨tb, t * 3, none⟩), ints4 12 a b c] w fun e w' => e = .returned (.tuple #[]) ∧ QSt w' B Q sb mb v (orderX Q.K.mode s t 12 a b c) ∧ Moved w w' v v := by
  have hst : orderX Q.K.mode s t 12 a b c = s := rfl
  rw [hst]
  have cru := cell_up (hs.regs htb ht)
  obtain ⟨ra, rc, hrv⟩ := hs.form (.regs t)
  rw [hrv] at cru
  have HF := Hid.out (p := Hid _) (⟨hs, Moved.refl w v⟩ : QSt w B Q sb mb v s ∧ Moved w w v v)
  obtain ⟨n, hn⟩ : ∃ n, pN Q s (.regs t) = n := ⟨_, rfl⟩
  rw [hn] at cru
  clear hs hrv hn hst
  go_enter Tryz.func121, Tryz.ntmps121
  go_wp2
  go_end0
  exact ⟨rfl, QSt.same (HF.out.1.alloc _) rfl, Moved.same (HF.out.2.alloc _) rfl rfl rfl rfl⟩
end

section
open Go.RowKit

/-! Outcomes and their order. -/
/-- An outcome: how a run ended, the words, what was printed. -/
structure Oc where
  st : Int
  ws : List Int
  pr : List Int
deriving DecidableEq, Inhabited
/-- The order of lists. -/
def lexL : List Int → List Int → Bool
  | [], [] => false
  | [], _ :: _ => true
  | _ :: _, [] => false
  | a :: l, b :: r => if a = b then lexL l r else decide (a < b)
/-- The order of outcomes. -/
def aheadO (a b : Oc) : Bool := if a.st ≠ b.st then decide (a.st < b.st) else if a.ws ≠ b.ws then lexL a.ws b.ws else lexL a.pr b.pr
theorem lex_irr : ∀ l : List Int, lexL l l = false
  | [] => rfl
  | a :: l => by unfold lexL; rw [if_pos rfl]; exact lex_irr l
theorem lex_trans : ∀ {a b c : List Int}, lexL a b = true → lexL b c = true → lexL a c = true
  | [], _, [], h1, h2 => by
    rename_i b
    cases b with
    | nil => cases h1
    | cons x r => cases h2
  | [], _, _ :: _, _, _ => rfl
  | _ :: _, [], _, h1, _ => by cases h1
  | _ :: _, _ :: _, [], _, h2 => by cases h2
  | x :: a, y :: b, z :: c, h1, h2 => by
    unfold lexL at h1 h2 ⊢
    by_cases e1 : x = y
    · rw [if_pos e1] at h1
      by_cases e2 : y = z
      · rw [if_pos e2] at h2
        rw [if_pos (e1.trans e2)]
        exact lex_trans h1 h2
      · rw [if_neg e2] at h2
        rw [if_neg (by rw [e1]; exact e2), e1]
        exact h2
    · rw [if_neg e1] at h1
      have h1 := of_decide_eq_true h1
      by_cases e2 : y = z
      · rw [if_neg (by rw [← e2]; exact e1), ← e2]
        exact decide_eq_true h1
      · rw [if_neg e2] at h2
        have h2 := of_decide_eq_true h2
        rw [if_neg (by omega)]
        exact decide_eq_true (by omega)
theorem lex_tri : ∀ {a b : List Int}, lexL a b = false → lexL b a = false → a = b
  | [], [], _, _ => rfl
  | [], _ :: _, h, _ => by cases h
  | _ :: _, [], _, h => by cases h
  | x :: a, y :: b, h1, h2 => by
    unfold lexL at h1 h2
    by_cases e : x = y
    · rw [if_pos e] at h1
      rw [if_pos e.symm] at h2
      rw [e, lex_tri h1 h2]
    · rw [if_neg e] at h1
      rw [if_neg (fun h => e h.symm)] at h2
      have h1 := of_decide_eq_false h1
      have h2 := of_decide_eq_false h2
      omega
theorem ahead_irr (a : Oc) : aheadO a a = false := by
  unfold aheadO
  rw [if_neg (by simp), if_neg (by simp)]
  exact lex_irr _
theorem ahead_trans {a b c : Oc} (h1 : aheadO a b = true) (h2 : aheadO b c = true) : aheadO a c = true := by
  unfold aheadO at *
  by_cases e1 : a.st = b.st
  · rw [if_neg (by simpa using e1)] at h1
    by_cases e2 : b.st = c.st
    · rw [if_neg (by simpa using e2)] at h2
      rw [if_neg (by rw [e1, e2]; simp)]
      by_cases w1 : a.ws = b.ws
      · rw [if_neg (by simpa using w1)] at h1
        by_cases w2 : b.ws = c.ws
        · rw [if_neg (by simpa using w2)] at h2
          rw [if_neg (by rw [w1, w2]; simp)]
          exact lex_trans h1 h2
        · rw [if_pos w2] at h2
          rw [if_pos (by rw [w1]; exact w2), w1]
          exact h2
      · rw [if_pos w1] at h1
        by_cases w2 : b.ws = c.ws
        · rw [if_pos (by rw [← w2]; exact w1), ← w2]
          exact h1
        · rw [if_pos w2] at h2
          have h3 := lex_trans h1 h2
          rw [if_pos (fun e => by rw [e, lex_irr] at h3; cases h3)]
          exact h3
    · rw [if_pos e2] at h2
      rw [if_pos (by rw [e1]; exact e2), e1]
      exact h2
  · rw [if_pos e1] at h1
    have h1 := of_decide_eq_true h1
    by_cases e2 : b.st = c.st
    · rw [if_pos (by rw [← e2]; exact e1), ← e2]
      exact decide_eq_true h1
    · rw [if_pos e2] at h2
      have h2 := of_decide_eq_true h2
      rw [if_pos (by omega)]
      exact decide_eq_true (by omega)
theorem ahead_tri {a b : Oc} (h1 : aheadO a b = false) (h2 : aheadO b a = false) : a = b := by
  unfold aheadO at *
  by_cases e : a.st = b.st
  · rw [if_neg (by simpa using e)] at h1
    rw [if_neg (by simpa using e.symm)] at h2
    have ew : a.ws = b.ws := by
      by_cases w : a.ws = b.ws
      · exact w
      · rw [if_pos w] at h1
        rw [if_pos (fun h => w h.symm)] at h2
        exact lex_tri h1 h2
    rw [if_neg (by simpa using ew)] at h1
    rw [if_neg (by simpa using ew.symm)] at h2
    have ep := lex_tri h1 h2
    cases a; cases b
    simp only at e ew ep
    subst e ew ep
    rfl
  · rw [if_pos e] at h1
    rw [if_pos (fun h => e h.symm)] at h2
    have h1 := of_decide_eq_false h1
    have h2 := of_decide_eq_false h2
    omega
theorem ahead_asym {a b : Oc} (h : aheadO a b = true) : aheadO b a = false := by
  cases e : aheadO b a with
  | false => rfl
  | true => have := ahead_trans h e; rw [ahead_irr] at this; cases this
/-- Each comes ahead of all that stand behind it. -/
def SortedO (l : List Oc) : Prop := l.Pairwise fun a b => aheadO a b = true
theorem sorted_same : ∀ {l r : List Oc}, SortedO l → SortedO r → (∀ o, o ∈ l ↔ o ∈ r) → l = r
  | [], [], _, _, _ => rfl
  | [], b :: r, _, _, h => by have := (h b).2 (by simp); cases this
  | a :: l, [], _, _, h => by have := (h a).1 (by simp); cases this
  | a :: l, b :: r, hl, hr, h => by
    rw [SortedO, List.pairwise_cons] at hl hr
    have ha := (h a).1 (by simp)
    have hb := (h b).2 (by simp)
    have e : a = b := by
      rcases List.mem_cons.mp ha with e | ha
      · exact e
      · rcases List.mem_cons.mp hb with e | hb
        · exact e.symm
        · have h1 := hl.1 b hb
          have h2 := hr.1 a ha
          rw [ahead_asym h1] at h2
          cases h2
    subst e
    have hna : ∀ {o}, o ∈ l → o ≠ a := fun ho e => by
      have := hl.1 _ ho
      rw [e, ahead_irr] at this
      cases this
    have hnr : ∀ {o}, o ∈ r → o ≠ a := fun ho e => by
      have := hr.1 _ ho
      rw [e, ahead_irr] at this
      cases this
    rw [sorted_same (l := l) (r := r) hl.2 hr.2 (fun o => ⟨fun ho => by
      rcases List.mem_cons.mp ((h o).1 (by simp [ho])) with e | e
      · exact absurd e (hna ho)
      · exact e, fun ho => by
      rcases List.mem_cons.mp ((h o).2 (by simp [ho])) with e | e
      · exact absurd e (hnr ho)
      · exact e⟩)]
/-- An outcome, into its place, once. -/
def insO (o : Oc) : List Oc → List Oc
  | [] => [o]
  | a :: l => if aheadO o a then o :: a :: l else if aheadO a o then a :: insO o l else a :: l
theorem mem_insO {o x : Oc} : ∀ {l : List Oc}, x ∈ insO o l ↔ x = o ∨ x ∈ l
  | [] => by simp [insO]
  | a :: l => by
    unfold insO
    split
    · simp
    · split
      · rw [List.mem_cons, mem_insO, List.mem_cons]
        constructor
        · rintro (h | h | h)
          · exact Or.inr (Or.inl h)
          · exact Or.inl h
          · exact Or.inr (Or.inr h)
        · rintro (h | h | h)
          · exact Or.inr (Or.inl h)
          · exact Or.inl h
          · exact Or.inr (Or.inr h)
      · rename_i h1 h2
        have e : o = a := ahead_tri (by simpa using h1) (by simpa using h2)
        subst e
        simp
theorem sorted_insO {o : Oc} : ∀ {l : List Oc}, SortedO l → SortedO (insO o l)
  | [], _ => List.pairwise_singleton _ _
  | a :: l, h => by
    unfold insO
    have h' := h
    rw [SortedO, List.pairwise_cons] at h'
    split
    · rename_i h1
      refine List.pairwise_cons.mpr ⟨fun x hx => ?_, h⟩
      rcases List.mem_cons.mp hx with e | hx
      · rw [e]; exact h1
      · exact ahead_trans h1 (h'.1 x hx)
    · split
      · rename_i h1 h2
        refine List.pairwise_cons.mpr ⟨fun x hx => ?_, sorted_insO h'.2⟩
        rcases mem_insO.mp hx with e | hx
        · rw [e]; exact h2
        · exact h'.1 x hx
      · exact h

/-! All that can be come to. -/
section
variable {S : Type}
inductive Rch (nx : S → List S) (s0 : S) : S → Prop
  | base : Rch nx s0 s0
  | step {s t : S} : Rch nx s0 s → t ∈ nx s → Rch nx s0 t
theorem nodup_len [DecidableEq S] : ∀ {l r : List S}, l.Nodup → (∀ x, x ∈ l → x ∈ r) → l.length ≤ r.length
  | [], _, _, _ => Nat.zero_le _
  | a :: l, r, hl, h => by
    rw [List.nodup_cons] at hl
    have ha : a ∈ r := h a (by simp)
    have h1 := nodup_len (l := l) (r := r.erase a) hl.2 (fun x hx => by
      have hne : x ≠ a := fun e => hl.1 (e ▸ hx)
      exact (List.mem_erase_of_ne hne).mpr (h x (by simp [hx])))
    rw [List.length_erase_of_mem ha] at h1
    have : 0 < r.length := List.length_pos_of_mem ha
    simp only [List.length_cons]
    omega
/-- What is told of all that can come: too many states, or all outcomes. -/
def Told (nx : S → List S) (outs : S → List Oc) (s0 : S) (mx : Nat) (full : Bool) (l : List Oc) : Prop :=
  (full = true ∧ ∃ K : List S, K.Nodup ∧ (∀ s, s ∈ K → Rch nx s0 s) ∧ mx < K.length) ∨ (full = false ∧ SortedO l ∧ (∀ o, o ∈ l ↔ ∃ s, Rch nx s0 s ∧ o ∈ outs s) ∧ ∃ K : List S, K.Nodup ∧ (∀ s, s ∈ K ↔ Rch nx s0 s) ∧ K.length ≤ mx)
theorem told_same [DecidableEq S] {nx : S → List S} {outs : S → List Oc} {s0 : S} {mx : Nat} {f1 f2 : Bool} {l1 l2 : List Oc} (h1 : Told nx outs s0 mx f1 l1) (h2 : Told nx outs s0 mx f2 l2) : f1 = f2 ∧ (f1 = false → l1 = l2) := by
  rcases h1 with ⟨e1, K1, n1, r1, c1⟩ | ⟨e1, s1, m1, K1, n1, r1, c1⟩ <;> rcases h2 with ⟨e2, K2, n2, r2, c2⟩ | ⟨e2, s2, m2, K2, n2, r2, c2⟩
  · exact ⟨e1.trans e2.symm, fun h => by rw [e1] at h; cases h⟩
  · have := nodup_len n1 (fun x hx => (r2 x).2 (r1 x hx))
    omega
  · have := nodup_len n2 (fun x hx => (r1 x).2 (r2 x hx))
    omega
  · exact ⟨e1.trans e2.symm, fun _ => sorted_same s1 s2 (fun o => (m1 o).trans (m2 o).symm)⟩
/-- What holds while states are gone through: K known, P gone through, E outcomes so far. -/
structure Wk (nx : S → List S) (outs : S → List Oc) (s0 : S) (K : List S) (P : S → Prop) (E : Oc → Prop) : Prop where
  nodup : K.Nodup
  first : s0 ∈ K
  reach : ∀ s, s ∈ K → Rch nx s0 s
  known : ∀ s, P s → s ∈ K
  next : ∀ s, P s → ∀ t, t ∈ nx s → t ∈ K
  ends : ∀ o, E o → ∃ s, Rch nx s0 s ∧ o ∈ outs s
  all : ∀ s, P s → ∀ o, o ∈ outs s → E o
theorem Wk.whole {nx : S → List S} {outs : S → List Oc} {s0 : S} {K : List S} {P : S → Prop} {E : Oc → Prop} (h : Wk nx outs s0 K P E) (hP : ∀ s, s ∈ K → P s) : (∀ s, s ∈ K ↔ Rch nx s0 s) ∧ ∀ o, E o ↔ ∃ s, Rch nx s0 s ∧ o ∈ outs s := by
  have hr : ∀ s, Rch nx s0 s → s ∈ K := fun s hs => by
    induction hs with
    | base => exact h.first
    | step _ ht ih => exact h.next _ (hP _ ih) _ ht
  exact ⟨fun s => ⟨h.reach s, hr s⟩, fun o => ⟨h.ends o, fun ⟨s, hs, ho⟩ => h.all s (hP s (hr s hs)) o ho⟩⟩
theorem Wk.told {nx : S → List S} {outs : S → List Oc} {s0 : S} {K : List S} {P : S → Prop} {E : Oc → Prop} {mx : Nat} {l : List Oc} (h : Wk nx outs s0 K P E) (hP : ∀ s, s ∈ K → P s) (hs : SortedO l) (hl : ∀ o, o ∈ l ↔ E o) (hk : K.length ≤ mx) : Told nx outs s0 mx false l := by
  obtain ⟨h1, h2⟩ := h.whole hP
  exact Or.inr ⟨rfl, hs, fun o => (hl o).trans (h2 o), K, h.nodup, h1, hk⟩
theorem Wk.full {nx : S → List S} {outs : S → List Oc} {s0 : S} {K : List S} {P : S → Prop} {E : Oc → Prop} {mx : Nat} (l : List Oc) (h : Wk nx outs s0 K P E) (hk : mx < K.length) : Told nx outs s0 mx true l := Or.inl ⟨rfl, K, h.nodup, h.reach, hk⟩
end
end

section
open Go.RowKit

/-- A list of numbers lies in w. -/
def IIn (w : World) (a : Option Addr) (n : Nat) (X : Nat → Int) : Prop := ∀ i, i < n → ∃ b o, a = some ⟨b, o, none⟩ ∧ w.cell? ⟨b, o + i, none⟩ = some (.int .i64 (X i))
theorem IIn.below {w w' : World} {a : Option Addr} {n : Nat} {X : Nat → Int} (h : IIn w a n X) (hb : Below w.heap.size w w') : IIn w' a n X := fun i hi => by
  obtain ⟨b, o, hc, h1⟩ := h i hi
  exact ⟨b, o, hc, (hb.cell (lt_of_cell h1)).trans h1⟩
end

section
open Go.RowKit

theorem IsI.iin {w : World} {B : Nat} {a : Option Addr} {len c : Nat} {xs : List Int} (h : IsI w B a len c xs) : IIn w a len (fun i => xs.getD i 0) := fun i hi => by
  obtain ⟨g, cap, h1, h2, _, _⟩ := fam_block h.own (by omega)
  simp only [Value.slice.injEq] at h1
  exact ⟨g, 0, h1.1, by simpa using fam_cell h.own h2 (intsV_at (by rw [h.is]; exact hi))⟩
end

section
open Go.RowKit

/-! An outcome put into its place, one behind the other. -/
theorem ins_end {o : Oc} : ∀ {l : List Oc}, (∀ x, x ∈ l → aheadO x o = true) → insO o l = l ++ [o]
  | [], _ => rfl
  | a :: l, h => by
    have h1 := h a (by simp)
    unfold insO
    rw [ahead_asym h1, h1, ins_end (fun x hx => h x (by simp [hx]))]
    rfl
theorem ins_mid {o x : Oc} {r : List Oc} (hx : aheadO o x = true) : ∀ {l : List Oc}, (∀ y, y ∈ l → aheadO y o = true) → insO o (l ++ x :: r) = l ++ o :: x :: r
  | [], _ => by
    show insO o (x :: r) = _
    unfold insO
    rw [hx]
    rfl
  | a :: l, h => by
    have h1 := h a (by simp)
    show insO o (a :: (l ++ x :: r)) = _
    unfold insO
    rw [ahead_asym h1, h1, ins_mid hx (fun y hy => h y (by simp [hy]))]
    rfl
theorem ins_in {o : Oc} {r : List Oc} : ∀ {l : List Oc}, (∀ y, y ∈ l → aheadO y o = true) → insO o (l ++ o :: r) = l ++ o :: r
  | [], _ => by
    show insO o (o :: r) = _
    unfold insO
    rw [ahead_irr]
    rfl
  | a :: l, h => by
    have h1 := h a (by simp)
    show insO o (a :: (l ++ o :: r)) = _
    unfold insO
    rw [ahead_asym h1, h1, ins_in (fun y hy => h y (by simp [hy]))]
    rfl
/-- What has been written so far, of the first k. -/
def putK (o : Oc) (l : List Oc) (done : Bool) (k : Nat) : List Oc := if done then insO o (l.take k) else l.take k
structure PutI (o : Oc) (l : List Oc) (done : Bool) (k : Nat) : Prop where
  no : done = false → ∀ x, x ∈ l.take k → aheadO x o = true
  yes : done = true → ∃ l1 x l2, l.take k = l1 ++ x :: l2 ∧ aheadO o x = true ∧ ∀ y, y ∈ l1 → aheadO y o = true
theorem PutI.start (o : Oc) (l : List Oc) : PutI o l false 0 := ⟨fun _ x hx => (by cases hx), fun h => (by cases h)⟩
section
variable {o : Oc} {l : List Oc} {k : Nat}
theorem take_next (hk : k < l.length) : l.take (k + 1) = l.take k ++ [l.getD k default] := by
  rw [List.take_add_one, List.getElem?_eq_getElem hk, List.getD_eq_getElem?_getD, List.getElem?_eq_getElem hk]
  rfl
theorem PutI.later {done : Bool} (h : PutI o l done k) (hk : k < l.length) (hd : done = true) : PutI o l true (k + 1) ∧ putK o l true (k + 1) = putK o l done k ++ [l.getD k default] := by
  obtain ⟨l1, x, l2, e, hx, hy⟩ := h.yes hd
  have e2 : l.take (k + 1) = l1 ++ x :: (l2 ++ [l.getD k default]) := by rw [take_next hk, e]; simp
  refine ⟨⟨fun h => (by cases h), fun _ => ⟨l1, x, _, e2, hx, hy⟩⟩, ?_⟩
  unfold putK
  rw [if_pos rfl, if_pos hd, e2, e, ins_mid hx hy, ins_mid hx hy]
  simp
theorem PutI.now (h : PutI o l false k) (hk : k < l.length) (ho : aheadO o (l.getD k default) = true) : PutI o l true (k + 1) ∧ putK o l true (k + 1) = putK o l false k ++ [o] ++ [l.getD k default] := by
  refine ⟨⟨fun h => (by cases h), fun _ => ⟨l.take k, _, [], take_next hk, ho, h.no rfl⟩⟩, ?_⟩
  unfold putK
  rw [if_pos rfl, if_neg (by simp), take_next hk, ins_mid ho (h.no rfl)]
  simp
theorem PutI.skip (h : PutI o l false k) (hk : k < l.length) (ho : aheadO (l.getD k default) o = true) : PutI o l false (k + 1) ∧ putK o l false (k + 1) = putK o l false k ++ [l.getD k default] := by
  refine ⟨⟨fun _ x hx => ?_, fun h => by cases h⟩, ?_⟩
  · rw [take_next hk] at hx
    rcases List.mem_append.mp hx with hx | hx
    · exact h.no rfl x hx
    · rw [List.mem_singleton.mp hx]; exact ho
  · unfold putK
    rw [if_neg (by simp), if_neg (by simp), take_next hk]
/-- One that is there already. -/
theorem PutI.there {done : Bool} (h : PutI o l done k) (hs : SortedO l) (hk : k < l.length) (h1 : aheadO o (l.getD k default) = false) (h2 : aheadO (l.getD k default) o = false) : insO o l = l := by
  have e := ahead_tri h1 h2
  have hd : l = l.take k ++ l.getD k default :: l.drop (k + 1) := by
    have := List.take_append_drop (k + 1) l
    rw [take_next hk, List.append_assoc] at this
    exact this.symm
  cases done with
  | false =>
    rw [hd, ← e]
    exact ins_in (h.no rfl)
  | true =>
    obtain ⟨l1, x, l2, e3, hx, hy⟩ := h.yes rfl
    have hp : SortedO l := hs
    rw [hd, e3, SortedO, List.pairwise_append] at hp
    have := hp.2.2 x (by simp) (l.getD k default) (by simp)
    rw [← e, ahead_asym hx] at this
    cases this
theorem PutI.last {done : Bool} (h : PutI o l done l.length) : insO o l = if done then putK o l true l.length else putK o l false l.length ++ [o] := by
  cases done with
  | false =>
    have := h.no rfl
    rw [List.take_length] at this
    rw [if_neg (by simp), ins_end this]
    unfold putK
    rw [if_neg (by simp), List.take_length]
  | true =>
    rw [if_pos rfl]
    unfold putK
    rw [if_pos rfl, List.take_length]
end
end

section
open Go.RowKit

/-- The last of the first n whose sum is h; -1: none. -/
def lastS (f : Nat → Nat) (h : Nat) : Nat → Int
  | 0 => -1
  | n + 1 => if f n = h then (n : Int) else lastS f h n
section
variable {f : Nat → Nat} {h : Nat}
theorem last_lt : ∀ n, lastS f h n < n
  | 0 => by show (-1 : Int) < _; omega
  | n + 1 => by
    unfold lastS
    split
    · omega
    · have := last_lt n; omega
theorem last_low : ∀ n, -1 ≤ lastS f h n
  | 0 => by show (-1 : Int) ≤ -1; omega
  | n + 1 => by
    unfold lastS
    split
    · omega
    · exact last_low n
/-- The last one is of the sum, and none behind it is. -/
theorem last_is : ∀ n i, lastS f h n = (i : Nat) → f i = h ∧ ∀ j, i < j → j < n → f j ≠ h
  | 0, i, e => by
    have : (-1 : Int) = (i : Nat) := e
    omega
  | n + 1, i, e => by
    unfold lastS at e
    by_cases hn : f n = h
    · rw [if_pos hn] at e
      obtain rfl : n = i := by omega
      exact ⟨hn, fun j h1 h2 => by omega⟩
    · rw [if_neg hn] at e
      obtain ⟨h1, h2⟩ := last_is n i e
      refine ⟨h1, fun j h3 h4 => ?_⟩
      rcases Nat.lt_or_ge j n with h5 | h5
      · exact h2 j h3 h5
      · obtain rfl : j = n := by omega
        exact hn
theorem last_none : ∀ n, lastS f h n < 0 → ∀ j, j < n → f j ≠ h
  | 0, _, j, hj => absurd hj (Nat.not_lt_zero _)
  | n + 1, e, j, hj => by
    unfold lastS at e
    by_cases hn : f n = h
    · rw [if_pos hn] at e; omega
    · rw [if_neg hn] at e
      rcases Nat.lt_or_ge j n with h5 | h5
      · exact last_none n e j h5
      · obtain rfl : j = n := by omega
        exact hn
theorem last_congr {g : Nat → Nat} : ∀ n, (∀ i, i < n → g i = f i) → lastS g h n = lastS f h n
  | 0, _ => rfl
  | n + 1, e => by
    unfold lastS
    rw [e n (by omega), last_congr n (fun i hi => e i (by omega))]
end
end

section
open Go.RowKit

theorem full_any (w : World) : Calls Tryz.prog 11 #[] w fun e w' => e = .returned (ints3 10 0 0) ∧ Below w.heap.size w w' := by
  go_enter Tryz.func11, Tryz.ntmps11
  go_wp2
  refine bodyPost_ret (v := ints3 10 0 0) (by simp [results, Tryz.results11, go_sem]) rfl ⟨rfl, (Below.refl _ _).alloc (Nat.le_refl _) _⟩
end

end Go.Proofs.YtgofbkgfonlceabGreatDoor
