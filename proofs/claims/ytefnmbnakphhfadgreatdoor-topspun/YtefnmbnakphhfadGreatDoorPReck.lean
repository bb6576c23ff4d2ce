/-
  What the program makes of orders that a thread's registers alone have to do with.
-/
import Derived.Test.YtefnmbnakphhfadGreatDoorRLk
import Derived.Test.YtefnmbnakphhfadGreatDoorTruth
namespace Go.Proofs.YtefnmbnakphhfadGreatDoor
open Go.RowKit

set_option maxRecDepth 100000 in
set_option maxHeartbeats 3200000 in
theorem reckon_1 (w : World) (B : Nat) (Q : Cd) (sb mb : Nat) (v : Rp → Value) (s : Sx) (rg t tb : Nat) (ia : Nat) (b : Int) (c : Int) (hs : QSt w B Q sb mb v s) (htb : (v .thr).ownBlock = some tb) (ht : t < s.ths.length) (_hn : s.ths.length ≤ 4) (hrl : (thOf s t).regs.length = rg) (_hrg : rg ≤ 200) (ha : ia < rg) :
    Calls Tryz.prog 106 #[.pointer (some ⟨tb, t * 3, none⟩), ints4 1 (ia : Int) b c] w fun e w' => e = .returned (.tuple #[]) ∧ QSt w' B Q sb mb v (orderX Q.K.mode s t 1 (ia : Int) b c) ∧ Moved w w' v v := by
  have hst : orderX Q.K.mode s t 1 (ia : Int) b c = setR s t (ia : Int) (b) := by
    rfl
  rw [hst]
  obtain ⟨rb, rc, hrv, hrb, hlt⟩ := hs.blk (.regs t) (by show 0 < (thOf s t).regs.length; omega)
  have hrn : pN Q s (.regs t) = rg := hrl
  rw [hrn] at hrv
  have cr := hs.regs htb ht
  rw [hrv] at cr
  have wa := hs.reg hrb (r := ia) (by omega)
  have fa := hs.fam.frozen hrb ia
  have cru := cell_up cr
  have wau := cell_up wa
  have fau := frozen_up (a := ⟨rb, ia, none⟩) hlt fa
  have HF := Hid.out (p := Hid _) (⟨hs.setReg hrb ht ia (b), (Moved.refl w v).put hrb ia _⟩ : QSt (w.setCell ⟨rb, ia, none⟩ (.int .i64 (b))) B Q sb mb v (setR s t (ia : Int) (b)) ∧ Moved w (w.setCell ⟨rb, ia, none⟩ (.int .i64 (b))) v v)
  obtain ⟨VA, eA⟩ : ∃ x, getR s t (ia : Int) = x := ⟨_, rfl⟩
  have wa' := wau
  simp only [eA] at wa'
  clear wau wa hs hrv hrb hst hrn eA
  go_enter Tryz.func106, Tryz.ntmps106
  go_wp2
  go_end0
  exact ⟨rfl, QSt.same (HF.out.1.alloc _) rfl, Moved.same (HF.out.2.alloc _) rfl rfl rfl rfl⟩

set_option maxRecDepth 100000 in
set_option maxHeartbeats 3200000 in
theorem reckon_2 (w : World) (B : Nat) (Q : Cd) (sb mb : Nat) (v : Rp → Value) (s : Sx) (rg t tb : Nat) (ia : Nat) (ib : Nat) (c : Int) (hs : QSt w B Q sb mb v s) (htb : (v .thr).ownBlock = some tb) (ht : t < s.ths.length) (_hn : s.ths.length ≤ 4) (hrl : (thOf s t).regs.length = rg) (_hrg : rg ≤ 200) (ha : ia < rg) (hb : ib < rg) :
    Calls Tryz.prog 106 #[.pointer (some ⟨tb, t * 3, none⟩), ints4 2 (ia : Int) (ib : Int) c] w fun e w' => e = .returned (.tuple #[]) ∧ QSt w' B Q sb mb v (orderX Q.K.mode s t 2 (ia : Int) (ib : Int) c) ∧ Moved w w' v v := by
  have hst : orderX Q.K.mode s t 2 (ia : Int) (ib : Int) c = setR s t (ia : Int) ((getR s t (ib : Int))) := by
    rfl
  rw [hst]
  obtain ⟨rb, rc, hrv, hrb, hlt⟩ := hs.blk (.regs t) (by show 0 < (thOf s t).regs.length; omega)
  have hrn : pN Q s (.regs t) = rg := hrl
  rw [hrn] at hrv
  have cr := hs.regs htb ht
  rw [hrv] at cr
  have wa := hs.reg hrb (r := ia) (by omega)
  have fa := hs.fam.frozen hrb ia
  have cru := cell_up cr
  have wau := cell_up wa
  have fau := frozen_up (a := ⟨rb, ia, none⟩) hlt fa
  have wb := hs.reg hrb (r := ib) (by omega)
  have wbu := cell_up wb
  have HF := Hid.out (p := Hid _) (⟨hs.setReg hrb ht ia ((getR s t (ib : Int))), (Moved.refl w v).put hrb ia _⟩ : QSt (w.setCell ⟨rb, ia, none⟩ (.int .i64 ((getR s t (ib : Int))))) B Q sb mb v (setR s t (ia : Int) ((getR s t (ib : Int)))) ∧ Moved w (w.setCell ⟨rb, ia, none⟩ (.int .i64 ((getR s t (ib : Int))))) v v)
  obtain ⟨Vb, eb⟩ : ∃ x, getR s t (ib : Int) = x := ⟨_, rfl⟩
  rw [eb] at HF ⊢
  rw [eb] at wb wbu
  obtain ⟨VA, eA⟩ : ∃ x, getR s t (ia : Int) = x := ⟨_, rfl⟩
  have wa' := wau
  simp only [eA] at wa'
  clear wau wa hs hrv hrb hst hrn eA eb
  go_enter Tryz.func106, Tryz.ntmps106
  go_wp2
  refine region_tail 9 (by kernel_rfl) (by kernel_rfl) ?_
  simp only [List.take_succ_cons, List.take_zero, List.drop_succ_cons, List.drop_zero]
  repeat still_step
  refine wpStill_nil ?_
  go_wp2
  go_end0
  exact ⟨rfl, QSt.same (HF.out.1.alloc _) rfl, Moved.same (HF.out.2.alloc _) rfl rfl rfl rfl⟩

set_option maxRecDepth 100000 in
set_option maxHeartbeats 3200000 in
theorem reckon_3 (w : World) (B : Nat) (Q : Cd) (sb mb : Nat) (v : Rp → Value) (s : Sx) (rg t tb : Nat) (ia : Nat) (ib : Nat) (ic : Nat) (hs : QSt w B Q sb mb v s) (htb : (v .thr).ownBlock = some tb) (ht : t < s.ths.length) (_hn : s.ths.length ≤ 4) (hrl : (thOf s t).regs.length = rg) (_hrg : rg ≤ 200) (ha : ia < rg) (hb : ib < rg) (hc : ic < rg) :
    Calls Tryz.prog 106 #[.pointer (some ⟨tb, t * 3, none⟩), ints4 3 (ia : Int) (ib : Int) (ic : Int)] w fun e w' => e = .returned (.tuple #[]) ∧ QSt w' B Q sb mb v (orderX Q.K.mode s t 3 (ia : Int) (ib : Int) (ic : Int)) ∧ Moved w w' v v := by
  have hst : orderX Q.K.mode s t 3 (ia : Int) (ib : Int) (ic : Int) = setR s t (ia : Int) (wrap64 ((getR s t (ib : Int)) + (getR s t (ic : Int)))) := by
    show setR s t (ia : Int) _ = _
    rw [IntWalk.i64_left]
  rw [hst]
  obtain ⟨rb, rc, hrv, hrb, hlt⟩ := hs.blk (.regs t) (by show 0 < (thOf s t).regs.length; omega)
  have hrn : pN Q s (.regs t) = rg := hrl
  rw [hrn] at hrv
  have cr := hs.regs htb ht
  rw [hrv] at cr
  have wa := hs.reg hrb (r := ia) (by omega)
  have fa := hs.fam.frozen hrb ia
  have cru := cell_up cr
  have wau := cell_up wa
  have fau := frozen_up (a := ⟨rb, ia, none⟩) hlt fa
  have wb := hs.reg hrb (r := ib) (by omega)
  have wbu := cell_up wb
  have wc := hs.reg hrb (r := ic) (by omega)
  have wcu := cell_up wc
  have HF := Hid.out (p := Hid _) (⟨hs.setReg hrb ht ia (wrap64 ((getR s t (ib : Int)) + (getR s t (ic : Int)))), (Moved.refl w v).put hrb ia _⟩ : QSt (w.setCell ⟨rb, ia, none⟩ (.int .i64 (wrap64 ((getR s t (ib : Int)) + (getR s t (ic : Int)))))) B Q sb mb v (setR s t (ia : Int) (wrap64 ((getR s t (ib : Int)) + (getR s t (ic : Int))))) ∧ Moved w (w.setCell ⟨rb, ia, none⟩ (.int .i64 (wrap64 ((getR s t (ib : Int)) + (getR s t (ic : Int)))))) v v)
  obtain ⟨Vb, eb⟩ : ∃ x, getR s t (ib : Int) = x := ⟨_, rfl⟩
  obtain ⟨Vc, ec⟩ : ∃ x, getR s t (ic : Int) = x := ⟨_, rfl⟩
  rw [eb, ec] at HF ⊢
  rw [eb] at wb wbu
  rw [ec] at wc wcu
  obtain ⟨VA, eA⟩ : ∃ x, getR s t (ia : Int) = x := ⟨_, rfl⟩
  have wa' := wau
  simp only [eA] at wa'
  clear wau wa hs hrv hrb hst hrn eA eb ec
  go_enter Tryz.func106, Tryz.ntmps106
  go_wp2
  refine region_tail 15 (by kernel_rfl) (by kernel_rfl) ?_
  simp only [List.take_succ_cons, List.take_zero, List.drop_succ_cons, List.drop_zero]
  repeat still_step
  refine wpStill_nil ?_
  go_wp2
  go_end0
  exact ⟨rfl, QSt.same (HF.out.1.alloc _) rfl, Moved.same (HF.out.2.alloc _) rfl rfl rfl rfl⟩

set_option maxRecDepth 100000 in
set_option maxHeartbeats 3200000 in
theorem reckon_4 (w : World) (B : Nat) (Q : Cd) (sb mb : Nat) (v : Rp → Value) (s : Sx) (rg t tb : Nat) (ia : Nat) (ib : Nat) (ic : Nat) (hs : QSt w B Q sb mb v s) (htb : (v .thr).ownBlock = some tb) (ht : t < s.ths.length) (_hn : s.ths.length ≤ 4) (hrl : (thOf s t).regs.length = rg) (_hrg : rg ≤ 200) (ha : ia < rg) (hb : ib < rg) (hc : ic < rg) :
    Calls Tryz.prog 106 #[.pointer (some ⟨tb, t * 3, none⟩), ints4 4 (ia : Int) (ib : Int) (ic : Int)] w fun e w' => e = .returned (.tuple #[]) ∧ QSt w' B Q sb mb v (orderX Q.K.mode s t 4 (ia : Int) (ib : Int) (ic : Int)) ∧ Moved w w' v v := by
  have hst : orderX Q.K.mode s t 4 (ia : Int) (ib : Int) (ic : Int) = setR s t (ia : Int) (wrap64 ((getR s t (ib : Int)) - (getR s t (ic : Int)))) := by
    show setR s t (ia : Int) _ = _
    rw [IntWalk.i64_left]
  rw [hst]
  obtain ⟨rb, rc, hrv, hrb, hlt⟩ := hs.blk (.regs t) (by show 0 < (thOf s t).regs.length; omega)
  have hrn : pN Q s (.regs t) = rg := hrl
  rw [hrn] at hrv
  have cr := hs.regs htb ht
  rw [hrv] at cr
  have wa := hs.reg hrb (r := ia) (by omega)
  have fa := hs.fam.frozen hrb ia
  have cru := cell_up cr
  have wau := cell_up wa
  have fau := frozen_up (a := ⟨rb, ia, none⟩) hlt fa
  have wb := hs.reg hrb (r := ib) (by omega)
  have wbu := cell_up wb
  have wc := hs.reg hrb (r := ic) (by omega)
  have wcu := cell_up wc
  have HF := Hid.out (p := Hid _) (⟨hs.setReg hrb ht ia (wrap64 ((getR s t (ib : Int)) - (getR s t (ic : Int)))), (Moved.refl w v).put hrb ia _⟩ : QSt (w.setCell ⟨rb, ia, none⟩ (.int .i64 (wrap64 ((getR s t (ib : Int)) - (getR s t (ic : Int)))))) B Q sb mb v (setR s t (ia : Int) (wrap64 ((getR s t (ib : Int)) - (getR s t (ic : Int))))) ∧ Moved w (w.setCell ⟨rb, ia, none⟩ (.int .i64 (wrap64 ((getR s t (ib : Int)) - (getR s t (ic : Int)))))) v v)
  obtain ⟨Vb, eb⟩ : ∃ x, getR s t (ib : Int) = x := ⟨_, rfl⟩
  obtain ⟨Vc, ec⟩ : ∃ x, getR s t (ic : Int) = x := ⟨_, rfl⟩
  rw [eb, ec] at HF ⊢
  rw [eb] at wb wbu
  rw [ec] at wc wcu
  obtain ⟨VA, eA⟩ : ∃ x, getR s t (ia : Int) = x := ⟨_, rfl⟩
  have wa' := wau
  simp only [eA] at wa'
  clear wau wa hs hrv hrb hst hrn eA eb ec
  go_enter Tryz.func106, Tryz.ntmps106
  go_wp2
  refine region_tail 15 (by kernel_rfl) (by kernel_rfl) ?_
  simp only [List.take_succ_cons, List.take_zero, List.drop_succ_cons, List.drop_zero]
  repeat still_step
  refine wpStill_nil ?_
  go_wp2
  go_end0
  exact ⟨rfl, QSt.same (HF.out.1.alloc _) rfl, Moved.same (HF.out.2.alloc _) rfl rfl rfl rfl⟩

set_option maxRecDepth 100000 in
set_option maxHeartbeats 3200000 in
theorem reckon_5 (w : World) (B : Nat) (Q : Cd) (sb mb : Nat) (v : Rp → Value) (s : Sx) (rg t tb : Nat) (ia : Nat) (ib : Nat) (ic : Nat) (hs : QSt w B Q sb mb v s) (htb : (v .thr).ownBlock = some tb) (ht : t < s.ths.length) (_hn : s.ths.length ≤ 4) (hrl : (thOf s t).regs.length = rg) (_hrg : rg ≤ 200) (ha : ia < rg) (hb : ib < rg) (hc : ic < rg) :
    Calls Tryz.prog 106 #[.pointer (some ⟨tb, t * 3, none⟩), ints4 5 (ia : Int) (ib : Int) (ic : Int)] w fun e w' => e = .returned (.tuple #[]) ∧ QSt w' B Q sb mb v (orderX Q.K.mode s t 5 (ia : Int) (ib : Int) (ic : Int)) ∧ Moved w w' v v := by
  have hst : orderX Q.K.mode s t 5 (ia : Int) (ib : Int) (ic : Int) = setR s t (ia : Int) (wrap64 ((getR s t (ib : Int)) * (getR s t (ic : Int)))) := by
    show setR s t (ia : Int) _ = _
    rw [IntWalk.i64_left]
  rw [hst]
  obtain ⟨rb, rc, hrv, hrb, hlt⟩ := hs.blk (.regs t) (by show 0 < (thOf s t).regs.length; omega)
  have hrn : pN Q s (.regs t) = rg := hrl
  rw [hrn] at hrv
  have cr := hs.regs htb ht
  rw [hrv] at cr
  have wa := hs.reg hrb (r := ia) (by omega)
  have fa := hs.fam.frozen hrb ia
  have cru := cell_up cr
  have wau := cell_up wa
  have fau := frozen_up (a := ⟨rb, ia, none⟩) hlt fa
  have wb := hs.reg hrb (r := ib) (by omega)
  have wbu := cell_up wb
  have wc := hs.reg hrb (r := ic) (by omega)
  have wcu := cell_up wc
  have HF := Hid.out (p := Hid _) (⟨hs.setReg hrb ht ia (wrap64 ((getR s t (ib : Int)) * (getR s t (ic : Int)))), (Moved.refl w v).put hrb ia _⟩ : QSt (w.setCell ⟨rb, ia, none⟩ (.int .i64 (wrap64 ((getR s t (ib : Int)) * (getR s t (ic : Int)))))) B Q sb mb v (setR s t (ia : Int) (wrap64 ((getR s t (ib : Int)) * (getR s t (ic : Int))))) ∧ Moved w (w.setCell ⟨rb, ia, none⟩ (.int .i64 (wrap64 ((getR s t (ib : Int)) * (getR s t (ic : Int)))))) v v)
  obtain ⟨Vb, eb⟩ : ∃ x, getR s t (ib : Int) = x := ⟨_, rfl⟩
  obtain ⟨Vc, ec⟩ : ∃ x, getR s t (ic : Int) = x := ⟨_, rfl⟩
  rw [eb, ec] at HF ⊢
  rw [eb] at wb wbu
  rw [ec] at wc wcu
  obtain ⟨VA, eA⟩ : ∃ x, getR s t (ia : Int) = x := ⟨_, rfl⟩
  have wa' := wau
  simp only [eA] at wa'
  clear wau wa hs hrv hrb hst hrn eA eb ec
  go_enter Tryz.func106, Tryz.ntmps106
  go_wp2
  refine region_tail 15 (by kernel_rfl) (by kernel_rfl) ?_
  simp only [List.take_succ_cons, List.take_zero, List.drop_succ_cons, List.drop_zero]
  repeat still_step
  refine wpStill_nil ?_
  go_wp2
  go_end0
  exact ⟨rfl, QSt.same (HF.out.1.alloc _) rfl, Moved.same (HF.out.2.alloc _) rfl rfl rfl rfl⟩

set_option maxRecDepth 100000 in
set_option maxHeartbeats 3200000 in
theorem reckon_6 (w : World) (B : Nat) (Q : Cd) (sb mb : Nat) (v : Rp → Value) (s : Sx) (rg t tb : Nat) (ia : Nat) (ib : Nat) (ic : Nat) (hs : QSt w B Q sb mb v s) (htb : (v .thr).ownBlock = some tb) (ht : t < s.ths.length) (_hn : s.ths.length ≤ 4) (hrl : (thOf s t).regs.length = rg) (_hrg : rg ≤ 200) (ha : ia < rg) (hb : ib < rg) (hc : ic < rg) :
    Calls Tryz.prog 106 #[.pointer (some ⟨tb, t * 3, none⟩), ints4 6 (ia : Int) (ib : Int) (ic : Int)] w fun e w' => e = .returned (.tuple #[]) ∧ QSt w' B Q sb mb v (orderX Q.K.mode s t 6 (ia : Int) (ib : Int) (ic : Int)) ∧ Moved w w' v v := by
  have hst : orderX Q.K.mode s t 6 (ia : Int) (ib : Int) (ic : Int) = setR s t (ia : Int) (bitI (decide ((getR s t (ib : Int)) < (getR s t (ic : Int))))) := by
    rfl
  rw [hst]
  obtain ⟨rb, rc, hrv, hrb, hlt⟩ := hs.blk (.regs t) (by show 0 < (thOf s t).regs.length; omega)
  have hrn : pN Q s (.regs t) = rg := hrl
  rw [hrn] at hrv
  have cr := hs.regs htb ht
  rw [hrv] at cr
  have wa := hs.reg hrb (r := ia) (by omega)
  have fa := hs.fam.frozen hrb ia
  have cru := cell_up cr
  have wau := cell_up wa
  have fau := frozen_up (a := ⟨rb, ia, none⟩) hlt fa
  have wb := hs.reg hrb (r := ib) (by omega)
  have wbu := cell_up wb
  have wc := hs.reg hrb (r := ic) (by omega)
  have wcu := cell_up wc
  have HF := Hid.out (p := Hid _) (⟨hs.setReg hrb ht ia (bitI (decide ((getR s t (ib : Int)) < (getR s t (ic : Int))))), (Moved.refl w v).put hrb ia _⟩ : QSt (w.setCell ⟨rb, ia, none⟩ (.int .i64 (bitI (decide ((getR s t (ib : Int)) < (getR s t (ic : Int))))))) B Q sb mb v (setR s t (ia : Int) (bitI (decide ((getR s t (ib : Int)) < (getR s t (ic : Int)))))) ∧ Moved w (w.setCell ⟨rb, ia, none⟩ (.int .i64 (bitI (decide ((getR s t (ib : Int)) < (getR s t (ic : Int))))))) v v)
  obtain ⟨Vb, eb⟩ : ∃ x, getR s t (ib : Int) = x := ⟨_, rfl⟩
  obtain ⟨Vc, ec⟩ : ∃ x, getR s t (ic : Int) = x := ⟨_, rfl⟩
  rw [eb, ec] at HF ⊢
  rw [eb] at wb wbu
  rw [ec] at wc wcu
  obtain ⟨VA, eA⟩ : ∃ x, getR s t (ia : Int) = x := ⟨_, rfl⟩
  have wa' := wau
  simp only [eA] at wa'
  clear wau wa hs hrv hrb hst hrn eA eb ec
  go_enter Tryz.func106, Tryz.ntmps106
  go_wp2
  refine region_tail 16 (by kernel_rfl) (by kernel_rfl) ?_
  simp only [List.take_succ_cons, List.take_zero, List.drop_succ_cons, List.drop_zero]
  repeat still_step
  still_call (truth_any _ _)
  repeat still_step
  refine wpStill_nil ?_
  go_wp2
  go_end0
  exact ⟨rfl, QSt.same (HF.out.1.alloc _) rfl, Moved.same (HF.out.2.alloc _) rfl rfl rfl rfl⟩

set_option maxRecDepth 100000 in
set_option maxHeartbeats 3200000 in
theorem reckon_7 (w : World) (B : Nat) (Q : Cd) (sb mb : Nat) (v : Rp → Value) (s : Sx) (rg t tb : Nat) (ia : Nat) (ib : Nat) (ic : Nat) (hs : QSt w B Q sb mb v s) (htb : (v .thr).ownBlock = some tb) (ht : t < s.ths.length) (_hn : s.ths.length ≤ 4) (hrl : (thOf s t).regs.length = rg) (_hrg : rg ≤ 200) (ha : ia < rg) (hb : ib < rg) (hc : ic < rg) :
    Calls Tryz.prog 106 #[.pointer (some ⟨tb, t * 3, none⟩), ints4 7 (ia : Int) (ib : Int) (ic : Int)] w fun e w' => e = .returned (.tuple #[]) ∧ QSt w' B Q sb mb v (orderX Q.K.mode s t 7 (ia : Int) (ib : Int) (ic : Int)) ∧ Moved w w' v v := by
  have hst : orderX Q.K.mode s t 7 (ia : Int) (ib : Int) (ic : Int) = setR s t (ia : Int) (bitI (decide ((getR s t (ib : Int)) = (getR s t (ic : Int))))) := by
    rfl
  rw [hst]
  obtain ⟨rb, rc, hrv, hrb, hlt⟩ := hs.blk (.regs t) (by show 0 < (thOf s t).regs.length; omega)
  have hrn : pN Q s (.regs t) = rg := hrl
  rw [hrn] at hrv
  have cr := hs.regs htb ht
  rw [hrv] at cr
  have wa := hs.reg hrb (r := ia) (by omega)
  have fa := hs.fam.frozen hrb ia
  have cru := cell_up cr
  have wau := cell_up wa
  have fau := frozen_up (a := ⟨rb, ia, none⟩) hlt fa
  have wb := hs.reg hrb (r := ib) (by omega)
  have wbu := cell_up wb
  have wc := hs.reg hrb (r := ic) (by omega)
  have wcu := cell_up wc
  have HF := Hid.out (p := Hid _) (⟨hs.setReg hrb ht ia (bitI (decide ((getR s t (ib : Int)) = (getR s t (ic : Int))))), (Moved.refl w v).put hrb ia _⟩ : QSt (w.setCell ⟨rb, ia, none⟩ (.int .i64 (bitI (decide ((getR s t (ib : Int)) = (getR s t (ic : Int))))))) B Q sb mb v (setR s t (ia : Int) (bitI (decide ((getR s t (ib : Int)) = (getR s t (ic : Int)))))) ∧ Moved w (w.setCell ⟨rb, ia, none⟩ (.int .i64 (bitI (decide ((getR s t (ib : Int)) = (getR s t (ic : Int))))))) v v)
  obtain ⟨Vb, eb⟩ : ∃ x, getR s t (ib : Int) = x := ⟨_, rfl⟩
  obtain ⟨Vc, ec⟩ : ∃ x, getR s t (ic : Int) = x := ⟨_, rfl⟩
  rw [eb, ec] at HF ⊢
  rw [eb] at wb wbu
  rw [ec] at wc wcu
  obtain ⟨VA, eA⟩ : ∃ x, getR s t (ia : Int) = x := ⟨_, rfl⟩
  have wa' := wau
  simp only [eA] at wa'
  clear wau wa hs hrv hrb hst hrn eA eb ec
  go_enter Tryz.func106, Tryz.ntmps106
  go_wp2
  refine region_tail 16 (by kernel_rfl) (by kernel_rfl) ?_
  simp only [List.take_succ_cons, List.take_zero, List.drop_succ_cons, List.drop_zero]
  repeat still_step
  still_call (truth_any _ _)
  repeat still_step
  refine wpStill_nil ?_
  go_wp2
  go_end0
  exact ⟨rfl, QSt.same (HF.out.1.alloc _) rfl, Moved.same (HF.out.2.alloc _) rfl rfl rfl rfl⟩

set_option maxRecDepth 100000 in
set_option maxHeartbeats 3200000 in
theorem reckon_12 (w : World) (B : Nat) (Q : Cd) (sb mb : Nat) (v : Rp → Value) (s : Sx) (_rg t tb : Nat) (a b c : Int) (hs : QSt w B Q sb mb v s) (htb : (v .thr).ownBlock = some tb) (ht : t < s.ths.length) :
    Calls Tryz.prog 106 #[.pointer (some ⟨tb, t * 3, none⟩), ints4 12 a b c] w fun e w' => e = .returned (.tuple #[]) ∧ QSt w' B Q sb mb v (orderX Q.K.mode s t 12 a b c) ∧ Moved w w' v v := by
  have hst : orderX Q.K.mode s t 12 a b c = s := rfl
  rw [hst]
  have cru := cell_up (hs.regs htb ht)
  obtain ⟨ra, rc, hrv⟩ := hs.form (.regs t)
  rw [hrv] at cru
  have HF := Hid.out (p := Hid _) (⟨hs, Moved.refl w v⟩ : QSt w B Q sb mb v s ∧ Moved w w v v)
  obtain ⟨n, hn⟩ : ∃ n, pN Q s (.regs t) = n := ⟨_, rfl⟩
  rw [hn] at cru
  clear hs hrv hn hst
  go_enter Tryz.func106, Tryz.ntmps106
  go_wp2
  go_end0
  exact ⟨rfl, QSt.same (HF.out.1.alloc _) rfl, Moved.same (HF.out.2.alloc _) rfl rfl rfl rfl⟩

end Go.Proofs.YtefnmbnakphhfadGreatDoor
